import PyProof.Rows.All
import PySem.Challenge.RW_ownfears_k23_whole_kernels
import HandS.ForMost
import HandS.Deep
import HandS.IsInst
import HandS.TupAny
import HandS.TupMul
import HandS.Zip
import HandS.Wide
import HandS.Strs
import HandS.Lambda
import HandS.Style
import HandS.More
import HandS.Dict
import HandS.TupSets
import HandS.SortOrd
import KE.KSortAsk
import HandS.TupLe
import HandS.WideBits
import KE.GoesMore
import KE.GoesEnum
import HandS.Iter
import HandS.ForExc
import HandS.ExcInit
import HandS.WordsExc
import HandS.ExcIs
import HandS.ExcField
import HandS.SetFor
import HandS.HeadWalk
import HandS.HeadHook4
import KE.KStateDown
import HandS.Head0
import HandS.Head1
import HandS.Head2
import HandS.Text
import HandS.Star
import PyProof.Rows.StrMeet
import KE.SortCalls
import HandS.HotCalls
import HandS.FStr
import PyProof.StrLawsRepr
set_option Elab.async false
set_option linter.all false
set_option maxRecDepth 100000
namespace VI
open PySem PySem.Spec PyProof.Rows L2
/-- as the layer's FnOk, for calls under which no guard stands -/
structure FnG (P : Program) (w : World) (K : PySem.W.Frag) (mg : Str → Option Value) (base : Heap) (CX : CXT) (k : Nat) (f : Addr) (fd : FuncData) (ps : List Str) (sp : Sp) : Prop where
  len : ∀ vs H Q E, sp vs H Q E → vs.length = ps.length
  go : ∀ (A : Around) (outer : List Env) (s : Shared) (H : Hp) (args : Args) (us : List Value) (vs : List V) (Q : VK) (E : XK),
    A.guards = some [] → Room k A → Env0 P w K mg base A outer s H → BindsTo s fd args (ps.zip us) → Vals vs us → sp vs H Q E →
    codeAny (model P w) A (.call (.ref f) args) (CR CX outer P w H s Q E) s
theorem FnG.mono {P : Program} {w : World} {K : PySem.W.Frag} {mg : Str → Option Value} {base : Heap} {CX : CXT} {j k : Nat} {f : Addr} {fd : FuncData} {ps : List Str} {sp : Sp}
    (F : FnG P w K mg base CX j f fd ps sp) (h : j ≤ k) : FnG P w K mg base CX k f fd ps sp :=
  ⟨F.len, fun A outer s H args us vs Q E hg hr => F.go A outer s H args us vs Q E hg (hr.mono h)⟩
/-- the rule for a def of the text -/
theorem fnG_of {CX : CXT} {P : Program} {w : World} {K : PySem.W.Frag} {mg : Str → Option Value} {base : Heap} {k : Nat} {x qual : Str} {st : Stmt} {f : Addr} {fd : FuncData} {N ps : List Str} {sp : Sp}
    (F : Fun K x qual st f fd) (S : FnScope N ps (defScope st)) (len : ∀ vs H Q E, sp vs H Q E → vs.length = ps.length)
    (body : ∀ (cdv : Value) (A : Around) (outer : List Env) (s : Shared) (H : Hp) (vs : List V) (Q : VK) (E : XK), fd.code = cdv → A.guards = some [] →
      Room k (A.deeper (envOfC qual (defScope st) s.heap.objs.size f cdv)) → sp vs H Q E →
      ∃ t, PSs (cxOf CX P w K mg base N qual (defScope st) f cdv A outer s H E) (defBody st) t ∧ t { nx := fun _ H' => Q .non H', rt := Q } (start N vs) H) :
    FnG P w K mg base CX (k + 1) f fd ps sp := by
  obtain ⟨oc, od, kV, doc, pm, an, cdv, ct, osl, rfl, lk, hcd⟩ := F.ex
  constructor
  · exact len
  intro A outer s H args us vs Q E hg hr e0 hb rv hsp
  have inS : K.In s.heap := e0.mod.kin.keeps fun b o e => (e0.bs b o e).1
  have roomy : s.heap.NoLimit := e0.mod.nolimit.keeps fun b o e => (e0.bs b o e).1
  have places : ∀ y ∈ ps.zip us, (defScope st).names.lookup y.1 = some .local ∨
      ((defScope st).names.lookup y.1 = some .cell ∧ ((cellsFrom (s.heap.objs.size + 1) (defScope st).names []).lookup y.1).isSome = true) := by
    rintro ⟨n, v⟩ hy
    have q := S.par n (List.of_mem_zip hy).1
    exact q.imp id fun z => ⟨z, PySem.W.cellsFrom_some _ _ _ (.inl z)⟩
  apply codeAny_call_function hr.depth (inS _ _ lk) rfl S.co S.gen rfl (PySem.W.codeRec_of inS hcd) (hb _ _ _ _ _)
  apply wpAny_newFunctionEnv_cells S.kind places
  intro env he s1 x1
  subst he
  refine ⟨roomy.keeps x1.toInCall.keep, codeAny_func ?_⟩
  obtain ⟨t, ht, hq⟩ := body cdv A outer s H vs Q E rfl hg (hr.deeper _) hsp
  have I := inv_start (CX := CX) (mg := mg) (E := E) (N := N) (cd := cdv) S hr.hd e0 (len _ _ _ _ hsp) rv x1
  refine wpAny_mono (ht.run [] s1 (start N vs) H _ I hq) (fun fl s2 hs => ?_) fun e s2 hs => hs
  cases fl with
  | next => obtain ⟨σ2, H2, J, q⟩ := hs; exact ⟨V.non, H2, J.os, J.bare, J.base, J.hok, rfl, q⟩
  | ret u => obtain ⟨v, σ2, H2, J, r2, q⟩ := hs; exact ⟨v, H2, J.os, J.bare, J.base, J.hok, r2, q⟩
  | brk => obtain ⟨_, _, _, q⟩ := hs; exact q.elim
  | cont => obtain ⟨_, _, _, q⟩ := hs; exact q.elim
section
variable {X : Cx} {CX : CXT} {k : Nat} {f : Addr} {fd : FuncData} {ps ks : List Str} {sp : Sp} {E : XK} {x : Str} {p pos : Pos} {e : Expr} {es : List Expr} {kws : List Keyword} {t tk : TA}
  {g : List Value → List Value → List Value} {gV : List V → List V → List V}
/-- the callee runs, its parameters bound to vs -/
theorem run_fnG {pins : List (Addr × Obj)} {σ : L2.St} {H : Hp} {s : Shared} {Q : VK} {us ws : List Value} {kw : List (Str × Value)} {vs : List V} (F : FnG X.prog X.w X.K X.mg X.base CX k f fd ps sp) (hG : X.A.guards = some []) (hr : Room k X.A)
    (hb : BindsTo s fd ⟨us, kw⟩ (ps.zip ws)) (hx : Passes CX X E) (I : Inv X pins σ H s) (r : Vals vs ws) (h : sp vs H Q E) :
    wpAny (model X.prog X.w) X.A (call (.ref f) us kw) (EP X pins σ Q) X.xe s := by
  apply wpAny_call
  refine codeAny_mono (F.go X.A X.stack s H ⟨us, kw⟩ ws vs Q E hG hr I.env0 hb r h) ?_
  intro r2 s2 hq
  match r2, hq with
  | .error e, hq => exact hx pins σ H s e s2 I hq
  | .ok (.ret u), hq => exact I.after hq
  | .ok .next, hq => exact False.elim hq
  | .ok .brk, hq => exact False.elim hq
  | .ok .cont, hq => exact False.elim hq
/-- names alone: the j-th parameter takes the value of the name at is[j] -/
def pick {α : Type} (is : List Nat) (zs : List α) : List α := is.filterMap fun i => zs[i]?
theorem vals_pick : ∀ {is : List Nat} {vs : List V} {us : List Value}, Vals vs us → Vals (pick is vs) (pick is us)
  | [], _, _, _ => .nil
  | i :: is, vs, us, r => by
    unfold pick
    rw [List.filterMap_cons, List.filterMap_cons]
    cases e : vs[i]? with
    | none => rw [r.none_of e]; exact vals_pick r
    | some v => obtain ⟨u, e2, r2⟩ := r.get e; rw [e2]; exact .cons r2 (vals_pick r)
def NBinds (fd : FuncData) (ps ks : List Str) (is : List Nat) : Prop := ∀ (s : Shared) (ws : List Value), ws.length = ks.length → BindsTo s fd ⟨[], ks.zip ws⟩ (ps.zip (pick is ws))
theorem pe_callG (F : FnG X.prog X.w X.K X.mg X.base CX k f fd ps sp) (hG : X.A.guards = some []) (hr : Room k X.A) (hg : Gl X x) (hm : X.mg x = some (.ref f)) (hk : PySem.W.keepIn X.K (.ref f) = true) (hb : Binds X.K fd ps []) (hx : Passes CX X E)
    (ha : PA X (e :: es) t) (hdb : (x == ("__debug__" : Str)) = false := by decide) (he : starEach (e :: es) X.env = (false, eval e X.env) :: starEach es X.env := by rfl) (hpl : (backTo pos (starEach es X.env)).any (·.1) = false := by rfl) :
    PE X (.Call (.Name x p) (e :: es) [] pos) (fun σ H Q => t σ H fun vs H1 => sp vs H1 Q E) := by
  constructor
  intro pins s σ H Q I h
  apply wpAny_Call_Name_kw
  apply ld_glob I hg hm _ hdb
  refine PySem.W.callWith_K (h₀ := X.base) I.ok.mod.kin hk (thn (ha.run pos pins s σ H _ I h) ?_) he hpl
  rintro us s1 ⟨vs, H1, I1, r, q⟩
  have n1 : us.length = ps.length := r.length.symm.trans (F.len _ _ _ _ q)
  have hB := hb s1 us I1.kIn (by rw [List.append_nil]; exact n1)
  rw [List.append_nil] at hB
  exact ⟨I1.kIn, run_fnG F hG hr hB hx I1 r q⟩
theorem pe_callG0 (F : FnG X.prog X.w X.K X.mg X.base CX k f fd [] sp) (hG : X.A.guards = some []) (hr : Room k X.A) (hg : Gl X x) (hm : X.mg x = some (.ref f)) (hk : PySem.W.keepIn X.K (.ref f) = true) (hb : Binds X.K fd [] []) (hx : Passes CX X E)
    (hdb : (x == ("__debug__" : Str)) = false := by decide) : PE X (.Call (.Name x p) [] [] pos) (fun σ H Q => sp [] H Q E) := by
  constructor
  intro pins s σ H Q I h
  apply wpAny_Call_Name_kw
  apply ld_glob I hg hm _ hdb
  exact PySem.W.callWith_K0 I.kIn hk (run_fnG (us := []) F hG hr (hb s [] I.kIn rfl) hx I .nil h)
/-- names alone: f(k = v, ..) -/
theorem pe_callGN {is : List Nat} (F : FnG X.prog X.w X.K X.mg X.base CX k f fd ps sp) (hG : X.A.guards = some []) (hr : Room k X.A) (hg : Gl X x) (hm : X.mg x = some (.ref f)) (hk : PySem.W.keepIn X.K (.ref f) = true) (hb : NBinds fd ps ks is) (hx : Passes CX X E)
    (hkw : PK X kws tk) (hln : ks.length = kws.length) (hall : (backToKw pos (keywordEach kws X.env)).all (·.1.isSome) = true := by rfl) (hks : (backToKw pos (keywordEach kws X.env)).filterMap (·.1) = ks := by rfl)
    (hdb : (x == ("__debug__" : Str)) = false := by decide) (hpl : ((backTo pos (starEach [] X.env)).any (·.1) || (backToKw pos (keywordEach kws X.env)).any (·.1.isNone)) = false := by rfl) :
    PE X (.Call (.Name x p) [] kws pos) (fun σ H Q => tk σ H fun zs H1 => zs.length = ks.length ∧ sp (pick is zs) H1 Q E) := by
  constructor
  intro pins s σ H Q I h
  apply wpAny_Call_Name_kw
  apply ld_glob I hg hm _ hdb
  refine PySem.W.callWith_KW0 (h₀ := X.base) I.ok.mod.kin hk hall (thn (hkw.run pos pins s σ H _ I h) ?_) hpl
  rintro ws s1 ⟨zs, H1, I1, rz, hz, q⟩
  rw [hks]
  exact ⟨I1.kIn, run_fnG (us := []) F hG hr (hb s1 ws (rz.length.symm.trans hz)) hx I1 (vals_pick rz) q⟩
end
end VI
namespace VI
open PySem PySem.Spec PyProof.Rows L2
/-- a tuple to be read, without a dict of its own -/
def TupN (K : PySem.W.Frag) (G : Hp) (a : Addr) (xs : List V) : Prop :=
  (∃ o, o.dict = none ∧ G a = some (.frz o (.tup xs))) ∨ ∃ (o : Obj) (its : Array Value) (n : Nat), K.lookup a = some o ∧ o.dict = none ∧ o.cls = .type "tuple" ∧ o.data = .seq its n ∧ its.size ≤ sizeLine ∧ Vals xs its.toList
theorem TupN.sq {K : PySem.W.Frag} {G : Hp} {a : Addr} {xs : List V} (h : TupN K G a xs) : SqT K G a xs := by
  rcases h with ⟨o, _, h⟩ | ⟨o, its, n, h1, _, h2, h3, h4, h5⟩
  · exact .inl (.inr ⟨o, h⟩)
  · exact .inr ⟨o, its, n, h1, h2, h3, h4, h5⟩
section
variable {X : Cx} {pins : List (Addr × Obj)} {σ : L2.St} {H : Hp} {s : Shared}
theorem TupN.obj {a : Addr} {xs : List V} (I : Inv X pins σ H s) (h : TupN X.K H a xs) : ∃ o, s.heap.get? a = some o ∧ o.cls = .type "tuple" ∧ o.dict = none := by
  rcases h with ⟨o, hd, h⟩ | ⟨o, its, n, h1, hd, h2, _⟩
  · obtain ⟨e, _, its, rv, o', e', c, n, d⟩ := (show ObjOk X.prog X.w H s.heap a (.frz o (.tup xs)) from I.hok a _ h)
    rw [e] at e'
    cases e'
    exact ⟨o, e, c, hd⟩
  · exact ⟨o, I.kIn a o h1, h2, hd⟩
abbrev tupO (its : List Value) : Obj := { cls := .type "tuple", data := .seq its.toArray }
/-- a new tuple is laid -/
theorem lay_tup {xs : List V} {its : List Value} (t : Nat) (I : Inv X pins σ H s) (r : Vals xs its) (hz : xs.length ≤ sizeLine) :
    Inv X pins σ (upd H s.heap.objs.size (.frz (tupO its) (.tup xs))) { s with heap := s.heap.push (tupO its), toks := t } := by
  refine I.laid (t' := t) (fun b o e => Heap.get?_push_of_some _ e) (Nat.le_refl _) ?_
  exact ⟨Heap.get?_push_size _ rfl, hz, its, r, _, Heap.get?_push_size _ rfl, rfl, _, rfl⟩
/-- what is wanted of a new tuple -/
def NewT (xs : List V) (H : Hp) (Q : VK) : Prop := ∀ p o, H p = none → o.dict = none → Q (.ref p) (upd H p (.frz o (.tup xs)))
theorem lay_end {xs : List V} {its : List Value} {Q : VK} (I : Inv X pins σ H s) (r : Vals xs its) (hz : xs.length ≤ sizeLine) (q : NewT xs H Q) : EP X pins σ Q (.ref s.heap.objs.size) { s with heap := s.heap.push (tupO its) } :=
  ⟨.ref s.heap.objs.size, _, lay_tup s.toks I r hz, rfl, q _ _ (I.hok.fresh (Nat.le_refl _)) rfl⟩
end
section
variable {X : Cx} {es : List Expr} {t : TA} {pos : Pos}
theorem pe_tupN {n} (h : PA X es t) : PE X (.Tuple es n pos) (fun σ H Q => t σ H fun xs H1 => xs.length ≤ sizeLine ∧ NewT xs H1 Q) := by
  constructor
  intro pins s σ H Q I hq
  apply wpAny_Tuple_spliced
  refine thn (h.run pos pins s σ H _ I hq) ?_
  rintro us s1 ⟨xs, H1, I1, r, z, q⟩
  refine ⟨by have := r.length; omega, lay_end I1 r z q⟩
def rTupOf (K : PySem.W.Frag) : List V → Hp → VK → Prop := fun vs H Q => ∃ p ys, vs = [.ref p] ∧ ((SqL K H p ys ∧ NewT ys H Q) ∨ (SqT K H p ys ∧ Q (.ref p) H))
theorem call_tupN : CallR X (.type "tuple") (rTupOf X.K) := by
  rintro pins s σ H vs us Q I r ⟨p, ys, rfl, h⟩
  obtain ⟨u, rfl, ru⟩ := vals1 r
  cases ru
  rcases h with ⟨hq, q⟩ | ⟨hq, q⟩
  · obtain ⟨its, rv, pl, hz⟩ := I.list hq
    have hl := rv.length
    refine call_tuple_list pl.isList (fun h1 kp => ?_) (by rw [List.size_toArray]; omega)
    exact lay_end (s := { s with heap := h1 }) (I.kept (t' := s.toks) kp) rv hz q
  · obtain ⟨its, _, pl, _⟩ := I.tuple hq
    exact call_tuple_same pl ⟨.ref p, H, I, rfl, q⟩
def rCutT (K : PySem.W.Frag) : V → Option Int → Option Int → Hp → VK → Prop := fun x lo hi H Q => ∃ a xs, x = .ref a ∧ SqT K H a xs ∧
  ((HT.sIx xs.length 0 lo = 0 ∧ HT.sIx xs.length xs.length hi = xs.length) → Q (.ref a) H) ∧ (¬ (HT.sIx xs.length 0 lo = 0 ∧ HT.sIx xs.length xs.length hi = xs.length) → NewT (cutV xs lo hi) H Q)
theorem sl_tupN : SlR X (rCutT X.K) := by
  rintro pins s σ H x v vl vu lo hi sl Q I rx hs pl pu ⟨a, xs, rfl, hx, q1, q2⟩
  cases rx
  obtain ⟨its, r, ht, hz⟩ := I.tuple hx
  have hn : its.toArray.size = xs.length := by rw [List.size_toArray, r.length]
  refine ⟨"tuple", _, PyProof.Rows.slot_tuple_getitem.lookup, ht.typeIs, ?_⟩
  by_cases hw : HT.sIx xs.length 0 lo = 0 ∧ HT.sIx xs.length xs.length hi = xs.length
  · exact getItem_tuple_whole ht hs pl pu (by rw [hn]; exact hw) ⟨.ref a, H, I, rfl, q1 hw⟩
  · apply HT.getItem_tuple_cut ht hs pl pu (by rw [hn]; exact hw) _ (by rw [hn]; exact hz)
    rw [hn]
    exact lay_end (its := List.take _ (List.drop _ its)) I ((r.drop _).take _) (Nat.le_trans (cutV_length xs lo hi) hz) (q2 hw)
def rCatN (K : PySem.W.Frag) : R2 := fun x y H Q => ∃ a b xs ys, x = .ref a ∧ y = .ref b ∧ SqT K H a xs ∧ SqT K H b ys ∧ xs.length + ys.length ≤ sizeLine ∧
  (xs = [] → Q (.ref b) H) ∧ (xs ≠ [] → ys = [] → Q (.ref a) H) ∧ (xs ≠ [] → ys ≠ [] → NewT (xs ++ ys) H Q)
theorem op_catN : OpR X (binaryOp .Add) (rCatN X.K) := by
  rintro pins s σ H x y v u Q I rx ry ⟨a, b, xs, ys, rfl, rfl, ha, hb, hz, q0, q1, q2⟩
  cases rx
  cases ry
  obtain ⟨i1, r1, p1, _⟩ := I.tuple ha
  obtain ⟨i2, r2, p2, _⟩ := I.tuple hb
  have n1 := r1.length
  have n2 := r2.length
  by_cases hx : xs = []
  · subst hx
    cases r1
    exact cat_tup0 p1 p2 ⟨.ref b, H, I, rfl, q0 rfl⟩
  · have hv : i1 ≠ [] := fun z => hx (r1.nil_iff.mp z)
    apply HT.cat_tup p1 p2 hv
    · exact fun z => ⟨.ref a, H, I, rfl, q1 hx (r2.nil_iff.mp z)⟩
    · exact fun z => lay_end I (r1.append r2) (by rw [List.length_append]; exact hz) (q2 hx fun w => z (r2.nil_iff.mpr w))
    · omega
/-- t * k -/
def rRepN (K : PySem.W.Frag) : R2 := fun x y H Q => ∃ l k xs, x = .ref l ∧ y = .int k ∧ SqT K H l xs ∧ xs ≠ [] ∧ 2 ≤ k ∧ k ≤ 1000 ∧ xs.length ≤ 1000 ∧ NewT (List.replicate k.toNat xs).flatten H Q
theorem op_repN : OpR X (binaryOp .Mult) (rRepN X.K) := by
  rintro pins s σ H x y v u Q I rx ry ⟨l, k, xs, rfl, rfl, hT, ne, k2, k3, hz, q⟩
  cases rx
  obtain ⟨t, rfl⟩ := ry
  obtain ⟨its, r, ⟨⟨cls, dd, data, sl⟩, ho, hc, n, hd⟩, _⟩ := I.tuple hT
  simp only at hc hd
  subst hc hd
  have n1 : its.length = xs.length := r.length.symm
  have n2 : ((its.toArray.size : Nat) : Int) = xs.length := by rw [List.size_toArray, n1]
  have full : its.toArray.isEmpty = false := by
    cases its with
    | cons a b => rfl
    | nil => exact absurd (List.eq_nil_of_length_eq_zero n1.symm) ne
  have bulk : k.toNat * xs.length ≤ 1000 * 1000 := Nat.mul_le_mul (by omega) hz
  have wide : (xs.length : Int) * k ≤ 1000 * k := Int.mul_le_mul_of_nonneg_right (by omega) (by omega)
  have size1 : (List.replicate k.toNat its).flatten.length ≤ sizeLine := by rw [PyProof.Rows.lm_len_rep_flat, n1, sizeLine_eq]; omega
  have a0 : (decide (k < -(2 ^ 63)) || decide (k ≥ 2 ^ 63)) = false := by simp only [Bool.or_eq_false_iff, decide_eq_false_iff_not]; omega
  have a1 : (its.toArray.isEmpty || k == 1) = false := by rw [full, Bool.false_or, beq_eq_false_iff_ne]; omega
  have a2 : (decide (k ≤ 0) || its.toArray.isEmpty) = false := by rw [full, Bool.or_false, decide_eq_false_iff_not]; omega
  have a3 : Builtin.Tuple.tupleTooMany (((its.toArray.size : Nat) : Int) * k) = false := by
    rw [n2]; unfold Builtin.Tuple.tupleTooMany; rw [sizeLine_eq, decide_eq_false_iff_not]; omega
  have a4 : ¬ ((its.toArray.size : Nat) : Int) * k ≥ 2 ^ 63 := by rw [n2]; omega
  have goal : EP X pins σ Q (.ref s.heap.objs.size) { s with heap := s.heap.push (tupO (List.replicate k.toNat its).flatten) } :=
    lay_end I (r.rep k.toNat) (by rw [PyProof.Rows.lm_len_rep_flat, sizeLine_eq]; omega) q
  refine wpAny_binaryOp_repeat_ref (U := "int") (T := "tuple") (by decide) ⟨_, ho, rfl⟩ (typeIs_int · k t) noFill_tuple_mul F.fills_int_mul F.slot_int_rmul repeat_tuple F.slot_int_index.lookup ?_
  refine call_meets F.slot_int_rmul (typeIs_int s k t) F.entry_int_rmul (F.args_int_rmul_2 _ _) (int_rmul_tuple k t l its.toArray n dd sl) ⟨ho, rfl, ⟨_, ho, rfl⟩, ?_⟩
  refine call_meets F.slot_tuple_mul ⟨_, ho, rfl⟩ F.entry_tuple_mul (F.args_tuple_mul_2 _ _) (tuple_mulW l its.toArray n dd sl k t a0 a1 a2 ?_ a3 ?_) ⟨ho, ?_⟩
  · rw [n2]; omega
  · rw [size_rep, List.size_toArray]; exact size1
  · rw [size_rep]; exact goal
end
section
variable {X : Cx} {o e : Expr} {es : List Expr} {to : TE} {t : TA} {name : Str} {apos cpos : Pos} {id : String} {r : V → List V → Hp → VK → Prop}
/-- t.m(e, ..) of a tuple -/
theorem pe_tupM (slot : Slot "tuple" name id) (hty : typeOf (.builtin id) = pure (.type "method_descriptor")) (hm : MtR X id r) (ho : PE X o to) (ha : PA X (e :: es) t)
    (hbase : attributeBase o name X.env (eval o X.env) = eval o X.env := by rfl)
    (hfew : ((backTo cpos (starEach (e :: es) X.env)).all (fun x => !x.1) && (backToKw cpos (keywordEach [] X.env)).all (fun x => x.1.isSome) && decide ((e :: es).length + ([] : List Keyword).length + (if ([] : List Keyword).isEmpty then 0 else 1) < 30)) = true := by rfl)
    (hline : (apos.endLine == cpos.line) = true := by rfl) (hs : starEach (e :: es) X.env = (false, eval e X.env) :: starEach es X.env := by rfl) (hplain : (backTo cpos (starEach es X.env)).any (·.1) = false := by rfl) :
    PE X (.Call (.Attribute o name apos) (e :: es) [] cpos) (fun σ H Q => to σ H fun x H1 => (∃ a ys, x = .ref a ∧ TupN X.K H1 a ys) ∧ t σ H1 fun xs H2 => r x xs H2 Q) := by
  constructor
  intro pins s σ H Q I h
  apply wpAny_Call_method_late hbase hfew hline rfl
  refine thn (ho.run pins s σ H _ I h) ?_
  rintro v s1 ⟨x, H1, I1, r1, ⟨a, ys, rfl, hT⟩, q1⟩
  cases r1
  obtain ⟨ob, e1, e2, e3⟩ := hT.obj I1
  refine ⟨"tuple", id, PySem.F.plainAttrs_tuple, slot, hty, ⟨ob, e1, e2⟩, fun b e => by cases e; exact ⟨ob, e1, e3⟩, ?_⟩
  have hA := ha.run cpos pins s1 σ H1 _ I1 q1
  rw [hs] at hA ⊢
  apply Calls.callWith_builtin (by show (false || (backTo cpos (starEach es X.env)).any (·.1)) = false; rw [hplain]; rfl)
  apply Calls.evalArgs_plain
  refine thn hA ?_
  rintro us s2 ⟨vs, H2, I2, r2, q2⟩
  exact hm pins s2 σ H2 (.ref a) vs (.ref a) us Q I2 rfl r2 q2
end
section
variable {prog : Program} {w : World} {A : Around} {E : Value → Shared → Prop} {s : Shared}
open HT
theorem sliceApplied_rev {sl : Addr} {vl vu vs : Value} {n : Nat} {Q : Int × Int × Nat → Shared → Prop} (hs : s.heap.IsSliceOf sl vl vu vs) (pl : IsPart vl none) (pu : IsPart vu none) (ps : IsPart vs (some (-1)))
    (h : Q ((n : Int) - 1, -1, n) s) : wpAny (model prog w) A (Builtin.Slice.sliceApplied (.ref sl) (pure (n : Int))) Q E s := by
  obtain ⟨os, hos, hcs, hds⟩ := id hs
  unfold Builtin.Slice.sliceApplied Builtin.Slice.sliceFields
  refine wpAny_bind (wpAny_bind (wpAny_field hos hds (x := vl) rfl (wpAny_bind (wpAny_field hos hds (x := vu) rfl (wpAny_bind (wpAny_field hos hds (x := vs) rfl (wpAny_pure ?_)))))))
  refine wpAny_bind (slicePart_ ps ?_)
  show wpAny _ _ (if ((-1 : Int) == 0) = true then _ else _) _ _ s
  rw [if_neg (by decide)]
  refine wpAny_bind (slicePart_ pl (wpAny_bind (slicePart_ pu (wpAny_bind (wpAny_pure ?_)))))
  show wpAny _ _ (match Builtin.Slice.sliceAdjust none none (-1) (n : Int) with | (lo, hi) => pure (lo, (-1 : Int), Builtin.Slice.slicePlaces lo hi (-1))) _ _ s
  have e1 : Builtin.Slice.sliceAdjust none none (-1) (n : Int) = ((n : Int) - 1, -1) := by
    unfold Builtin.Slice.sliceAdjust
    simp
  rw [e1]
  show wpAny _ _ (pure ((n : Int) - 1, (-1 : Int), Builtin.Slice.slicePlaces ((n : Int) - 1) (-1) (-1))) _ _ s
  have e2 : Builtin.Slice.slicePlaces ((n : Int) - 1) (-1) (-1) = n := by
    unfold Builtin.Slice.slicePlaces
    simp
    omega
  rw [e2]
  exact wpAny_pure h
theorem pick_rev (xs : List Value) : ((List.range xs.length).filterMap fun (m : Nat) => xs.toArray[(((xs.length : Int) - 1) + (m : Int) * (-1)).toNat]?) = xs.reverse := by
  apply List.ext_getElem?
  intro i
  have key : ((List.range xs.length).filterMap fun (m : Nat) => xs.toArray[(((xs.length : Int) - 1) + (m : Int) * (-1)).toNat]?) = (List.range xs.length).filterMap fun m => xs.reverse[m]? := by
    have cg : ∀ (l : List Nat) (f g : Nat → Option Value), (∀ m ∈ l, f m = g m) → l.filterMap f = l.filterMap g := fun l f g => by
      induction l with
      | nil => intro _; rfl
      | cons a l ih =>
        intro h
        rw [List.filterMap_cons, List.filterMap_cons, h a List.mem_cons_self, ih fun m hm => h m (List.mem_cons_of_mem _ hm)]
    refine cg _ _ _ fun m hm => ?_
    have hm' := List.mem_range.mp hm
    rw [List.getElem?_reverse hm', List.getElem?_toArray]
    congr 1
    omega
  rw [key]
  have full : ∀ (ys : List Value), (List.range ys.length).filterMap (fun m => ys[m]?) = ys := fun ys => by
    apply List.ext_getElem?
    intro j
    induction ys generalizing j with
    | nil => rfl
    | cons y ys ih =>
      rw [List.length_cons, List.range_succ_eq_map, List.filterMap_cons]
      simp only [List.getElem?_cons_zero]
      cases j with
      | zero => rfl
      | succ j =>
        rw [List.getElem?_cons_succ, List.getElem?_cons_succ, List.filterMap_map]
        exact ih j
  have := full xs.reverse
  rw [List.length_reverse] at this
  rw [this]
theorem getItem_tuple_rev {t sl : Addr} {items : List Value} {vl vu vs : Value} {Q : Value → Shared → Prop} (ht : IsTup s.heap t items.toArray) (hs : s.heap.IsSliceOf sl vl vu vs) (pl : IsPart vl none) (pu : IsPart vu none) (ps : IsPart vs (some (-1)))
    (h : Q (.ref s.heap.objs.size) { s with heap := s.heap.push { cls := .type "tuple", data := .seq items.reverse.toArray } })
    (hsz : items.length ≤ sizeLine) : wpAny (model prog w) A (getItem (.ref t) (.ref sl)) Q E s := by
  have htake : sizeOk (.seq items.reverse.toArray) := by
    show items.reverse.toArray.size ≤ sizeLine
    rw [List.size_toArray, List.length_reverse]
    exact hsz
  obtain ⟨os, hos, hcs, hds⟩ := id hs
  have hTs : s.TypeIs (.ref sl) "slice" := ⟨os, hos, hcs⟩
  unfold getItem
  try with_reducible refine wpAny_holding ?_
  first | refine wpAny_bind (wpAny_pure ?_) | skip
  refine wpAny_bind (wpAny_sequenceKey ht.typeIs (by decide) ?_)
  refine wpAny_bind (wpAny_callSpecial?_slot (name := Str.ofString "__getitem__") ht.typeIs PyProof.Rows.slot_tuple_getitem
    (wpAny_call_entry PyProof.Rows.slot_tuple_getitem ht.typeIs entry_tuple_getitem ?_ (args_tuple_getitem _ _)))
  show wpAny _ _ (Builtin.Tuple.tupleItemsOf (.ref t) >>= _) _ _ s
  refine wpAny_bind (tupleItemsOf_ ht ?_)
  refine wpAny_bind (wpAny_typeOf hTs ?_)
  rw [if_pos (by decide)]
  refine wpAny_bind (sliceApplied_rev hs pl pu ps ?_)
  have e0 : items.toArray.size = items.length := List.size_toArray
  have hno : ¬ (((((items.toArray.size : Nat) : Int) - 1) == 0 && (-1 : Int) == 1 && items.toArray.size == items.toArray.size) = true) := by
    intro q
    rw [Bool.and_eq_true, Bool.and_eq_true] at q
    exact absurd q.1.2 (by decide)
  show wpAny _ _ (if ((((items.toArray.size : Nat) : Int) - 1) == 0 && (-1 : Int) == 1 && items.toArray.size == items.toArray.size) = true then _ else _) _ _ s
  rw [if_neg hno, e0, pick_rev]
  first
    | exact wpAny_bind (m := Builtin.Tuple.tupleExact _) (wpAny_newObj_type (wpAny_pure ⟨_, rfl, wpAny_pure h⟩) htake)
    | exact wpAny_bind (m := Builtin.Tuple.tupleExact _) (wpAny_newObj_type (wpAny_bind (wpAny_pure (wpAny_pure ⟨_, rfl, wpAny_pure h⟩))) htake)
    | exact wpAny_bind (wpAny_bind (m := Builtin.Tuple.tupleExact _) (wpAny_newObj_type (wpAny_pure (wpAny_pure ⟨_, rfl, wpAny_pure h⟩)) htake))
    | exact wpAny_bind (wpAny_bind (m := Builtin.Tuple.tupleExact _) (wpAny_newObj_type (wpAny_pure ⟨_, rfl, wpAny_pure h⟩) htake))
end
section
variable {X : Cx}
/-- t[::-1] -/
def tRevT (K : PySem.W.Frag) (te : TE) : TE := fun σ H Q => te σ H fun x H1 => ∃ a xs, x = .ref a ∧ SqT K H1 a xs ∧ NewT xs.reverse H1 Q
theorem pe_revT {e : Expr} {te : TE} {k : Nat} {p1 p2 p3 pos : Pos} (he : PE X e te) : PE X (.Subscript e (.Slice none none (some (.UnaryOp .USub (.Constant (.int 1) k p1) p2)) p3) pos) (tRevT X.K te) := by
  refine ⟨fun pins s σ H Q I h => ?_⟩
  refine Subscript_ (thn (he.run pins s σ H _ I h) fun v s1 ⟨x, H1, I1, r1, q1⟩ => ?_)
  obtain ⟨a, xs, ex, hx, q⟩ := q1
  subst ex
  cases r1
  have hst : PO X (some (.UnaryOp .USub (.Constant (.int 1) k p1) p2)) (tPart (tUn (rU fun i => .int (-i)) (tC (.int 1)))) := po_some (pe_un un_neg pe_int)
  refine wpAny_Slice (thn (po_none.run pins s1 σ H1 (fun o H2 => o = none ∧ H2 = H1) I1 ⟨rfl, rfl⟩) fun vl s2 ⟨l, H2, I2, pl, el, e2⟩ => ?_)
  subst el e2
  refine thn (po_none.run pins s2 σ H2 (fun o H3 => o = none ∧ H3 = H2) I2 ⟨rfl, rfl⟩) fun vu s3 ⟨u, H3, I3, pu, eu, e3⟩ => ?_
  subst eu e3
  refine thn (hst.run pins s3 σ H3 (fun o H4 => o = some (-1) ∧ H4 = H3) I3 ⟨1, rfl, -1, rfl, rfl, rfl⟩) fun vs s4 ⟨o, H4, I4, ps, eo, e4⟩ => ?_
  subst eo e4
  have I5 : Inv X pins σ H4 { s4 with heap := s4.heap.push { cls := .type "slice", data := .fields #[vl, vu, vs] } } := I4.kept (t' := s4.toks) fun b ob q => Heap.get?_push_of_some _ q
  obtain ⟨its, r, ht, hz⟩ := I5.tuple hx
  have hlen := r.length
  show wpAny (model X.prog X.w) X.A (subscriptTail e (.Slice none none (some (.UnaryOp .USub (.Constant (.int 1) k p1) p2)) p3) (.ref a) (.ref s4.heap.objs.size)) (EP X pins σ Q) X.xe { s4 with heap := s4.heap.push { cls := .type "slice", data := .fields #[vl, vu, vs] } }
  refine tail_any (ops := [.ref a, .ref s4.heap.objs.size]) ht.typeIs (PyProof.Rows.slot_tuple_getitem.lookup) ?_ (by with_unfolding_all rfl)
  refine getItem_tuple_rev ht (Heap.IsSliceOf.new _ vl vu vs) pl pu ps ?_ (by rw [← hlen]; exact hz)
  exact lay_end I5 r.reverse (by rw [List.length_reverse]; exact hz) q
theorem pe_orE {e : Expr} {t1 t2 : TE} (h1 : PE X e t1) (h2 : PE X e t2) : PE X e (fun σ H Q => t1 σ H Q ∨ t2 σ H Q) := ⟨fun pins s σ H Q I h => h.elim (h1.run pins s σ H Q I) (h2.run pins s σ H Q I)⟩
end
end VI
namespace VI
open PySem PySem.Spec PyProof.Rows L2
abbrev D := PyData
/-- what an expression gives: a datum, or a list nobody else holds -/
inductive EV where
  | dat (d : D)
  | own (ds : List D)
def EV.toD : EV → D
  | .dat d => d
  | .own ds => .list ds
structure FS where
  cells : List Int
  nx : Int
  left : Int
  dr : Int
/-- the end of a run over data -/
inductive Res (α : Type) where
  | ok (a : α)
  | exc (c : Str) (xs : List D) (φ : FS)
  | bad
theorem nrfl {α : Sort _} {a b : α} (h : a = b) : a = b := h
/-- what is told so is left as it is while what stands ahead of it is worked at -/
structure Held {α : Type} (a : α) : Type where
def held {α : Type} (a : α) : Held a := ⟨⟩
def Res.bind {α β : Type} (r : Res α) (f : α → Res β) (_ : Held f := held f) : Res β := match r with
  | .ok a => f a
  | .exc c xs φ => .exc c xs φ
  | .bad => .bad
theorem Res.bind_ok {α β : Type} {r : Res α} {f : α → Res β} {b : β} (h : r.bind f = .ok b) : ∃ a, r = .ok a ∧ f a = .ok b := by
  cases r with
  | ok a => exact ⟨a, rfl, h⟩
  | exc c xs φ => cases h
  | bad => cases h
theorem Res.ok_bind {α β : Type} {a : α} {f : α → Res β} : (Res.ok a).bind f = f a := rfl
/-- the objects that stand for data -/
def Sq : HO → Prop
  | .lst _ => True
  | .tup _ => True
  | .frz _ _ => True
  | .xd _ => True
  | _ => False
/-- lists and tuples stay, nothing goes -/
structure Up (Tb : List (Addr × Str)) (H H' : Hp) : Prop where
  sq : ∀ a o, Sq o → H a = some o → H' a = some o
  no : ∀ a, H' a = none → H a = none
  tab : LamX.Tabs Tb H → LamX.Tabs Tb H'
theorem Up.refl {Tb : List (Addr × Str)} (H : Hp) : Up Tb H H := ⟨fun _ _ _ h => h, fun _ h => h, fun t => t⟩
theorem Up.trans {Tb : List (Addr × Str)} {H H1 H2 : Hp} (a : Up Tb H H1) (b : Up Tb H1 H2) : Up Tb H H2 :=
  ⟨fun c o s h => b.sq c o s (a.sq c o s h), fun c h => a.no c (b.no c h), fun t => b.tab (a.tab t)⟩
/-- all stays -/
structure Ext (H H' : Hp) : Prop where
  all : ∀ a o, H a = some o → H' a = some o
theorem Ext.refl (H : Hp) : Ext H H := ⟨fun _ _ h => h⟩
theorem Ext.trans {H H1 H2 : Hp} (a : Ext H H1) (b : Ext H1 H2) : Ext H H2 := ⟨fun c o h => b.all c o (a.all c o h)⟩
theorem Ext.no {H H' : Hp} (e : Ext H H') {a : Addr} (h : H' a = none) : H a = none := by
  cases q : H a with
  | none => rfl
  | some o => rw [e.all a o q] at h; cases h
theorem Ext.up {Tb : List (Addr × Str)} {H H' : Hp} (e : Ext H H') : Up Tb H H' := ⟨fun a o _ h => e.all a o h, fun _ h => e.no h, fun t => t.ext e.all⟩
theorem Ext.new {H : Hp} {p : Addr} {o : HO} (h : H p = none) : Ext H (upd H p o) :=
  ⟨fun a u e => by rw [upd_ne (ne_of_none e h)]; exact e⟩
/-- a list, or whatever is no table and no code, is written -/
theorem tabs_upd {T : List (Addr × Str)} {H : Hp} {d : Addr} {o : HO} (t : LamX.Tabs T H) (n : ∀ u, H d = some u → (∀ ps, u ≠ .tbl ps) ∧ ∀ c q, u ≠ LamX.CodeO c q) : LamX.Tabs T (upd H d o) := fun p hp => by
  obtain ⟨ps, h1, h2, h3⟩ := t p hp
  refine ⟨ps, ?_, h2, fun pos cv hc => ?_⟩
  · rw [upd_ne fun z => ?_]
    · exact h1
    · rw [z] at h1; exact (n _ h1).1 _ rfl
  · obtain ⟨c, e1, e2⟩ := h3 pos cv hc
    refine ⟨c, e1, ?_⟩
    rw [upd_ne fun z => ?_]
    · exact e2
    · rw [z] at e2; exact (n _ e2).2 _ _ rfl
theorem tabs_lst {T : List (Addr × Str)} {H : Hp} {d : Addr} {o : HO} {xs : List V} (t : LamX.Tabs T H) (h : H d = some (.lst xs)) : LamX.Tabs T (upd H d o) := tabs_upd t fun u e => by
  rw [h] at e
  cases e
  exact ⟨fun ps z => (by cases z), fun c q z => (by unfold LamX.CodeO at z; cases z)⟩
open Classical in
noncomputable def hide (P : Addr → Prop) (H : Hp) : Hp := fun a => if P a then none else H a
section
variable {P : Addr → Prop} {H H' : Hp} {a : Addr} {o : HO}
theorem hide_of (h : hide P H a = some o) : ¬ P a ∧ H a = some o := by
  unfold hide at h
  split at h
  · cases h
  · exact ⟨by assumption, h⟩
theorem hide_eq (h : ¬ P a) : hide P H a = H a := by
  unfold hide
  rw [if_neg h]
theorem hide_up {Tb : List (Addr × Str)} (u : Up Tb H H') : ∀ a o, Sq o → hide P H a = some o → hide P H' a = some o := fun a o s h => by
  obtain ⟨h1, h2⟩ := hide_of h
  rw [hide_eq h1]
  exact u.sq a o s h2
theorem hide_ex (u : Ext H H') : ∀ a o, Sq o → hide P H a = some o → hide P H' a = some o := hide_up (Tb := []) u.up
theorem hide_ext (u : Ext H H') : Ext (hide P H) (hide P H') := ⟨fun a o h => by
  obtain ⟨h1, h2⟩ := hide_of h
  rw [hide_eq h1]
  exact u.all a o h2⟩
theorem hide_upd (h : P a) : hide P (upd H a o) = hide P H := by
  funext b
  unfold hide
  by_cases hb : P b
  · rw [if_pos hb, if_pos hb]
  · rw [if_neg hb, if_neg hb, upd_ne (fun e => hb (by rw [e]; exact h))]
theorem hide_less {P' : Addr → Prop} (s : ∀ b, P' b → P b) : ∀ a o, hide P H a = some o → hide P' H a = some o := fun a o h => by
  obtain ⟨h1, h2⟩ := hide_of h
  rw [hide_eq fun z => h1 (s _ z)]
  exact h2
end
/-- an error that is held: where it stands, its dict, the fields there, what they tell -/
structure Ex where
  ea : Addr
  dd : Addr
  fs : List (Str × V)
  vs : List V
  ds : List D
/-- where the feed stands: its dict, its cells; the keys of its dict -/
structure Pr where
  K : PySem.W.Frag
  fa : Addr
  ca : Addr
  k2 : Str
  k3 : Str
  k4 : Str
  T : List (Addr × Str)
  ex : Option Ex
def repX (p : Pr) (kv : List (D × D)) (v : V) : Prop := match kv with
  | [] => v = .ref p.fa
  | _ => ∃ x, p.ex = some x ∧ v = .ref x.ea
mutual
def Rep (p : Pr) (G : Hp) : D → V → Prop
  | .none, v => v = .non
  | .bool b, v => v = .bl b
  | .int i, v => v = .int i
  | .str x, v => v = .str x
  | .list ds, v => ∃ a xs, v = .ref a ∧ G a = some (.lst xs) ∧ RepAll p G ds xs
  | .tuple ds, v => ∃ a xs, v = .ref a ∧ TupN p.K G a xs ∧ RepAll p G ds xs
  | .dict kv, v => repX p kv v
def RepAll (p : Pr) (G : Hp) : List D → List V → Prop
  | [], vs => vs = []
  | d :: ds, vs => ∃ v r, vs = v :: r ∧ Rep p G d v ∧ RepAll p G ds r
end
theorem TupN.at {K : PySem.W.Frag} {G G' : Hp} {a : Addr} {xs : List V} (h : TupN K G a xs) (u : ∀ a o, Sq o → G a = some o → G' a = some o) : TupN K G' a xs := by
  rcases h with ⟨o, d, h⟩ | h
  · exact .inl ⟨o, d, u _ _ trivial h⟩
  · exact .inr h
section
variable {p : Pr} {G G' : Hp}
mutual
theorem Rep.up (u : ∀ a o, Sq o → G a = some o → G' a = some o) : ∀ {d : D} {v : V}, Rep p G d v → Rep p G' d v
  | .none, _, h => h
  | .bool _, _, h => h
  | .int _, _, h => h
  | .str _, _, h => h
  | .list _, _, h => by
    obtain ⟨a, xs, e, h1, h2⟩ := h
    exact ⟨a, xs, e, u _ _ trivial h1, RepAll.up u h2⟩
  | .tuple _, _, h => by
    obtain ⟨a, xs, e, h1, h2⟩ := h
    exact ⟨a, xs, e, TupN.at h1 u, RepAll.up u h2⟩
  | .dict _, _, h => h
theorem RepAll.up (u : ∀ a o, Sq o → G a = some o → G' a = some o) : ∀ {ds : List D} {vs : List V}, RepAll p G ds vs → RepAll p G' ds vs
  | [], _, h => h
  | _ :: _, _, h => by
    obtain ⟨v, r, e, h1, h2⟩ := h
    exact ⟨v, r, e, Rep.up u h1, RepAll.up u h2⟩
end
theorem RepAll.len : ∀ {ds : List D} {vs : List V}, RepAll p G ds vs → vs.length = ds.length
  | [], _, h => by cases h; rfl
  | _ :: ds, _, h => by
    obtain ⟨v, r, rfl, _, h2⟩ := h
    rw [List.length_cons, List.length_cons, RepAll.len h2]
theorem RepAll.get : ∀ {ds : List D} {vs : List V} {i : Nat} {d : D}, RepAll p G ds vs → ds[i]? = some d → ∃ v, vs[i]? = some v ∧ Rep p G d v
  | [], _, _, _, _, e => by simp at e
  | _ :: _, _, 0, _, h, e => by
    obtain ⟨v, r, rfl, h1, _⟩ := h
    have e' := Option.some.inj e
    subst e'
    exact ⟨v, rfl, h1⟩
  | _ :: ds, _, i + 1, _, h, e => by
    obtain ⟨v, r, rfl, _, h2⟩ := h
    obtain ⟨w, e1, e2⟩ := RepAll.get (i := i) h2 e
    exact ⟨w, e1, e2⟩
theorem RepAll.app : ∀ {ds es : List D} {vs ws : List V}, RepAll p G ds vs → RepAll p G es ws → RepAll p G (ds ++ es) (vs ++ ws)
  | [], _, _, _, h, g => by cases h; exact g
  | _ :: _, _, _, _, h, g => by
    obtain ⟨v, r, rfl, h1, h2⟩ := h
    exact ⟨v, _, rfl, h1, RepAll.app h2 g⟩
theorem RepAll.one {d : D} {v : V} (h : Rep p G d v) : RepAll p G [d] [v] := ⟨v, [], rfl, h, rfl⟩
theorem RepAll.drop : ∀ {ds : List D} {vs : List V} (n : Nat), RepAll p G ds vs → RepAll p G (ds.drop n) (vs.drop n)
  | _, _, 0, h => h
  | [], _, n + 1, h => by cases h; exact rfl
  | _ :: _, _, n + 1, h => by
    obtain ⟨v, r, rfl, _, h2⟩ := h
    exact RepAll.drop n h2
theorem RepAll.take : ∀ {ds : List D} {vs : List V} (n : Nat), RepAll p G ds vs → RepAll p G (ds.take n) (vs.take n)
  | [], _, 0, h => rfl
  | _ :: _, _, 0, h => rfl
  | [], _, n + 1, h => by cases h; exact rfl
  | _ :: _, _, n + 1, h => by
    obtain ⟨v, r, rfl, h1, h2⟩ := h
    exact ⟨v, _, rfl, h1, RepAll.take n h2⟩
theorem RepAll.rev : ∀ {ds : List D} {vs : List V}, RepAll p G ds vs → RepAll p G ds.reverse vs.reverse
  | [], _, h => by cases h; exact rfl
  | _ :: _, _, h => by
    obtain ⟨v, r, rfl, h1, h2⟩ := h
    rw [List.reverse_cons, List.reverse_cons]
    exact RepAll.app (RepAll.rev h2) (RepAll.one h1)
theorem RepAll.strs : ∀ {xs : List Str} {vs : List V}, RepAll p G (xs.map .str) vs → vs = xs.map V.str
  | [], _, h => h
  | _ :: _, _, h => by
    obtain ⟨v, r, rfl, h1, h2⟩ := h
    cases h1
    rw [List.map_cons, RepAll.strs h2]
theorem RepAll.of_strs : ∀ (xs : List Str), RepAll p G (xs.map .str) (xs.map V.str)
  | [] => rfl
  | x :: xs => ⟨.str x, xs.map V.str, rfl, rfl, RepAll.of_strs xs⟩
theorem RepAll.ints : ∀ {xs : List Int} {vs : List V}, RepAll p G (xs.map .int) vs → vs = xs.map V.int
  | [], _, h => h
  | _ :: _, _, h => by
    obtain ⟨v, r, rfl, h1, h2⟩ := h
    cases h1
    rw [List.map_cons, RepAll.ints h2]
theorem RepAll.of_ints : ∀ (xs : List Int), RepAll p G (xs.map .int) (xs.map V.int)
  | [] => rfl
  | x :: xs => ⟨.int x, xs.map V.int, rfl, rfl, RepAll.of_ints xs⟩
theorem RepAll.bools : ∀ {xs : List Bool} {vs : List V}, RepAll p G (xs.map .bool) vs → vs = xs.map V.bl
  | [], _, h => h
  | _ :: _, _, h => by
    obtain ⟨v, r, rfl, h1, h2⟩ := h
    cases h1
    rw [List.map_cons, RepAll.bools h2]
/-- in the layer's own words -/
theorem dp_of : ∀ (d : D) (v : V), d.canLay0 = true → (∀ a o, G a = some o → G' a = some o) → Rep p G d v → Dp p.K G' v d := by
  have both : (∀ (d : D) (v : V), d.canLay0 = true → (∀ a o, G a = some o → G' a = some o) → Rep p G d v → Dp p.K G' v d) := by
    intro d
    refine PyData.rec (motive_1 := fun d => ∀ v, d.canLay0 = true → (∀ a o, G a = some o → G' a = some o) → Rep p G d v → Dp p.K G' v d)
      (motive_2 := fun ds => ∀ vs, PyData.canLayAll0 ds = true → (∀ a o, G a = some o → G' a = some o) → RepAll p G ds vs → DpAll p.K G' vs ds) (motive_3 := fun _ => True) (motive_4 := fun _ => True) ?_ ?_ ?_ ?_ ?_ ?_ ?_ ?_ ?_ ?_ ?_ ?_ d
    · intro v _ _ h; cases h; exact .non
    · intro b v _ _ h; cases h; exact .bl b
    · intro i v _ _ h; cases h; exact .int i
    · intro x v _ _ h; cases h; exact .str x
    · intro ds ih v hc u h
      obtain ⟨a, xs, rfl, h1, h2⟩ := h
      exact .lst (.inl (.inl (u _ _ h1))) (ih xs (by simpa only [PyData.canLay0] using hc) u h2)
    · intro ds ih v hc u h
      obtain ⟨a, xs, rfl, h1, h2⟩ := h
      exact .tup (TupN.at h1 fun a o _ q => u a o q).sq (ih xs (by simpa only [PyData.canLay0] using hc) u h2)
    · intro kvs _ v hc; simp [PyData.canLay0] at hc
    · intro vs _ _ h; cases h; exact .nil
    · intro d ds ih1 ih2 vs hc u h
      obtain ⟨v, r, rfl, h1, h2⟩ := h
      simp only [PyData.canLayAll0, Bool.and_eq_true] at hc
      exact .cons (ih1 v hc.1 u h1) (ih2 r hc.2 u h2)
    · trivial
    · intros; trivial
    · intros; trivial
  exact both
end
def fsDict (p : Pr) (f : FS) : List (Key × V) := [(.inr "cells", .ref p.ca), (.inr p.k2, .int f.nx), (.inr p.k3, .int f.left), (.inr p.k4, .int f.dr)]
/-- the error that is held -/
def ExO (p : Pr) (G : Hp) : Prop := ∀ x, p.ex = some x → G x.dd = some (.xd x.fs) ∧ RepAll p G x.ds x.vs
theorem ExO.up {p : Pr} {G G' : Hp} (h : ExO p G) (u : ∀ a o, Sq o → G a = some o → G' a = some o) : ExO p G' := fun x e => ⟨u _ _ trivial (h x e).1, RepAll.up u (h x e).2⟩
theorem ExO.no {p : Pr} {G : Hp} (h : p.ex = none) : ExO p G := fun x e => by rw [h] at e; cases e
structure FO (p : Pr) (f : FS) (G : Hp) : Prop where
  d : G p.fa = some (.dK (fsDict p f))
  c : G p.ca = some (.lst (f.cells.map V.int))
  e : ExO p G
theorem FO.ext {p : Pr} {f : FS} {G G' : Hp} (h : FO p f G) (e : Ext G G') : FO p f G' := ⟨e.all _ _ h.d, e.all _ _ h.c, h.e.up fun a o _ z => e.all a o z⟩
abbrev Env' := List (Option D)
def Live (P : Addr → Prop) (H : Hp) : Prop := ∀ a, P a → H a ≠ none
theorem Live.up {Tb : List (Addr × Str)} {P : Addr → Prop} {H H' : Hp} (l : Live P H) (u : Up Tb H H') : Live P H' := fun a h e => l a h (u.no a e)
theorem Live.ex {P : Addr → Prop} {H H' : Hp} (l : Live P H) (e : Ext H H') : Live P H' := l.up (Tb := []) e.up
structure EnvR (p : Pr) (G : Hp) (ρ : Env') (σ : L2.St) : Prop where
  len : ρ.length = σ.length
  has : ∀ (i : Nat) (d : D), ρ[i]? = some (some d) → ∃ v, σ[i]? = some (some v) ∧ Rep p G d v
theorem EnvR.up {p : Pr} {G G' : Hp} {ρ : Env'} {σ : L2.St} (h : EnvR p G ρ σ) (u : ∀ a o, Sq o → G a = some o → G' a = some o) : EnvR p G' ρ σ := ⟨h.len, fun i d e => by
  obtain ⟨v, h1, h2⟩ := h.has i d e
  exact ⟨v, h1, Rep.up u h2⟩⟩
structure At (p : Pr) (P : Addr → Prop) (H : Hp) (ρ : Env') (φ : FS) (σ : L2.St) : Prop where
  live : Live P H
  env : EnvR p (hide P H) ρ σ
  fo : FO p φ (hide P H)
  tb : LamX.Tabs p.T H
theorem At.next {p : Pr} {P : Addr → Prop} {H H' : Hp} {ρ : Env'} {φ φ' : FS} {σ : L2.St} (a : At p P H ρ φ σ) (u : Up p.T H H') (f : FO p φ' (hide P H')) : At p P H' ρ φ' σ :=
  ⟨a.live.up u, a.env.up (hide_up u), f, u.tab a.tb⟩
/-- v is what e says: a datum, or a list that is new since H0 and that nobody else holds -/
def RepE (p : Pr) (P : Addr → Prop) (H0 H : Hp) : EV → V → Prop
  | .dat d, v => Rep p (hide P H) d v
  | .own ds, v => ∃ a xs, v = .ref a ∧ H0 a = none ∧ H a = some (.lst xs) ∧ RepAll p (hide (fun b => P b ∨ b = a) H) ds xs
section
variable {p : Pr} {P : Addr → Prop} {H0 H1 H H' : Hp} {e : EV} {v : V}
theorem RepE.rep (l : Live P H0) (h : RepE p P H0 H e v) : Rep p (hide P H) e.toD v := by
  cases e with
  | dat d => exact h
  | own ds =>
    obtain ⟨a, xs, rfl, h1, h2, h3⟩ := h
    exact ⟨a, xs, rfl, by rw [hide_eq fun z => l a z h1]; exact h2, RepAll.up (fun b o _ q => hide_less (fun c z => .inl z) b o q) h3⟩
theorem RepE.up {Tb : List (Addr × Str)} (h : RepE p P H0 H e v) (u : Up Tb H H') : RepE p P H0 H' e v := by
  cases e with
  | dat d => exact Rep.up (hide_up u) h
  | own ds =>
    obtain ⟨a, xs, rfl, h1, h2, h3⟩ := h
    exact ⟨a, xs, rfl, h1, u.sq _ _ trivial h2, RepAll.up (hide_up u) h3⟩
theorem RepE.old {Tb : List (Addr × Str)} (h : RepE p P H1 H e v) (u : Up Tb H0 H1) : RepE p P H0 H e v := by
  cases e with
  | dat d => exact h
  | own ds =>
    obtain ⟨a, xs, rfl, h1, h2, h3⟩ := h
    exact ⟨a, xs, rfl, u.no a h1, h2, h3⟩
end
end VI
namespace VI
open PySem PySem.Spec PyProof.Rows L2
structure Pk where
  fa : Addr
  ca : Addr
  k2 : Str
  k3 : Str
  k4 : Str
  T : List (Addr × Str)
  ex : Option Ex
def Pk.at (q : Pk) (K : PySem.W.Frag) : Pr := ⟨K, q.fa, q.ca, q.k2, q.k3, q.k4, q.T, q.ex⟩
abbrev ME := Env' → FS → Res (EV × FS)
abbrev MT := Env' → FS → Res (Bool × FS)
abbrev MA := Env' → FS → Res (List D × FS)
def tD (p : Pr) (m : ME) : TE := fun σ H Q => ∃ P ρ φ e φ', At p P H ρ φ σ ∧ m ρ φ = .ok (e, φ') ∧ ∀ v H', Up p.T H H' → FO p φ' (hide P H') → RepE p P H H' e v → Q v H'
def tDT (p : Pr) (m : MT) : TT := fun σ H Q => ∃ P ρ φ b φ', At p P H ρ φ σ ∧ m ρ φ = .ok (b, φ') ∧ ∀ H', Up p.T H H' → FO p φ' (hide P H') → Q b H'
def tDA (p : Pr) (m : MA) : TA := fun σ H Q => ∃ P ρ φ ds φ', At p P H ρ φ σ ∧ m ρ φ = .ok (ds, φ') ∧ ∀ vs H', Up p.T H H' → FO p φ' (hide P H') → RepAll p (hide P H') ds vs → Q vs H'
def DE (X : Cx) (q : Pk) (e : Expr) (m : ME) : Prop := PE X e (tD (q.at X.K) m)
def DT (X : Cx) (q : Pk) (e : Expr) (m : MT) : Prop := PT X e (tDT (q.at X.K) m)
def DW (X : Cx) (q : Pk) (e : Expr) (m : MT) : Prop := PW X e (tDT (q.at X.K) m)
def DA (X : Cx) (q : Pk) (es : List Expr) (m : MA) : Prop := PA X es (tDA (q.at X.K) m)
theorem _root_.L2.PE.imp {X : Cx} {e : Expr} {t t' : TE} (h : PE X e t) (w : ∀ σ H Q, t' σ H Q → t σ H Q) : PE X e t' := ⟨fun pins s σ H Q I q => h.run pins s σ H Q I (w _ _ _ q)⟩
theorem _root_.L2.PT.imp {X : Cx} {e : Expr} {t t' : TT} (h : PT X e t) (w : ∀ σ H Q, t' σ H Q → t σ H Q) : PT X e t' := ⟨fun pins s σ H Q I q => h.run pins s σ H Q I (w _ _ _ q)⟩
theorem _root_.L2.PW.imp {X : Cx} {e : Expr} {t t' : TT} (h : PW X e t) (w : ∀ σ H Q, t' σ H Q → t σ H Q) : PW X e t' := ⟨fun wh pins s σ H Q I q => h.run wh pins s σ H Q I (w _ _ _ q)⟩
theorem _root_.L2.PA.imp {X : Cx} {es : List Expr} {t t' : TA} (h : PA X es t) (w : ∀ σ H Q, t' σ H Q → t σ H Q) : PA X es t' := ⟨fun pos pins s σ H Q I q => h.run pos pins s σ H Q I (w _ _ _ q)⟩
section
variable {p : Pr} {P : Addr → Prop} {H : Hp} {ρ : Env'} {φ φ1 : FS} {σ : L2.St}
/-- one part, then the rest -/
theorem part {m : ME} {e : EV} {Q : V → Hp → Prop} (a : At p P H ρ φ σ) (h : m ρ φ = .ok (e, φ1))
    (k : ∀ v H1, At p P H1 ρ φ1 σ → Up p.T H H1 → RepE p P H H1 e v → Q v H1) : tD p m σ H Q :=
  ⟨P, ρ, φ, e, φ1, a, h, fun v H1 u f r => k v H1 (a.next u f) u r⟩
theorem partT {m : MT} {b : Bool} {Q : Bool → Hp → Prop} (a : At p P H ρ φ σ) (h : m ρ φ = .ok (b, φ1))
    (k : ∀ H1, At p P H1 ρ φ1 σ → Up p.T H H1 → Q b H1) : tDT p m σ H Q :=
  ⟨P, ρ, φ, b, φ1, a, h, fun H1 u f => k H1 (a.next u f) u⟩
theorem partA {m : MA} {ds : List D} {Q : List V → Hp → Prop} (a : At p P H ρ φ σ) (h : m ρ φ = .ok (ds, φ1))
    (k : ∀ vs H1, At p P H1 ρ φ1 σ → Up p.T H H1 → RepAll p (hide P H1) ds vs → Q vs H1) : tDA p m σ H Q :=
  ⟨P, ρ, φ, ds, φ1, a, h, fun v H1 u f r => k v H1 (a.next u f) u r⟩
end
def cD (d : D) : ME := fun _ φ => .ok (.dat d, φ)
def vD (i : Nat) : ME := fun ρ φ => match ρ[i]? with
  | some (some d) => .ok (.dat d, φ)
  | _ => .bad
section
variable {X : Cx} {q : Pk} {pos : Pos} {a b c : Expr} {ma mb mc : ME}
theorem de_const {e : Expr} {v : V} {d : D} (h : PE X e (tC v)) (r : ∀ p G, Rep p G d v) : DE X q e (cD d) := h.imp fun σ H Q w => by
  obtain ⟨P, ρ, φ, e, φ', a, h, k⟩ := w
  cases h
  exact k v H (Up.refl H) a.fo (r _ _)
theorem de_int {i j} : DE X q (.Constant (.int i) j pos) (cD (.int i)) := de_const pe_int fun _ _ => rfl
theorem de_bl {i j} : DE X q (.Constant (.bool i) j pos) (cD (.bool i)) := de_const pe_bl fun _ _ => rfl
theorem de_str {i j} : DE X q (.Constant (.str i) j pos) (cD (.str i)) := de_const pe_str fun _ _ => rfl
theorem de_non {j} : DE X q (.Constant .none j pos) (cD .none) := de_const pe_non fun _ _ => rfl
theorem de_var {i : Nat} {e : Expr} (h : PE X e (tVar i)) : DE X q e (vD i) := h.imp fun σ H Q w => by
  obtain ⟨P, ρ, φ, e, φ', a, h, k⟩ := w
  unfold vD at h
  split at h
  · rename_i d e1
    cases h
    obtain ⟨v, e2, r⟩ := a.env.has i d e1
    exact ⟨v, e2, k v H (Up.refl H) a.fo r⟩
  · cases h
def OpG (X : Cx) (q : Pk) (f : Value → Value → Sem Value) (g : D → D → Res EV) : Prop :=
  ∃ r : R2, OpR X f r ∧ ∀ (P : Addr → Prop) (H : Hp) (x y : V) (d1 d2 : D) (e : EV) (Q : VK), Live P H → Rep (q.at X.K) (hide P H) d1 x → Rep (q.at X.K) (hide P H) d2 y → g d1 d2 = .ok e →
    (∀ v H', Ext H H' → RepE (q.at X.K) P H H' e v → Q v H') → r x y H Q
def op2 (g : D → D → Res EV) (ma mb : ME) : ME := fun ρ φ => (ma ρ φ).bind fun r1 => (mb ρ r1.2).bind fun r2 => (g r1.1.toD r2.1.toD).bind fun e => .ok (e, r2.2)
theorem op2_ok {g : D → D → Res EV} {ma mb : ME} {ρ : Env'} {φ φ' : FS} {e : EV} (h : op2 g ma mb ρ φ = .ok (e, φ')) : ∃ e1 φ1 e2, ma ρ φ = .ok (e1, φ1) ∧ mb ρ φ1 = .ok (e2, φ') ∧ g e1.toD e2.toD = .ok e := by
  unfold op2 at h
  obtain ⟨⟨e1, φ1⟩, h1, h⟩ := Res.bind_ok h
  obtain ⟨⟨e2, φ2⟩, h2, h⟩ := Res.bind_ok h
  obtain ⟨e3, h3, h⟩ := Res.bind_ok h
  cases h
  exact ⟨e1, φ1, e2, h1, h2, h3⟩
theorem tOp_D {p : Pr} {r : R2} {g : D → D → Res EV} (hr : ∀ (P : Addr → Prop) (H : Hp) (x y : V) (d1 d2 : D) (e : EV) (Q : VK), Live P H → Rep p (hide P H) d1 x → Rep p (hide P H) d2 y → g d1 d2 = .ok e →
    (∀ v H', Ext H H' → RepE p P H H' e v → Q v H') → r x y H Q) (σ : L2.St) (H : Hp) (Q : VK) (w : tD p (op2 g ma mb) σ H Q) : tOp r (tD p ma) (tD p mb) σ H Q := by
  obtain ⟨P, ρ, φ, e, φ', a, h, k⟩ := w
  obtain ⟨e1, φ1, e2, h1, h2, h3⟩ := op2_ok h
  refine part a h1 fun v1 H1 a1 u1 r1 => part a1 h2 fun v2 H2 a2 u2 r2 => ?_
  refine hr P H2 v1 v2 e1.toD e2.toD e Q a2.live (Rep.up (hide_up u2) (r1.rep a.live)) (r2.rep a1.live) h3 fun v H3 x3 r3 => ?_
  exact k v H3 ((u1.trans u2).trans x3.up) (a2.fo.ext (hide_ext x3)) (r3.old (u1.trans u2))
theorem de_op {op : Operator} {g : D → D → Res EV} (h : OpG X q (binaryOp op) g) (ha : DE X q a ma) (hb : DE X q b mb) : DE X q (.BinOp a op b pos) (op2 g ma mb) := by
  obtain ⟨r, h1, h2⟩ := h
  exact (pe_op h1 ha hb).imp (tOp_D h2)
theorem de_cmp {op : CmpOp} {g : D → D → Res EV} (h : OpG X q (compareOp op) g) (ha : DE X q a ma) (hb : DE X q b mb) (hm : behindInMarks op b = false) : DE X q (.Compare a [op] [b] pos) (op2 g ma mb) := by
  obtain ⟨r, h1, h2⟩ := h
  exact (pe_cmpR h1 ha hb hm).imp (tOp_D h2)
/-- a value that is a bool, as a test -/
def tst (m : ME) : MT := fun ρ φ => (m ρ φ).bind fun r => match r.1 with
  | .dat (.bool b) => .ok (b, r.2)
  | _ => .bad
theorem tst_ok {m : ME} {ρ : Env'} {φ φ' : FS} {b : Bool} (h : tst m ρ φ = .ok (b, φ')) : m ρ φ = .ok (.dat (.bool b), φ') := by
  unfold tst at h
  obtain ⟨⟨e, φ1⟩, h1, h⟩ := Res.bind_ok h
  rcases e with d | ds
  · cases d with
    | bool b1 => cases h; exact h1
    | none => cases h
    | int i => cases h
    | str x => cases h
    | list ds => cases h
    | tuple ds => cases h
    | dict kv => cases h
  · cases h
theorem tTest_D {p : Pr} {m : ME} {t : TE} (hw : ∀ σ H Q, tD p m σ H Q → t σ H Q) (σ : L2.St) (H : Hp) (Q : Bool → Hp → Prop) (w : tDT p (tst m) σ H Q) : tTest t σ H Q := by
  obtain ⟨P, ρ, φ, b, φ', a, h, k⟩ := w
  refine hw σ H _ (part a (tst_ok h) fun v H1 a1 u1 r1 => ?_)
  cases r1
  exact ⟨b, rfl, k H1 u1 a1.fo⟩
theorem dt_cmp {op : CmpOp} {g : D → D → Res EV} (h : OpG X q (compareOp op) g) (ha : DE X q a ma) (hb : DE X q b mb) (hm : behindInMarks op b = false) : DT X q (.Compare a [op] [b] pos) (tst (op2 g ma mb)) := by
  obtain ⟨r, h1, h2⟩ := h
  exact (pt_cmpR h1 ha hb hm).imp (tTest_D (tOp_D h2))
theorem dt_val {e : Expr} {m : ME} (h : DE X q e m) (he : ∀ whole, isTrue e X.env whole = (do let v ← whole; standAt e.pos; holding [v] (truthy v))) : DT X q e (tst m) :=
  (pt_val h he).imp (tTest_D fun _ _ _ w => w)
def chn (g g' : D → D → Res EV) (ma mb mc : ME) : ME := fun ρ φ => (ma ρ φ).bind fun r1 => (mb ρ r1.2).bind fun r2 => (g r1.1.toD r2.1.toD).bind fun e => match e with
  | .dat (.bool true) => (mc ρ r2.2).bind fun r3 => (g' r2.1.toD r3.1.toD).bind fun e' => .ok (e', r3.2)
  | .dat (.bool false) => .ok (.dat (.bool false), r2.2)
  | _ => .bad
theorem chain_D {p : Pr} {r r' : R2} {g g' : D → D → Res EV} (hr : ∀ (P : Addr → Prop) (H : Hp) (x y : V) (d1 d2 : D) (e : EV) (Q : VK), Live P H → Rep p (hide P H) d1 x → Rep p (hide P H) d2 y → g d1 d2 = .ok e →
    (∀ v H', Ext H H' → RepE p P H H' e v → Q v H') → r x y H Q)
    (hr' : ∀ (P : Addr → Prop) (H : Hp) (x y : V) (d1 d2 : D) (e : EV) (Q : VK), Live P H → Rep p (hide P H) d1 x → Rep p (hide P H) d2 y → g' d1 d2 = .ok e →
    (∀ v H', Ext H H' → RepE p P H H' e v → Q v H') → r' x y H Q) (σ : L2.St) (H : Hp) (Q : VK) (w : tD p (chn g g' ma mb mc) σ H Q) : tChain r r' (tD p ma) (tD p mb) (tD p mc) σ H Q := by
  obtain ⟨P, ρ, φ, e, φ', a, h, k⟩ := w
  unfold chn at h
  obtain ⟨⟨e1, φ1⟩, h1, h⟩ := Res.bind_ok h
  obtain ⟨⟨e2, φ2⟩, h2, h⟩ := Res.bind_ok h
  obtain ⟨e3, h3, h⟩ := Res.bind_ok h
  refine part a h1 fun v1 H1 a1 u1 r1 => part a1 h2 fun v2 H2 a2 u2 r2 => ?_
  refine hr P H2 v1 v2 e1.toD e2.toD e3 _ a2.live (Rep.up (hide_up u2) (r1.rep a.live)) (r2.rep a1.live) h3 fun v H3 x3 r3 => ?_
  have a3 : At p P H3 ρ φ2 σ := a2.next x3.up (a2.fo.ext (hide_ext x3))
  dsimp only at h
  split at h
  · cases r3
    refine ⟨true, rfl, ?_⟩
    rw [if_pos rfl]
    obtain ⟨⟨e4, φ4⟩, h4, h⟩ := Res.bind_ok h
    obtain ⟨e5, h5, h⟩ := Res.bind_ok h
    cases h
    refine part a3 h4 fun v4 H4 a4 u4 r4 => ?_
    refine hr' P H4 v2 v4 e2.toD e4.toD e _ a4.live (Rep.up (hide_up (x3.up.trans u4)) (r2.rep a1.live)) (r4.rep a3.live) h5 fun v5 H5 x5 r5 => ?_
    exact k v5 H5 ((((u1.trans u2).trans x3.up).trans u4).trans x5.up) (a4.fo.ext (hide_ext x5)) (r5.old (((u1.trans u2).trans x3.up).trans u4))
  · cases r3
    cases h
    refine ⟨false, rfl, ?_⟩
    rw [if_neg Bool.false_ne_true]
    exact k _ H3 ((u1.trans u2).trans x3.up) a3.fo rfl
  · cases h
theorem de_chain {op op' : CmpOp} {g g' : D → D → Res EV} (h : OpG X q (compareOp op) g) (h' : OpG X q (compareOp op') g') (ha : DE X q a ma) (hb : DE X q b mb) (hc : DE X q c mc) (hm : lastMarks [op, op'] [b, c] = false) :
    DE X q (.Compare a [op, op'] [b, c] pos) (chn g g' ma mb mc) := by
  obtain ⟨r, h1, h2⟩ := h
  obtain ⟨r', h3, h4⟩ := h'
  exact (pe_chain h1 h3 ha hb hc hm).imp (chain_D h2 h4)
theorem dt_chain {op op' : CmpOp} {g g' : D → D → Res EV} (h : OpG X q (compareOp op) g) (h' : OpG X q (compareOp op') g') (ha : DE X q a ma) (hb : DE X q b mb) (hc : DE X q c mc) (hm : lastMarks [op, op'] [b, c] = false) :
    DT X q (.Compare a [op, op'] [b, c] pos) (tst (chn g g' ma mb mc)) := by
  obtain ⟨r, h1, h2⟩ := h
  obtain ⟨r', h3, h4⟩ := h'
  exact (pt_chain h1 h3 ha hb hc hm).imp (tTest_D (chain_D h2 h4))
variable {rest : List Expr} {ta tb : MT}
def andT (s t : MT) : MT := fun ρ φ => (s ρ φ).bind fun r => if r.1 = true then t ρ r.2 else .ok (false, r.2)
def orT (s t : MT) : MT := fun ρ φ => (s ρ φ).bind fun r => if r.1 = true then .ok (true, r.2) else t ρ r.2
def notT (s : MT) : MT := fun ρ φ => (s ρ φ).bind fun r => .ok (!r.1, r.2)
theorem dt_w {e : Expr} (h : DW X q e ta) : DT X q e ta := h.pt
theorem dw_and1 (h : DT X q a ta) : DW X q (.BoolOp .And [a] pos) ta := pw_and1 h
theorem dw_or1 (h : DT X q a ta) : DW X q (.BoolOp .Or [a] pos) ta := pw_or1 h
theorem dw_and (ha : DT X q a ta) (hb : DW X q (.BoolOp .And (b :: rest) pos) tb) : DW X q (.BoolOp .And (a :: b :: rest) pos) (andT ta tb) := (pw_and ha hb).imp fun σ H Q w => by
  obtain ⟨P, ρ, φ, c, φ', a, h, k⟩ := w
  obtain ⟨⟨c1, φ1⟩, h1, h⟩ := Res.bind_ok h
  refine partT a h1 fun H1 a1 u1 => ?_
  cases c1 with
  | true => exact partT a1 h fun H2 a2 u2 => k H2 (u1.trans u2) a2.fo
  | false => cases h; exact k H1 u1 a1.fo
theorem dw_or (ha : DT X q a ta) (hb : DW X q (.BoolOp .Or (b :: rest) pos) tb) : DW X q (.BoolOp .Or (a :: b :: rest) pos) (orT ta tb) := (pw_or ha hb).imp fun σ H Q w => by
  obtain ⟨P, ρ, φ, c, φ', a, h, k⟩ := w
  obtain ⟨⟨c1, φ1⟩, h1, h⟩ := Res.bind_ok h
  refine partT a h1 fun H1 a1 u1 => ?_
  cases c1 with
  | true => cases h; exact k H1 u1 a1.fo
  | false => exact partT a1 h fun H2 a2 u2 => k H2 (u1.trans u2) a2.fo
theorem dt_not (ha : DT X q a ta) : DT X q (.UnaryOp .Not a pos) (notT ta) := (pt_not ha).imp fun σ H Q w => by
  obtain ⟨P, ρ, φ, c, φ', a, h, k⟩ := w
  obtain ⟨⟨c1, φ1⟩, h1, h⟩ := Res.bind_ok h
  cases h
  exact partT a h1 fun H1 a1 u1 => k H1 u1 a1.fo
def andM (ma mb : ME) : ME := fun ρ φ => (ma ρ φ).bind fun r => match r.1 with
  | .dat (.bool true) => mb ρ r.2
  | .dat (.bool false) => .ok (.dat (.bool false), r.2)
  | _ => .bad
def orM (ma mb : ME) : ME := fun ρ φ => (ma ρ φ).bind fun r => match r.1 with
  | .dat (.bool true) => .ok (.dat (.bool true), r.2)
  | .dat (.bool false) => mb ρ r.2
  | _ => .bad
def notM (ma : ME) : ME := fun ρ φ => (ma ρ φ).bind fun r => match r.1 with
  | .dat (.bool b) => .ok (.dat (.bool (!b)), r.2)
  | _ => .bad
theorem de_one {op} (h : DE X q a ma) : DE X q (.BoolOp op [a] pos) ma := pe_one h
theorem de_and (ha : DE X q a ma) (hb : DE X q (.BoolOp .And (b :: rest) pos) mb) : DE X q (.BoolOp .And (a :: b :: rest) pos) (andM ma mb) := (pe_and ha hb).imp fun σ H Q w => by
  obtain ⟨P, ρ, φ, c, φ', a, h, k⟩ := w
  obtain ⟨⟨c1, φ1⟩, h1, h⟩ := Res.bind_ok h
  refine part a h1 fun v H1 a1 u1 r1 => ?_
  dsimp only at h
  split at h
  · cases r1
    refine ⟨true, rfl, ?_⟩
    rw [if_pos rfl]
    exact part a1 h fun v H2 a2 u2 r2 => k v H2 (u1.trans u2) a2.fo (r2.old u1)
  · cases r1
    cases h
    refine ⟨false, rfl, ?_⟩
    rw [if_neg Bool.false_ne_true]
    exact k _ H1 u1 a1.fo rfl
  · cases h
theorem de_or (ha : DE X q a ma) (hb : DE X q (.BoolOp .Or (b :: rest) pos) mb) : DE X q (.BoolOp .Or (a :: b :: rest) pos) (orM ma mb) := (pe_or ha hb).imp fun σ H Q w => by
  obtain ⟨P, ρ, φ, c, φ', a, h, k⟩ := w
  obtain ⟨⟨c1, φ1⟩, h1, h⟩ := Res.bind_ok h
  refine part a h1 fun v H1 a1 u1 r1 => ?_
  dsimp only at h
  split at h
  · cases r1
    cases h
    refine ⟨true, rfl, ?_⟩
    rw [if_pos rfl]
    exact k _ H1 u1 a1.fo rfl
  · cases r1
    refine ⟨false, rfl, ?_⟩
    rw [if_neg Bool.false_ne_true]
    exact part a1 h fun v H2 a2 u2 r2 => k v H2 (u1.trans u2) a2.fo (r2.old u1)
  · cases h
theorem de_not (ha : DE X q a ma) : DE X q (.UnaryOp .Not a pos) (notM ma) := (pe_not ha).imp fun σ H Q w => by
  obtain ⟨P, ρ, φ, c, φ', a, h, k⟩ := w
  obtain ⟨⟨c1, φ1⟩, h1, h⟩ := Res.bind_ok h
  refine part a h1 fun v H1 a1 u1 r1 => ?_
  dsimp only at h
  split at h
  · cases r1
    cases h
    exact ⟨_, rfl, k _ H1 u1 a1.fo rfl⟩
  · cases h
def ifM (tc : MT) (ma mb : ME) : ME := fun ρ φ => (tc ρ φ).bind fun r => if r.1 = true then ma ρ r.2 else mb ρ r.2
theorem de_if (hc : DT X q c ta) (ha : DE X q a ma) (hb : DE X q b mb) : DE X q (.IfExp c a b pos) (ifM ta ma mb) := (pe_ifExp hc ha hb).imp fun σ H Q w => by
  obtain ⟨P, ρ, φ, e, φ', a, h, k⟩ := w
  obtain ⟨⟨c1, φ1⟩, h1, h⟩ := Res.bind_ok h
  refine partT a h1 fun H1 a1 u1 => ?_
  cases c1 with
  | true => exact part a1 h fun v H2 a2 u2 r2 => k v H2 (u1.trans u2) a2.fo (r2.old u1)
  | false => exact part a1 h fun v H2 a2 u2 r2 => k v H2 (u1.trans u2) a2.fo (r2.old u1)
variable {es : List Expr} {ms : MA}
def nilA : MA := fun _ φ => .ok ([], φ)
def consA (m : ME) (ms : MA) : MA := fun ρ φ => (m ρ φ).bind fun r => (ms ρ r.2).bind fun r2 => .ok (r.1.toD :: r2.1, r2.2)
theorem da_nil : DA X q [] nilA := pa_nil.imp fun σ H Q w => by
  obtain ⟨P, ρ, φ, e, φ', a, h, k⟩ := w
  cases h
  exact k [] H (Up.refl H) a.fo rfl
theorem da_cons (ha : DE X q a ma) (hs : DA X q es ms) (hst : starEach (a :: es) X.env = (false, eval a X.env) :: starEach es X.env := by rfl) : DA X q (a :: es) (consA ma ms) := (pa_cons ha hs hst).imp fun σ H Q w => by
  obtain ⟨P, ρ, φ, e, φ', a, h, k⟩ := w
  obtain ⟨⟨e1, φ1⟩, h1, h⟩ := Res.bind_ok h
  obtain ⟨⟨e2, φ2⟩, h2, h⟩ := Res.bind_ok h
  cases h
  refine part a h1 fun v H1 a1 u1 r1 => partA a1 h2 fun vs H2 a2 u2 r2 => ?_
  exact k (v :: vs) H2 (u1.trans u2) a2.fo ⟨v, vs, rfl, Rep.up (hide_up u2) (r1.rep a.live), r2⟩
def tupM (ms : MA) : ME := fun ρ φ => (ms ρ φ).bind fun r => if r.1.length ≤ 1000000 then .ok (.dat (.tuple r.1), r.2) else .bad
def lstM (ms : MA) : ME := fun ρ φ => (ms ρ φ).bind fun r => if r.1.length ≤ 1000000 then .ok (.own r.1, r.2) else .bad
theorem small6 {n : Nat} (h : n ≤ 1000000) : n ≤ sizeLine := by rw [sizeLine_eq]; omega
/-- a new object, seen -/
theorem rep_newT {p : Pr} {P : Addr → Prop} {H : Hp} {a : Addr} {o : Obj} {ds : List D} {vs : List V} (l : Live P H) (h : RepAll p (hide P H) ds vs) (n : H a = none) (hd : o.dict = none) : Rep p (hide P (upd H a (.frz o (.tup vs)))) (.tuple ds) (.ref a) := by
  refine ⟨a, vs, rfl, .inl ⟨o, hd, ?_⟩, RepAll.up (hide_ex (Ext.new n)) h⟩
  rw [hide_eq fun z => l a z n]
  exact upd_same
/-- a new tuple is what was wanted -/
theorem newT_of {p : Pr} {P : Addr → Prop} {H : Hp} {ds : List D} {vs : List V} {Q : VK} (l : Live P H) (h : RepAll p (hide P H) ds vs) (k : ∀ v H', Ext H H' → RepE p P H H' (.dat (.tuple ds)) v → Q v H') : NewT vs H Q := fun a o n hd =>
  k _ _ (Ext.new n) (rep_newT l h n hd)
theorem rep_newL {p : Pr} {P : Addr → Prop} {H0 H : Hp} {a : Addr} {ds : List D} {vs : List V} (h : RepAll p (hide P H) ds vs) (u : Up p.T H0 H) (n : H a = none) : RepE p P H0 (upd H a (.lst vs)) (.own ds) (.ref a) := by
  refine ⟨a, vs, rfl, u.no a n, upd_same, ?_⟩
  rw [hide_upd (.inr rfl)]
  refine RepAll.up (fun b o _ e => ?_) h
  obtain ⟨e1, e2⟩ := hide_of e
  rw [hide_eq fun z => ?_]
  · exact e2
  · rcases z with z | z
    · exact e1 z
    · rw [z, n] at e2; cases e2
theorem de_tup {n} (h : DA X q es ms) : DE X q (.Tuple es n pos) (tupM ms) := (pe_tupN h).imp fun σ H Q w => by
  obtain ⟨P, ρ, φ, e, φ', a, h, k⟩ := w
  obtain ⟨⟨ds, φ1⟩, h1, h⟩ := Res.bind_ok h
  dsimp only at h
  split at h
  · cases h
    refine partA a h1 fun vs H1 a1 u1 r1 => ⟨by rw [r1.len]; exact small6 (by assumption), newT_of a1.live r1 fun v H2 x r => ?_⟩
    exact k _ _ (u1.trans x.up) (a1.fo.ext (hide_ext x)) (r.old u1)
  · cases h
theorem de_lst (h : DA X q es ms) : DE X q (.List es pos) (lstM ms) := (pe_lst h).imp fun σ H Q w => by
  obtain ⟨P, ρ, φ, e, φ', a, h, k⟩ := w
  obtain ⟨⟨ds, φ1⟩, h1, h⟩ := Res.bind_ok h
  dsimp only at h
  split at h
  · cases h
    refine partA a h1 fun vs H1 a1 u1 r1 => ⟨by rw [r1.len]; exact small6 (by assumption), fun t nt => ?_⟩
    exact k _ _ (u1.trans (Ext.new nt).up) (a1.fo.ext (hide_ext (Ext.new nt))) (rep_newL r1 u1 nt)
  · cases h
end
end VI
namespace VI
open PySem PySem.Spec PyProof.Rows L2
def rb (b : Bool) : Res EV := .ok (.dat (.bool b))
def addG : D → D → Res EV
  | .int i, .int j => .ok (.dat (.int (i + j)))
  | .str x, .str y => if x.length + y.length ≤ 1000000 then .ok (.dat (.str (x ++ y))) else .bad
  | .list xs, .list ys => if xs.length + ys.length ≤ 1000000 then .ok (.own (xs ++ ys)) else .bad
  | .tuple xs, .tuple ys => if xs.length + ys.length ≤ 1000000 then .ok (.dat (.tuple (xs ++ ys))) else .bad
  | _, _ => .bad
def subG : D → D → Res EV
  | .int i, .int j => .ok (.dat (.int (i - j)))
  | _, _ => .bad
def mulG : D → D → Res EV
  | .int i, .int j => if (-(2 ^ 64) < i ∧ i < 2 ^ 64) ∨ (-(2 ^ 64) < j ∧ j < 2 ^ 64) then .ok (.dat (.int (i * j))) else .bad
  | .tuple xs, .int k => if xs ≠ [] ∧ 2 ≤ k ∧ k ≤ 1000 ∧ xs.length ≤ 1000 then .ok (.dat (.tuple (List.replicate k.toNat xs).flatten)) else .bad
  | .list xs, .int k => if 0 ≤ k ∧ k ≤ 1000 ∧ xs.length ≤ 1000 then .ok (.own (List.replicate k.toNat xs).flatten) else .bad
  | _, _ => .bad
def modG : D → D → Res EV
  | .int i, .int j => if 0 < j then .ok (.dat (.int (i % j))) else .bad
  | _, _ => .bad
section
variable {X : Cx} {q : Pk}
theorem rep_none {p : Pr} {G : Hp} {v : V} : Rep p G .none v ↔ v = .non := Iff.rfl
theorem RepAll.cat {p : Pr} {G : Hp} {ds : List D} {vs : List V} (h : RepAll p G ds vs) : ∀ n : Nat, RepAll p G (List.replicate n ds).flatten (List.replicate n vs).flatten
  | 0 => rfl
  | n + 1 => by
    rw [List.replicate_succ, List.replicate_succ, List.flatten_cons, List.flatten_cons]
    exact RepAll.app h (RepAll.cat h n)
theorem RepAll.nil_iff {p : Pr} {G : Hp} {ds : List D} {vs : List V} (h : RepAll p G ds vs) : vs = [] ↔ ds = [] := by
  rw [← List.length_eq_zero_iff, h.len, List.length_eq_zero_iff]
theorem og_add : OpG X q (binaryOp .Add) addG := by
  refine ⟨_, ((op_add.or op_add_str).or op_cat).or op_catN, ?_⟩
  intro P H x y d1 d2 e Q l r1 r2 h k
  unfold addG at h
  split at h
  · cases h; cases r1; cases r2
    exact .inl (.inl (.inl ⟨_, _, rfl, rfl, k _ H (Ext.refl H) rfl⟩))
  · split at h
    · cases h; cases r1; cases r2
      rename_i hz
      exact .inl (.inl (.inr ⟨_, _, rfl, rfl, small6 hz, k _ H (Ext.refl H) rfl⟩))
    · cases h
  · split at h
    · cases h
      rename_i hz
      obtain ⟨a, xs, rfl, h1, h2⟩ := r1
      obtain ⟨b, ys, rfl, h3, h4⟩ := r2
      refine .inl (.inr ⟨a, b, xs, ys, rfl, rfl, (hide_of h1).2, (hide_of h3).2, by rw [h2.len, h4.len]; exact small6 hz, fun p np => ?_⟩)
      exact k _ _ (Ext.new np) (rep_newL (RepAll.app h2 h4) (Up.refl H) np)
    · cases h
  · split at h
    · cases h
      rename_i hz
      obtain ⟨a, xs, rfl, h1, h2⟩ := r1
      obtain ⟨b, ys, rfl, h3, h4⟩ := r2
      refine .inr ⟨a, b, xs, ys, rfl, rfl, (TupN.at h1 fun c o _ z => (hide_of z).2).sq, (TupN.at h3 fun c o _ z => (hide_of z).2).sq, by rw [h2.len, h4.len]; exact small6 hz, fun e1 => ?_, fun _ e2 => ?_, fun _ _ => ?_⟩
      · have e0 := (RepAll.nil_iff h2).mp e1
        subst e0
        exact k _ H (Ext.refl H) ⟨b, ys, rfl, h3, h4⟩
      · have e0 := (RepAll.nil_iff h4).mp e2
        subst e0
        refine k _ H (Ext.refl H) ⟨a, xs, rfl, h1, ?_⟩
        rw [List.append_nil]
        exact h2
      · exact newT_of l (RepAll.app h2 h4) fun v H' x r => k v H' x r
    · cases h
  · cases h
theorem og_sub : OpG X q (binaryOp .Sub) subG := by
  refine ⟨_, op_sub, ?_⟩
  intro P H x y d1 d2 e Q l r1 r2 h k
  unfold subG at h
  split at h
  · cases h; cases r1; cases r2
    exact ⟨_, _, rfl, rfl, k _ H (Ext.refl H) rfl⟩
  · cases h
theorem og_mul : OpG X q (binaryOp .Mult) mulG := by
  refine ⟨_, (op_mul.or op_repN).or op_rep, ?_⟩
  intro P H x y d1 d2 e Q l r1 r2 h k
  unfold mulG at h
  split at h
  · split at h
    · cases h; cases r1; cases r2
      rename_i hz
      exact .inl (.inl ⟨_, _, rfl, rfl, hz, k _ H (Ext.refl H) rfl⟩)
    · cases h
  · split at h
    · cases h; cases r2
      rename_i hz
      obtain ⟨a, xs, rfl, h1, h2⟩ := r1
      exact .inl (.inr ⟨a, _, xs, rfl, rfl, (TupN.at h1 fun c o _ z => (hide_of z).2).sq, fun z => hz.1 ((RepAll.nil_iff h2).mp z), hz.2.1, hz.2.2.1, by rw [h2.len]; exact hz.2.2.2, newT_of l (RepAll.cat h2 _) fun v H' x r => k v H' x r⟩)
    · cases h
  · split at h
    · cases h; cases r2
      rename_i hz
      obtain ⟨a, xs, rfl, h1, h2⟩ := r1
      refine .inr ⟨a, _, xs, rfl, rfl, (hide_of h1).2, by omega, by omega, ?_, fun p np => k _ _ (Ext.new np) (rep_newL (RepAll.cat h2 _) (Up.refl H) np)⟩
      rw [h2.len]
      exact small6 (Nat.mul_le_mul hz.2.2 (Int.toNat_le.mpr hz.2.1))
    · cases h
  · cases h
theorem og_mod : OpG X q (binaryOp .Mod) modG := by
  refine ⟨_, op_mod, ?_⟩
  intro P H x y d1 d2 e Q l r1 r2 h k
  unfold modG at h
  split at h
  · split at h
    · cases h; cases r1; cases r2
      exact ⟨_, _, rfl, rfl, by assumption, k _ H (Ext.refl H) rfl⟩
    · cases h
  · cases h
def ltG : D → D → Res EV
  | .int i, .int j => rb (decide (i < j))
  | .str x, .str y => rb (decide (x.cps.toList < y.cps.toList))
  | _, _ => .bad
def leG : D → D → Res EV
  | .int i, .int j => rb (decide (i ≤ j))
  | .str x, .str y => rb (!decide (y.cps.toList < x.cps.toList))
  | _, _ => .bad
def gtG : D → D → Res EV
  | .int i, .int j => rb (decide (j < i))
  | _, _ => .bad
def geG : D → D → Res EV
  | .int i, .int j => rb (decide (j ≤ i))
  | _, _ => .bad
def eqG (d e : D) : Res EV := if SeqAt.shaped d = true ∧ SeqAt.shaped e = true then rb (PyData.eqv d e) else .bad
def neG (d e : D) : Res EV := if SeqAt.shaped d = true ∧ SeqAt.shaped e = true then rb (!PyData.eqv d e) else .bad
def inG (neg : Bool) : D → D → Res EV
  | d, .list xs => if SeqAt.shaped d = true ∧ SeqAt.shaped (.list xs) = true then rb (neg ^^ xs.any fun z => PyData.eqv z d) else .bad
  | d, .tuple xs => if SeqAt.shaped d = true ∧ SeqAt.shaped (.list xs) = true then rb (neg ^^ xs.any fun z => PyData.eqv z d) else .bad
  | .str x, .str y => rb (neg ^^ !(Builtin.Str.occurrences y x 0 y.length 1).isEmpty)
  | _, _ => .bad
theorem op_le_str : OpR X (compareOp .LtE) (fun x y H Q => ∃ i j, x = .str i ∧ y = .str j ∧ Q (.bl (!decide (j.cps.toList < i.cps.toList))) H) := by
  rintro pins s σ H x y v u Q I rx ry ⟨i, j, rfl, rfl, q⟩
  obtain ⟨t, rfl⟩ := rx
  obtain ⟨t', rfl⟩ := ry
  exact PySem.P.le_str ⟨.bl _, H, I, rfl, q⟩
theorem og_lt : OpG X q (compareOp .Lt) ltG := by
  refine ⟨_, op_lt.or op_lt_str, ?_⟩
  intro P H x y d1 d2 e Q l r1 r2 h k
  unfold ltG rb at h
  split at h
  · cases h; cases r1; cases r2
    exact .inl ⟨_, _, rfl, rfl, k _ H (Ext.refl H) rfl⟩
  · cases h; cases r1; cases r2
    exact .inr ⟨_, _, rfl, rfl, k _ H (Ext.refl H) rfl⟩
  · cases h
theorem og_le : OpG X q (compareOp .LtE) leG := by
  refine ⟨_, op_le.or op_le_str, ?_⟩
  intro P H x y d1 d2 e Q l r1 r2 h k
  unfold leG rb at h
  split at h
  · cases h; cases r1; cases r2
    exact .inl ⟨_, _, rfl, rfl, k _ H (Ext.refl H) rfl⟩
  · cases h; cases r1; cases r2
    exact .inr ⟨_, _, rfl, rfl, k _ H (Ext.refl H) rfl⟩
  · cases h
theorem og_gt : OpG X q (compareOp .Gt) gtG := by
  refine ⟨_, op_gt, ?_⟩
  intro P H x y d1 d2 e Q l r1 r2 h k
  unfold gtG rb at h
  split at h
  · cases h; cases r1; cases r2
    exact ⟨_, _, rfl, rfl, k _ H (Ext.refl H) rfl⟩
  · cases h
theorem og_ge : OpG X q (compareOp .GtE) geG := by
  refine ⟨_, op_ge, ?_⟩
  intro P H x y d1 d2 e Q l r1 r2 h k
  unfold geG rb at h
  split at h
  · cases h; cases r1; cases r2
    exact ⟨_, _, rfl, rfl, k _ H (Ext.refl H) rfl⟩
  · cases h
theorem og_eq (hu : X.A.units + 64 < cLine) : OpG X q (compareOp .Eq) eqG := by
  refine ⟨_, op_eqD hu, ?_⟩
  intro P H x y d1 d2 e Q l r1 r2 h k
  unfold eqG rb at h
  split at h
  · cases h
    rename_i hs
    exact ⟨d1, d2, dp_of d1 x (SeqAt.canLay_of_shaped hs.1) (fun a o z => (hide_of z).2) r1, dp_of d2 y (SeqAt.canLay_of_shaped hs.2) (fun a o z => (hide_of z).2) r2, hs.1, hs.2, k _ H (Ext.refl H) rfl⟩
  · cases h
theorem og_ne (hu : X.A.units + 64 < cLine) : OpG X q (compareOp .NotEq) neG := by
  refine ⟨_, op_neD hu, ?_⟩
  intro P H x y d1 d2 e Q l r1 r2 h k
  unfold neG rb at h
  split at h
  · cases h
    rename_i hs
    exact ⟨d1, d2, dp_of d1 x (SeqAt.canLay_of_shaped hs.1) (fun a o z => (hide_of z).2) r1, dp_of d2 y (SeqAt.canLay_of_shaped hs.2) (fun a o z => (hide_of z).2) r2, hs.1, hs.2, k _ H (Ext.refl H) rfl⟩
  · cases h
/-- x in a tuple of data -/
def rInTD (K : PySem.W.Frag) (neg : Bool) : R2 := fun x y H Q => ∃ d ds, Dp K H x d ∧ Dp K H y (.tuple ds) ∧ SeqAt.shaped d = true ∧ SeqAt.shaped (.list ds) = true ∧ Q (.bl (neg ^^ ds.any fun z => PyData.eqv z d)) H
theorem op_inTD (hu : X.A.units + 65 < cLine) : OpR X (compareOp .In) (rInTD X.K false) := by
  rintro pins s σ H x y v u Q I rx ry ⟨d, ds, hd, he, sd, se, w⟩
  obtain ⟨as, r1⟩ := Dp.reads I d x v hd rx
  obtain ⟨bs, r2⟩ := Dp.reads I (.tuple ds) y u he ry
  refine SeqAt.in_tuple_reads r2 r1 (SeqAt.canLay_of_shaped se) (SeqAt.canLay_of_shaped sd) (room_in_shaped sd hu) ⟨.bl _, H, I, rfl, ?_⟩
  rw [Bool.false_xor] at w
  exact w
theorem op_notInTD (hu : X.A.units + 65 < cLine) : OpR X (compareOp .NotIn) (rInTD X.K true) := by
  rintro pins s σ H x y v u Q I rx ry ⟨d, ds, hd, he, sd, se, w⟩
  obtain ⟨as, r1⟩ := Dp.reads I d x v hd rx
  obtain ⟨bs, r2⟩ := Dp.reads I (.tuple ds) y u he ry
  refine SeqAt.notIn_tuple_reads r2 r1 (SeqAt.canLay_of_shaped se) (SeqAt.canLay_of_shaped sd) (room_in_shaped sd hu) ⟨.bl _, H, I, rfl, ?_⟩
  rw [Bool.true_xor] at w
  exact w
theorem og_in (hu : X.A.units + 65 < cLine) : OpG X q (compareOp .In) (inG false) := by
  refine ⟨_, ((op_inD hu).or (op_inTD hu)).or op_in_str, ?_⟩
  intro P H x y d1 d2 e Q l r1 r2 h k
  unfold inG rb at h
  split at h
  · split at h
    · cases h
      rename_i hs
      refine .inl (.inl ⟨d1, _, dp_of d1 x (SeqAt.canLay_of_shaped hs.1) (fun a o z => (hide_of z).2) r1, dp_of _ y (SeqAt.canLay_of_shaped hs.2) (fun a o z => (hide_of z).2) r2, hs.1, hs.2, ?_⟩)
      exact k _ H (Ext.refl H) (by rw [Bool.false_xor]; rfl)
    · cases h
  · split at h
    · cases h
      rename_i hs
      refine .inl (.inr ⟨d1, _, dp_of d1 x (SeqAt.canLay_of_shaped hs.1) (fun a o z => (hide_of z).2) r1, dp_of (.tuple _) y ?_ (fun a o z => (hide_of z).2) r2, hs.1, hs.2, k _ H (Ext.refl H) rfl⟩)
      have hc := SeqAt.canLay_of_shaped hs.2
      simpa only [PyData.canLay0] using hc
    · cases h
  · cases h; cases r1; cases r2
    refine .inr ⟨_, _, rfl, rfl, k _ H (Ext.refl H) (by rw [Bool.false_xor]; rfl)⟩
  · cases h
theorem og_notIn (hu : X.A.units + 65 < cLine) : OpG X q (compareOp .NotIn) (inG true) := by
  refine ⟨_, ((op_notInD hu).or (op_notInTD hu)).or op_notin_str, ?_⟩
  intro P H x y d1 d2 e Q l r1 r2 h k
  unfold inG rb at h
  split at h
  · split at h
    · cases h
      rename_i hs
      refine .inl (.inl ⟨d1, _, dp_of d1 x (SeqAt.canLay_of_shaped hs.1) (fun a o z => (hide_of z).2) r1, dp_of _ y (SeqAt.canLay_of_shaped hs.2) (fun a o z => (hide_of z).2) r2, hs.1, hs.2, ?_⟩)
      exact k _ H (Ext.refl H) (by rw [Bool.true_xor]; rfl)
    · cases h
  · split at h
    · cases h
      rename_i hs
      refine .inl (.inr ⟨d1, _, dp_of d1 x (SeqAt.canLay_of_shaped hs.1) (fun a o z => (hide_of z).2) r1, dp_of (.tuple _) y ?_ (fun a o z => (hide_of z).2) r2, hs.1, hs.2, k _ H (Ext.refl H) rfl⟩)
      have hc := SeqAt.canLay_of_shaped hs.2
      simpa only [PyData.canLay0] using hc
    · cases h
  · cases h; cases r1; cases r2
    refine .inr ⟨_, _, rfl, rfl, k _ H (Ext.refl H) (by rw [Bool.true_xor]; rfl)⟩
  · cases h
end
end VI
namespace VI
open PySem PySem.Spec PyProof.Rows L2
def CallG (X : Cx) (q : Pk) (f : Value) (g : List D → Res EV) : Prop :=
  ∃ r, CallR X f r ∧ ∀ (P : Addr → Prop) (H : Hp) (xs : List V) (ds : List D) (e : EV) (Q : VK), Live P H → RepAll (q.at X.K) (hide P H) ds xs → g ds = .ok e →
    (∀ v H', Ext H H' → RepE (q.at X.K) P H H' e v → Q v H') → r xs H Q
def callM (g : List D → Res EV) (ms : MA) : ME := fun ρ φ => (ms ρ φ).bind fun r => (g r.1).bind fun e => .ok (e, r.2)
theorem callM_ok {g : List D → Res EV} {ms : MA} {ρ : Env'} {φ φ' : FS} {e : EV} (h : callM g ms ρ φ = .ok (e, φ')) : ∃ ds, ms ρ φ = .ok (ds, φ') ∧ g ds = .ok e := by
  obtain ⟨⟨ds, φ1⟩, h1, h⟩ := Res.bind_ok h
  obtain ⟨e1, h2, h⟩ := Res.bind_ok h
  cases h
  exact ⟨ds, h1, h2⟩
section
variable {X : Cx} {q : Pk} {x : Str} {p pos p2 p3 : Pos} {a b e : Expr} {es : List Expr} {ma mb : ME} {ms : MA} {g : List D → Res EV} {id T : String}
theorem tCB_D {pr : Pr} {r : List V → Hp → VK → Prop} (hr : ∀ (P : Addr → Prop) (H : Hp) (xs : List V) (ds : List D) (e : EV) (Q : VK), Live P H → RepAll pr (hide P H) ds xs → g ds = .ok e →
    (∀ v H', Ext H H' → RepE pr P H H' e v → Q v H') → r xs H Q) (σ : L2.St) (H : Hp) (Q : VK) (w : tD pr (callM g ms) σ H Q) : tCB r (tDA pr ms) σ H Q := by
  obtain ⟨P, ρ, φ, e, φ', a, h, k⟩ := w
  obtain ⟨ds, h1, h2⟩ := callM_ok h
  refine partA a h1 fun vs H1 a1 u1 r1 => hr P H1 vs ds e Q a1.live r1 h2 fun v H2 x2 r2 => ?_
  exact k v H2 (u1.trans x2.up) (a1.fo.ext (hide_ext x2)) (r2.old u1)
theorem de_callB (h : CallG X q (.builtin id) g) (hg : Gl X x) (hm : X.mg x = none) (hv : bootBuiltins x = some (.builtin id)) (ha : DA X q (e :: es) ms) (hn : x ≠ "__name__" := by decide) (hdb : (x == ("__debug__" : Str)) = false := by decide)
    (he : starEach (e :: es) X.env = (false, eval e X.env) :: starEach es X.env := by rfl) (hpl : (backTo pos (starEach es X.env)).any (·.1) = false := by rfl) : DE X q (.Call (.Name x p) (e :: es) [] pos) (callM g ms) := by
  obtain ⟨r, h1, h2⟩ := h
  exact (pe_callB h1 hg hm hv ha hn hdb he hpl).imp (tCB_D h2)
theorem de_callT (h : CallG X q (.type T) g) (hg : Gl X x) (hm : X.mg x = none) (hv : bootBuiltins x = some (.type T)) (ha : DA X q (e :: es) ms) (hn : x ≠ "__name__" := by decide) (hdb : (x == ("__debug__" : Str)) = false := by decide)
    (he : starEach (e :: es) X.env = (false, eval e X.env) :: starEach es X.env := by rfl) (hpl : (backTo pos (starEach es X.env)).any (·.1) = false := by rfl) : DE X q (.Call (.Name x p) (e :: es) [] pos) (callM g ms) := by
  obtain ⟨r, h1, h2⟩ := h
  exact (pe_callTy h1 hg hm hv ha hn hdb he hpl).imp (tCB_D h2)
def lenG : List D → Res EV
  | [.list ds] => .ok (.dat (.int ds.length))
  | [.tuple ds] => .ok (.dat (.int ds.length))
  | [.str x] => if x.length ≤ 1000000 then .ok (.dat (.int x.length)) else .bad
  | _ => .bad
theorem cg_len : CallG X q (.builtin "len") lenG := by
  refine ⟨_, call_len_seq.or call_len_str, ?_⟩
  intro P H xs ds e Q l r h k
  unfold lenG at h
  split at h
  · cases h
    obtain ⟨v, r', rfl, ⟨a, ys, rfl, h1, h2⟩, rfl⟩ := r
    exact .inl ⟨a, ys, rfl, .inl (SqL.of (hide_of h1).2), by rw [h2.len]; exact k _ H (Ext.refl H) rfl⟩
  · cases h
    obtain ⟨v, r', rfl, ⟨a, ys, rfl, h1, h2⟩, rfl⟩ := r
    exact .inl ⟨a, ys, rfl, .inr (TupN.at h1 fun c o _ z => (hide_of z).2).sq, by rw [h2.len]; exact k _ H (Ext.refl H) rfl⟩
  · split at h
    · cases h
      obtain ⟨v, r', rfl, h1, rfl⟩ := r
      cases h1
      exact .inr ⟨_, rfl, small6 (by assumption), k _ H (Ext.refl H) rfl⟩
    · cases h
  · cases h
/-- the bools of a list -/
def boolsOf : List D → Option (List Bool)
  | [] => some []
  | .bool b :: r => (boolsOf r).map (b :: ·)
  | _ :: _ => none
theorem boolsOf_eq : ∀ {ds : List D} {bs : List Bool}, boolsOf ds = some bs → ds = bs.map .bool
  | [], bs, h => by cases h; rfl
  | .bool b :: r, bs, h => by
    unfold boolsOf at h
    cases e : boolsOf r with
    | none => rw [e] at h; cases h
    | some cs => rw [e] at h; cases h; rw [boolsOf_eq e]; rfl
  | .none :: _, _, h => by cases h
  | .int _ :: _, _, h => by cases h
  | .str _ :: _, _, h => by cases h
  | .list _ :: _, _, h => by cases h
  | .tuple _ :: _, _, h => by cases h
  | .dict _ :: _, _, h => by cases h
def allG : List D → Res EV
  | [.list ds] => match boolsOf ds with
    | some bs => rb (bs.all fun b => b)
    | none => .bad
  | _ => .bad
def anyG : List D → Res EV
  | [.list ds] => match boolsOf ds with
    | some bs => rb (bs.any fun b => b)
    | none => .bad
  | _ => .bad
theorem cg_all (hc : X.calm = true) : CallG X q (.builtin "all") allG := by
  refine ⟨_, cr_all hc, ?_⟩
  intro P H xs ds e Q l r h k
  unfold allG rb at h
  split at h
  · split at h
    · rename_i hb
      cases h
      obtain ⟨v, r', rfl, ⟨a, ys, rfl, h1, h2⟩, rfl⟩ := r
      rw [boolsOf_eq hb] at h2
      rw [RepAll.bools h2] at h1
      exact ⟨a, _, rfl, SqL.of (hide_of h1).2, k _ H (Ext.refl H) rfl⟩
    · cases h
  · cases h
theorem cg_any (hc : X.calm = true) : CallG X q (.builtin "any") anyG := by
  refine ⟨_, cr_any hc, ?_⟩
  intro P H xs ds e Q l r h k
  unfold anyG rb at h
  split at h
  · split at h
    · rename_i hb
      cases h
      obtain ⟨v, r', rfl, ⟨a, ys, rfl, h1, h2⟩, rfl⟩ := r
      rw [boolsOf_eq hb] at h2
      rw [RepAll.bools h2] at h1
      exact ⟨a, _, rfl, SqL.of (hide_of h1).2, k _ H (Ext.refl H) rfl⟩
    · cases h
  · cases h
def tupleG : List D → Res EV
  | [.list ds] => .ok (.dat (.tuple ds))
  | [.tuple ds] => .ok (.dat (.tuple ds))
  | _ => .bad
theorem cg_tuple : CallG X q (.type "tuple") tupleG := by
  refine ⟨_, call_tupN, ?_⟩
  intro P H xs ds e Q l r h k
  unfold tupleG at h
  split at h
  · cases h
    obtain ⟨v, r', rfl, ⟨a, ys, rfl, h1, h2⟩, rfl⟩ := r
    exact ⟨a, ys, rfl, .inl ⟨SqL.of (hide_of h1).2, newT_of l h2 k⟩⟩
  · cases h
    obtain ⟨v, r', rfl, ⟨a, ys, rfl, h1, h2⟩, rfl⟩ := r
    exact ⟨a, ys, rfl, .inr ⟨(TupN.at h1 fun c o _ z => (hide_of z).2).sq, k _ H (Ext.refl H) ⟨a, ys, rfl, h1, h2⟩⟩⟩
  · cases h
def listG : List D → Res EV
  | [.list ds] => .ok (.own ds)
  | [.tuple ds] => .ok (.own ds)
  | [.str x] => if x.cps.size ≤ 1000000 then .ok (.own (x.cps.toList.map fun c => .str ⟨#[c]⟩)) else .bad
  | _ => .bad
theorem call_list_txt (hc : X.calm = true) : CallR X (.type "list") (fun xs H Q => ∃ z : Str, xs = [.str z] ∧ z.cps.size ≤ sizeLine ∧ ∀ l, H l = none → Q (.ref l) (upd H l (.lst (z.cps.toList.map fun c => V.str ⟨#[c]⟩)))) := by
  intro pins s σ H xs us Q I r h
  obtain ⟨z, rfl, hz, q⟩ := h
  obtain ⟨u, rfl, rx⟩ := vals1 r
  obtain ⟨t, rfl⟩ := rx
  refine PySem.call_list_str (I.ok.hd hc) z t (fun h' tk acc c' hk e hi => ?_) hz
  refine ⟨.ref s.heap.objs.size, upd H s.heap.objs.size (.lst (z.cps.toList.map fun c => V.str ⟨#[c]⟩)), I.laid hk (Nat.le_refl _) ⟨by rw [List.length_map, Array.length_toList]; exact hz, acc.toList, c', ?_, by rw [Array.toArray_toList]; exact e⟩, rfl, q _ (I.hok.fresh (Nat.le_refl _))⟩
  refine vals_of_idx _ _ (by rw [List.length_map, Array.length_toList, Array.length_toList]; exact hi.1) fun j u hj => ?_
  obtain ⟨c, t', hc, rfl⟩ := hi.2 j u (by rw [← Array.getElem?_toList]; exact hj)
  exact ⟨V.str ⟨#[c]⟩, by simp [hc], ⟨_, rfl⟩⟩
theorem cg_list (hc : X.calm = true) : CallG X q (.type "list") listG := by
  refine ⟨_, call_list_of.or (call_list_txt hc), ?_⟩
  intro P H xs ds e Q l r h k
  unfold listG at h
  split at h
  · cases h
    obtain ⟨v, r', rfl, ⟨a, ys, rfl, h1, h2⟩, rfl⟩ := r
    exact .inl ⟨a, ys, rfl, .inl (SqL.of (hide_of h1).2), fun n nn => k _ _ (Ext.new nn) (rep_newL h2 (Up.refl H) nn)⟩
  · cases h
    obtain ⟨v, r', rfl, ⟨a, ys, rfl, h1, h2⟩, rfl⟩ := r
    exact .inl ⟨a, ys, rfl, .inr (TupN.at h1 fun c o _ z => (hide_of z).2).sq, fun n nn => k _ _ (Ext.new nn) (rep_newL h2 (Up.refl H) nn)⟩
  · split at h
    · rename_i x hz
      cases h
      obtain ⟨v, r', rfl, rx, rfl⟩ := r
      cases rx
      refine .inr ⟨x, rfl, small6 hz, fun n nn => k _ _ (Ext.new nn) (rep_newL ?_ (Up.refl H) nn)⟩
      have go : ∀ cs : List Nat, RepAll (q.at X.K) (hide P H) (cs.map fun c => PyData.str ⟨#[c]⟩) (cs.map fun c => V.str ⟨#[c]⟩) := fun cs => by
        induction cs with
        | nil => rfl
        | cons c cs ih => exact ⟨_, _, rfl, rfl, ih⟩
      exact go _
    · cases h
  · cases h
def min2G : List D → Res EV
  | [.int i, .int j] => .ok (.dat (.int (if j < i then j else i)))
  | _ => .bad
theorem cg_min2 (hc : X.calm = true) : CallG X q (.builtin "min") min2G := by
  refine ⟨_, call_min2 hc, ?_⟩
  intro P H xs ds e Q l r h k
  unfold min2G at h
  split at h
  · cases h
    obtain ⟨v, r', rfl, h1, v2, r2, rfl, h2, rfl⟩ := r
    cases h1; cases h2
    exact ⟨_, _, rfl, k _ H (Ext.refl H) rfl⟩
  · cases h
def intG : List D → Res EV
  | [.int i] => .ok (.dat (.int i))
  | _ => .bad
theorem cg_int : CallG X q (.type "int") intG := by
  refine ⟨_, call_int1, ?_⟩
  intro P H xs ds e Q l r h k
  unfold intG at h
  split at h
  · cases h
    obtain ⟨v, r', rfl, h1, rfl⟩ := r
    cases h1
    exact .inl ⟨_, rfl, k _ H (Ext.refl H) rfl⟩
  · cases h
def intsOf : List D → Option (List Int)
  | [] => some []
  | .int b :: r => (intsOf r).map (b :: ·)
  | _ :: _ => none
theorem intsOf_eq : ∀ {ds : List D} {bs : List Int}, intsOf ds = some bs → ds = bs.map .int
  | [], bs, h => by cases h; rfl
  | .int b :: r, bs, h => by
    unfold intsOf at h
    cases e : intsOf r with
    | none => rw [e] at h; cases h
    | some cs => rw [e] at h; cases h; rw [intsOf_eq e]; rfl
  | .none :: _, _, h => by cases h
  | .bool _ :: _, _, h => by cases h
  | .str _ :: _, _, h => by cases h
  | .list _ :: _, _, h => by cases h
  | .tuple _ :: _, _, h => by cases h
  | .dict _ :: _, _, h => by cases h
def sumG : List D → Res EV
  | [.list ds] => match intsOf ds with
    | some bs => .ok (.dat (.int bs.sum))
    | none => .bad
  | _ => .bad
theorem cg_sum (hc : X.calm = true) : CallG X q (.builtin "sum") sumG := by
  refine ⟨_, cr_sum hc, ?_⟩
  intro P H xs ds e Q l r h k
  unfold sumG at h
  split at h
  · split at h
    · rename_i hb
      cases h
      obtain ⟨v, r', rfl, ⟨a, ys, rfl, h1, h2⟩, rfl⟩ := r
      rw [intsOf_eq hb] at h2
      rw [RepAll.ints h2] at h1
      exact ⟨a, _, rfl, SqL.of (hide_of h1).2, k _ H (Ext.refl H) rfl⟩
    · cases h
  · cases h
/-- repr, where none is under way -/
def reprG : List D → Res EV
  | [d] => if SeqAt.shaped d = true ∧ d.showable = true ∧ d.shown.length ≤ sizeLine then .ok (.dat (.str d.shown)) else .bad
  | _ => .bad
theorem call_repr_D (hG : X.A.guards = some []) (hu : X.A.units + 66 < cLine) : CallR X (.builtin "repr") (fun xs H Q => ∃ x d, xs = [x] ∧ Dp X.K H x d ∧ SeqAt.shaped d = true ∧ d.showable = true ∧ d.shown.length ≤ sizeLine ∧ Q (.str d.shown) H) := by
  rintro pins s σ H xs us Q I r ⟨x, d, rfl, hd, hs, hsh, hz, q⟩
  obtain ⟨u, rfl, rx⟩ := vals1 r
  obtain ⟨as, rd⟩ := Dp.reads I d x u hd rx
  have hdep := SeqAt.depth_of_shaped hs
  have hno := PyData.hasDict_of_canLay d (SeqAt.canLay_of_shaped hs)
  cases hd with
  | non => cases rx; exact PySem.P.repr_of_none ⟨.str PyData.none.shown, H, I.tok _, ⟨_, rfl⟩, q⟩
  | bl b => cases rx; exact PySem.P.repr_of_bool ⟨.str (PyData.bool b).shown, H, I.tok _, ⟨_, rfl⟩, q⟩
  | int i => obtain ⟨t, rfl⟩ := rx; exact PySem.P.repr_of_int (of_decide_eq_true hsh) ⟨.str (PyData.int i).shown, H, I.tok _, ⟨_, rfl⟩, q⟩
  | str y => obtain ⟨t, rfl⟩ := rx; exact PySem.P.repr_of_str ⟨.str (PyData.str y).shown, H, I.tok _, ⟨_, rfl⟩, q⟩ hz
  | lst h1 h2 => cases rx; exact repr_of_reads' rd hsh (PyData.noDict_hsm hno) hG (by omega) (fun _ _ e => e) (fun h' u tk hk => ⟨.str (PyData.shown _), H, I.kept (t' := tk) hk, ⟨_, rfl⟩, q⟩) hz
  | tup h1 h2 => cases rx; exact repr_of_reads' rd hsh (PyData.noDict_hsm hno) hG (by omega) (fun _ _ e => e) (fun h' u tk hk => ⟨.str (PyData.shown _), H, I.kept (t' := tk) hk, ⟨_, rfl⟩, q⟩) hz
theorem cg_repr (hG : X.A.guards = some []) (hu : X.A.units + 66 < cLine) : CallG X q (.builtin "repr") reprG := by
  refine ⟨_, call_repr_D hG hu, ?_⟩
  intro P H xs ds e Q l r h k
  unfold reprG at h
  split at h
  · split at h
    · rename_i hz
      cases h
      obtain ⟨v, r', rfl, h1, rfl⟩ := r
      exact ⟨v, _, rfl, dp_of _ v (SeqAt.canLay_of_shaped hz.1) (fun a o z => (hide_of z).2) h1, hz.1, hz.2.1, hz.2.2, k _ H (Ext.refl H) rfl⟩
    · cases h
  · cases h
def tyN : D → String
  | .none => "NoneType"
  | .bool _ => "bool"
  | .int _ => "int"
  | .str _ => "str"
  | .list _ => "list"
  | .tuple _ => "tuple"
  | .dict _ => "dict"
def isiN (T t : String) : Bool := t == T || (T == "int" && t == "bool")
def isiB (T : String) (d : D) : Bool := isiN T (tyN d)
/-- no error that is held -/
def plnB : D → Bool
  | .dict (_ :: _) => false
  | _ => true
def isiD (T : String) (d : D) (φ : FS) : Res (EV × FS) := if plnB d = true then .ok (.dat (.bool (isiB T d)), φ) else .bad
def isiM (T : String) (m : ME) : ME := fun ρ φ => (m ρ φ).bind fun r => isiD T r.1.toD r.2
def tyOk (T : String) : Prop := T = "int" ∨ T = "bool" ∨ T = "str" ∨ T = "tuple" ∨ T = "list"
theorem tyN_cases (d : D) : tyN d = "NoneType" ∨ tyN d = "bool" ∨ tyN d = "int" ∨ tyN d = "str" ∨ tyN d = "list" ∨ tyN d = "tuple" ∨ tyN d = "dict" := by
  cases d <;> simp [tyN]
theorem kit_data {K : PySem.W.Frag} {T : String} (h : tyOk T) (d : D) : PySem.W.kitOne K (.type (tyN d)) (.type T) = some (isiB T d) := by
  unfold isiB
  rcases h with rfl | rfl | rfl | rfl | rfl <;> rcases tyN_cases d with e | e | e | e | e | e | e <;> rw [e] <;> exact kit_ty (by decide +kernel)
theorem ty_data {p : Pr} {P : Addr → Prop} {H : Hp} {f : FS} (fo : FO p f (hide P H)) : ∀ {d : D} {v : V}, plnB d = true → Rep p (hide P H) d v → TyX p.K H v (.type (tyN d))
  | .none, _, _, h => by cases h; exact .base .non
  | .bool _, _, _, h => by cases h; exact .base (.bl _)
  | .int _, _, _, h => by cases h; exact .base (.int _)
  | .str _, _, _, h => by cases h; exact .base (.str _)
  | .list _, _, _, h => by obtain ⟨a, xs, rfl, h1, _⟩ := h; exact .base (.lst (hide_of h1).2)
  | .tuple _, _, _, h => by
    obtain ⟨a, xs, rfl, h1, _⟩ := h
    rcases h1 with ⟨o, _, e⟩ | ⟨o, its, n, e, _, e2, _⟩
    · exact .fTuple (hide_of e).2
    · exact .kTuple e e2
  | .dict [], _, _, h => by cases h; exact .base (.dK (hide_of fo.d).2)
  | .dict (_ :: _), _, n, _ => by cases n
theorem de_isi {k : Expr} (hT : tyOk T) (he : DE X q e ma) (hk : PE X k (tC (.ty T))) (hg : Gl X "isinstance") (hm : X.mg "isinstance" = none)
    (h0 : starEach [e, k] X.env = (false, eval e X.env) :: starEach [k] X.env := by rfl) (h1 : starEach [k] X.env = (false, eval k X.env) :: starEach [] X.env := by rfl) (hpl : (backTo pos (starEach [k] X.env)).any (·.1) = false := by rfl) :
    DE X q (.Call (.Name "isinstance" p) [e, k] [] pos) (isiM T ma) :=
  (pe_callB call_isi hg hm (by decide +kernel) (pa_cons he (pa_cons hk pa_nil h1) h0) (by decide) (by decide) h0 hpl).imp fun σ H Q w => by
    obtain ⟨P, ρ, φ, e, φ', a, h, kk⟩ := w
    obtain ⟨⟨e1, φ1⟩, h1, h⟩ := Res.bind_ok h
    unfold isiD at h
    dsimp only at h
    split at h
    · rename_i hp
      cases h
      refine part a h1 fun v H1 a1 u1 r1 => ?_
      have r2 := r1.rep a.live
      exact ⟨v, .ty T, .type (tyN e1.toD), .type T, isiB T e1.toD, rfl, .ty T, ty_data a1.fo hp r2, kit_data hT _, kk _ H1 u1 a1.fo rfl⟩
    · cases h
def atD (ds : List D) (i : Int) : Res EV := match atI ds i with
  | some d => .ok (.dat d)
  | none => .bad
def ixG : D → D → Res EV
  | .list ds, .int i => atD ds i
  | .tuple ds, .int i => atD ds i
  | .str x, .int i => if x.length ≤ 1000000 then (match atI x.cps.toList i with
    | some c => .ok (.dat (.str ⟨#[c]⟩))
    | none => .bad) else .bad
  | _, _ => .bad
theorem atI_rep {p : Pr} {G : Hp} {ds : List D} {vs : List V} {i : Int} {d : D} (r : RepAll p G ds vs) (h : atI ds i = some d) : ∃ v, atI vs i = some v ∧ Rep p G d v := by
  unfold atI at h ⊢
  rw [r.len]
  cases e : ixN ds.length i with
  | none => rw [e] at h; cases h
  | some j =>
    rw [e] at h
    exact RepAll.get r h
theorem atD_ok {ds : List D} {i : Int} {e : EV} (h : atD ds i = .ok e) : ∃ d, e = .dat d ∧ atI ds i = some d := by
  unfold atD at h
  split at h
  · cases h
    exact ⟨_, rfl, by assumption⟩
  · cases h
theorem de_ix (ha : DE X q a ma) (hb : DE X q b mb) (hs : PlainIx b) : DE X q (.Subscript a b pos) (op2 ixG ma mb) := (pe_ix ix_seq ha hb hs).imp (tOp_D fun P H x y d1 d2 e Q l r1 r2 h k => by
  unfold ixG at h
  split at h
  · obtain ⟨d, rfl, hd⟩ := atD_ok h
    obtain ⟨c, xs, rfl, h1, h2⟩ := r1
    cases r2
    obtain ⟨v, e1, e2⟩ := atI_rep h2 hd
    exact .inl ⟨c, xs, _, v, rfl, rfl, SqL.of (hide_of h1).2, e1, k v H (Ext.refl H) e2⟩
  · obtain ⟨d, rfl, hd⟩ := atD_ok h
    obtain ⟨c, xs, rfl, h1, h2⟩ := r1
    cases r2
    obtain ⟨v, e1, e2⟩ := atI_rep h2 hd
    exact .inr (.inl ⟨c, xs, _, v, rfl, rfl, (TupN.at h1 fun c o _ z => (hide_of z).2).sq, e1, k v H (Ext.refl H) e2⟩)
  · split at h
    · split at h
      · cases h
        cases r1
        cases r2
        exact .inr (.inr ⟨_, _, _, rfl, rfl, small6 (by assumption), by assumption, k _ H (Ext.refl H) rfl⟩)
      · cases h
    · cases h
  · cases h)
def cutD {α : Type} (xs : List α) (lo hi : Option Int) : List α := (xs.drop (HT.sIx xs.length 0 lo)).take (HT.sIx xs.length xs.length hi - HT.sIx xs.length 0 lo)
def slG : D → Option Int → Option Int → Res EV
  | .list ds, lo, hi => .ok (.own (cutD ds lo hi))
  | .tuple ds, lo, hi => .ok (.dat (.tuple (cutD ds lo hi)))
  | _, _, _ => .bad
abbrev MO := Env' → FS → Res (Option Int × FS)
def noM : MO := fun _ φ => .ok (none, φ)
def soM (m : ME) : MO := fun ρ φ => (m ρ φ).bind fun r => match r.1 with
  | .dat (.int i) => .ok (some i, r.2)
  | _ => .bad
def tDO (p : Pr) (m : MO) : TO := fun σ H Q => ∃ P ρ φ o φ', At p P H ρ φ σ ∧ m ρ φ = .ok (o, φ') ∧ ∀ H', Up p.T H H' → FO p φ' (hide P H') → Q o H'
def DO (X : Cx) (q : Pk) (e : Option Expr) (m : MO) : Prop := PO X e (tDO (q.at X.K) m)
theorem po_imp {e : Option Expr} {t t' : TO} (h : PO X e t) (w : ∀ σ H Q, t' σ H Q → t σ H Q) : PO X e t' := ⟨fun pins s σ H Q I z => h.run pins s σ H Q I (w _ _ _ z)⟩
theorem do_none : DO X q none noM := po_imp po_none fun σ H Q w => by
  obtain ⟨P, ρ, φ, o, φ', a, h, k⟩ := w
  cases h
  exact k H (Up.refl H) a.fo
theorem do_some (h : DE X q e ma) : DO X q (some e) (soM ma) := po_imp (po_some h) fun σ H Q w => by
  obtain ⟨P, ρ, φ, o, φ', a, h, k⟩ := w
  obtain ⟨⟨e1, φ1⟩, h1, h⟩ := Res.bind_ok h
  refine part a h1 fun v H1 a1 u1 r1 => ?_
  dsimp only at h
  split at h
  · cases h
    cases r1
    exact ⟨_, rfl, k H1 u1 a1.fo⟩
  · cases h
def slM (m : ME) (lo hi : MO) : ME := fun ρ φ => (m ρ φ).bind fun r => (lo ρ r.2).bind fun r1 => (hi ρ r1.2).bind fun r2 => (slG r.1.toD r1.1 r2.1).bind fun e => .ok (e, r2.2)
theorem RepAll.cut {p : Pr} {G : Hp} {ds : List D} {vs : List V} (r : RepAll p G ds vs) (lo hi : Option Int) : RepAll p G (cutD ds lo hi) (cutV vs lo hi) := by
  unfold cutD cutV
  rw [r.len]
  exact (r.drop _).take _
theorem cutD_whole {α : Type} {xs : List α} {lo hi : Option Int} (h : HT.sIx xs.length 0 lo = 0 ∧ HT.sIx xs.length xs.length hi = xs.length) : cutD xs lo hi = xs := by
  unfold cutD
  rw [h.1, h.2, List.drop_zero, Nat.sub_zero, List.take_length]
theorem de_sl {lo hi : Option Expr} {ml mh : MO} (ha : DE X q a ma) (hl : DO X q lo ml) (hh : DO X q hi mh) : DE X q (.Subscript a (.Slice lo hi none p2) pos) (slM ma ml mh) := (pe_slice (sl_list.or sl_tupN) ha hl hh).imp fun σ H Q w => by
  obtain ⟨P, ρ, φ, e, φ', a, h, k⟩ := w
  obtain ⟨⟨e1, φ1⟩, h1, h⟩ := Res.bind_ok h
  obtain ⟨⟨e2, φ2⟩, h2, h⟩ := Res.bind_ok h
  obtain ⟨⟨e3, φ3⟩, h3, h⟩ := Res.bind_ok h
  obtain ⟨e4, h4, h⟩ := Res.bind_ok h
  cases h
  refine part a h1 fun v H1 a1 u1 r1 => ⟨P, ρ, φ1, e2, φ2, a1, h2, fun H2 u2 f2 => ?_⟩
  have a2 := a1.next u2 f2
  refine ⟨P, ρ, φ2, e3, φ3, a2, h3, fun H3 u3 f3 => ?_⟩
  have a3 := a2.next u3 f3
  have r3 := Rep.up (hide_up (u2.trans u3)) (r1.rep a.live)
  have uu := (u1.trans u2).trans u3
  dsimp only at h4
  generalize e1.toD = d at r3 h4
  cases d with
  | list ds =>
    cases h4
    obtain ⟨c, xs, rfl, g1, g2⟩ := r3
    exact .inl ⟨c, xs, rfl, SqL.of (hide_of g1).2, fun n nn => k _ _ (uu.trans (Ext.new nn).up) (a3.fo.ext (hide_ext (Ext.new nn))) (rep_newL (g2.cut _ _) uu nn)⟩
  | tuple ds =>
    cases h4
    obtain ⟨c, xs, rfl, g1, g2⟩ := r3
    refine .inr ⟨c, xs, rfl, (TupN.at g1 fun c o _ z => (hide_of z).2).sq, fun hw => ?_, fun _ => newT_of a3.live (g2.cut _ _) fun v' H4 x4 r4 => ?_⟩
    · refine k _ H3 uu a3.fo ?_
      rw [g2.len] at hw
      rw [cutD_whole hw]
      exact ⟨c, xs, rfl, g1, g2⟩
    · exact k _ _ (uu.trans x4.up) (a3.fo.ext (hide_ext x4)) (r4.old uu)
  | none => cases h4
  | bool b => cases h4
  | int i => cases h4
  | str x => cases h4
  | dict kv => cases h4
def revM (m : ME) : ME := fun ρ φ => (m ρ φ).bind fun r => match r.1.toD with
  | .list ds => .ok (.own ds.reverse, r.2)
  | .tuple ds => .ok (.dat (.tuple ds.reverse), r.2)
  | _ => .bad
theorem de_rev {k : Nat} (ha : DE X q a ma) : DE X q (.Subscript a (.Slice none none (some (.UnaryOp .USub (.Constant (.int 1) k p) p2)) p3) pos) (revM ma) := (pe_orE (pe_revL ha) (pe_revT ha)).imp fun σ H Q w => by
  obtain ⟨P, ρ, φ, e, φ', a, h, kk⟩ := w
  obtain ⟨⟨e1, φ1⟩, h1, h⟩ := Res.bind_ok h
  dsimp only at h
  cases hd : e1.toD with
  | list ds =>
    rw [hd] at h
    cases h
    refine .inl (part a h1 fun v H1 a1 u1 r1 => ?_)
    have r2 := r1.rep a.live
    rw [hd] at r2
    obtain ⟨c, xs, rfl, g1, g2⟩ := r2
    exact ⟨c, xs, rfl, SqL.of (hide_of g1).2, fun n nn => kk _ _ (u1.trans (Ext.new nn).up) (a1.fo.ext (hide_ext (Ext.new nn))) (rep_newL g2.rev u1 nn)⟩
  | tuple ds =>
    rw [hd] at h
    cases h
    refine .inr (part a h1 fun v H1 a1 u1 r1 => ?_)
    have r2 := r1.rep a.live
    rw [hd] at r2
    obtain ⟨c, xs, rfl, g1, g2⟩ := r2
    refine ⟨c, xs, rfl, (TupN.at g1 fun b o _ z => (hide_of z).2).sq, newT_of a1.live g2.rev fun v H2 x r => ?_⟩
    exact kk _ _ (u1.trans x.up) (a1.fo.ext (hide_ext x)) (r.old u1)
  | none => rw [hd] at h; cases h
  | bool b => rw [hd] at h; cases h
  | int i => rw [hd] at h; cases h
  | str x => rw [hd] at h; cases h
  | dict kv => rw [hd] at h; cases h
end
end VI
namespace VI
open PySem PySem.Spec PyProof.Rows L2
abbrev MF := List D → FS → Res (EV × FS)
/-- a def's promise over data -/
def spF (K : PySem.W.Frag) (k2 k3 k4 : Str) (T : List (Addr × Str)) (n : Nat) (m : MF) : Sp := fun vs H Q _ => ∃ (fa ca : Addr) (ex : Option Ex) (P : Addr → Prop) (φ : FS) (ds : List D) (e : EV) (φ' : FS), LamX.Tabs T H ∧ ds.length = n ∧ Live P H ∧ FO ⟨K, fa, ca, k2, k3, k4, T, ex⟩ φ (hide P H) ∧
  RepAll ⟨K, fa, ca, k2, k3, k4, T, ex⟩ (hide P H) ds vs ∧ m ds φ = .ok (e, φ') ∧ ∀ v H', Up T H H' → FO ⟨K, fa, ca, k2, k3, k4, T, ex⟩ φ' (hide P H') → RepE ⟨K, fa, ca, k2, k3, k4, T, ex⟩ P H H' e v → Q v H'
theorem spF_len {K : PySem.W.Frag} {k2 k3 k4 : Str} {T : List (Addr × Str)} {n : Nat} {m : MF} : ∀ vs H Q E, spF K k2 k3 k4 T n m vs H Q E → vs.length = n := fun vs H Q E h => by
  obtain ⟨fa, ca, ex, P, φ, ds, e, φ', _, h1, _, _, h2, _⟩ := h
  exact h2.len.trans h1
def appM (n : Nat) (m : MF) (ms : MA) : ME := fun ρ φ => (ms ρ φ).bind fun r => if r.1.length = n then m r.1 r.2 else .bad
def appN (is : List Nat) (n : Nat) (m : MF) (ms : MA) : ME := fun ρ φ => (ms ρ φ).bind fun r => if (pick is r.1).length = n then m (pick is r.1) r.2 else .bad
theorem RepAll.pick {p : Pr} {G : Hp} : ∀ {is : List Nat} {ds : List D} {vs : List V}, RepAll p G ds vs → RepAll p G (VI.pick is ds) (VI.pick is vs)
  | [], _, _, _ => rfl
  | i :: is, ds, vs, r => by
    unfold VI.pick
    rw [List.filterMap_cons, List.filterMap_cons]
    cases e : ds[i]? with
    | none =>
      have e2 : vs[i]? = none := by
        have := r.len
        rw [List.getElem?_eq_none_iff] at e ⊢
        omega
      rw [e2]
      exact RepAll.pick r
    | some d =>
      obtain ⟨v, e2, r2⟩ := r.get e
      rw [e2]
      exact ⟨v, _, rfl, r2, RepAll.pick r⟩
section
variable {X : Cx} {q : Pk} {k n : Nat} {f : Addr} {fd : FuncData} {ps ks : List Str} {E : XK} {x : Str} {p pos : Pos} {a b e : Expr} {es : List Expr} {kws : List Keyword} {ms : MA} {m : MF} {ma mb : ME}
theorem de_call (F : FnG X.prog X.w X.K X.mg X.base CX0 k f fd ps (spF X.K q.k2 q.k3 q.k4 q.T n m)) (hG : X.A.guards = some []) (hr : Room k X.A) (hg : Gl X x) (hm : X.mg x = some (.ref f)) (hk : PySem.W.keepIn X.K (.ref f) = true) (hb : Binds X.K fd ps [])
    (ha : DA X q (e :: es) ms) (hdb : (x == ("__debug__" : Str)) = false := by decide) (he : starEach (e :: es) X.env = (false, eval e X.env) :: starEach es X.env := by rfl) (hpl : (backTo pos (starEach es X.env)).any (·.1) = false := by rfl) :
    DE X q (.Call (.Name x p) (e :: es) [] pos) (appM n m ms) := (pe_callG F hG hr hg hm hk hb pass0 ha hdb he hpl).imp fun σ H Q w => by
  obtain ⟨P, ρ, φ, e, φ', a, h, kk⟩ := w
  obtain ⟨⟨ds, φ1⟩, h1, h⟩ := Res.bind_ok h
  dsimp only at h
  split at h
  · refine partA a h1 fun vs H1 a1 u1 r1 => ⟨q.fa, q.ca, q.ex, P, φ1, ds, e, φ', a1.tb, by assumption, a1.live, a1.fo, r1, h, fun v H2 u2 f2 r2 => ?_⟩
    exact kk v H2 (u1.trans u2) f2 (r2.old u1)
  · cases h
theorem de_call0 (F : FnG X.prog X.w X.K X.mg X.base CX0 k f fd [] (spF X.K q.k2 q.k3 q.k4 q.T 0 m)) (hG : X.A.guards = some []) (hr : Room k X.A) (hg : Gl X x) (hm : X.mg x = some (.ref f)) (hk : PySem.W.keepIn X.K (.ref f) = true) (hb : Binds X.K fd [] [])
    (hdb : (x == ("__debug__" : Str)) = false := by decide) : DE X q (.Call (.Name x p) [] [] pos) (appM 0 m nilA) := (pe_callG0 F hG hr hg hm hk hb pass0 hdb).imp fun σ H Q w => by
  obtain ⟨P, ρ, φ, e, φ', a, h, kk⟩ := w
  exact ⟨q.fa, q.ca, q.ex, P, φ, [], e, φ', a.tb, rfl, a.live, a.fo, rfl, h, kk⟩
def DK (X : Cx) (q : Pk) (kws : List Keyword) (m : MA) : Prop := PK X kws (tDA (q.at X.K) m)
theorem pk_imp {kws : List Keyword} {t t' : TA} (h : PK X kws t) (w : ∀ σ H Q, t' σ H Q → t σ H Q) : PK X kws t' := ⟨fun pos pins s σ H Q I z => h.run pos pins s σ H Q I (w _ _ _ z)⟩
theorem dk_nil : DK X q [] nilA := pk_imp pk_nil fun σ H Q w => by
  obtain ⟨P, ρ, φ, e, φ', a, h, k⟩ := w
  cases h
  exact k [] H (Up.refl H) a.fo rfl
theorem dk_cons {nm : Option Str} {kpos : Pos} (ha : DE X q a ma) (hs : DK X q kws ms) : DK X q (⟨nm, a, kpos⟩ :: kws) (consA ma ms) := pk_imp (pk_cons ha hs) fun σ H Q w => by
  obtain ⟨P, ρ, φ, e, φ', a, h, k⟩ := w
  obtain ⟨⟨e1, φ1⟩, h1, h⟩ := Res.bind_ok h
  obtain ⟨⟨e2, φ2⟩, h2, h⟩ := Res.bind_ok h
  cases h
  refine part a h1 fun v H1 a1 u1 r1 => partA a1 h2 fun vs H2 a2 u2 r2 => ?_
  exact k (v :: vs) H2 (u1.trans u2) a2.fo ⟨v, vs, rfl, Rep.up (hide_up u2) (r1.rep a.live), r2⟩
theorem de_callN {is : List Nat} (F : FnG X.prog X.w X.K X.mg X.base CX0 k f fd ps (spF X.K q.k2 q.k3 q.k4 q.T n m)) (hG : X.A.guards = some []) (hr : Room k X.A) (hg : Gl X x) (hm : X.mg x = some (.ref f)) (hk : PySem.W.keepIn X.K (.ref f) = true) (hb : NBinds fd ps ks is)
    (hkw : DK X q kws ms) (hln : ks.length = kws.length) (hms : ∀ ρ φ ds φ', ms ρ φ = .ok (ds, φ') → ds.length = ks.length) (hall : (backToKw pos (keywordEach kws X.env)).all (·.1.isSome) = true := by rfl) (hks : (backToKw pos (keywordEach kws X.env)).filterMap (·.1) = ks := by rfl)
    (hdb : (x == ("__debug__" : Str)) = false := by decide) (hpl : ((backTo pos (starEach [] X.env)).any (·.1) || (backToKw pos (keywordEach kws X.env)).any (·.1.isNone)) = false := by rfl) :
    DE X q (.Call (.Name x p) [] kws pos) (appN is n m ms) := (pe_callGN F hG hr hg hm hk hb pass0 hkw hln hall hks hdb hpl).imp fun σ H Q w => by
  obtain ⟨P, ρ, φ, e, φ', a, h, kk⟩ := w
  obtain ⟨⟨ds, φ1⟩, h1, h⟩ := Res.bind_ok h
  dsimp only at h
  split at h
  · refine partA a h1 fun vs H1 a1 u1 r1 => ⟨r1.len.trans (hms _ _ _ _ h1), q.fa, q.ca, q.ex, P, φ1, _, e, φ', a1.tb, by assumption, a1.live, a1.fo, r1.pick, h, fun v H2 u2 f2 r2 => ?_⟩
    exact kk v H2 (u1.trans u2) f2 (r2.old u1)
  · cases h
def strsOf : List D → Option (List Str)
  | [] => some []
  | .str b :: r => (strsOf r).map (b :: ·)
  | _ :: _ => none
theorem strsOf_eq : ∀ {ds : List D} {bs : List Str}, strsOf ds = some bs → ds = bs.map .str
  | [], bs, h => by cases h; rfl
  | .str b :: r, bs, h => by
    unfold strsOf at h
    cases e : strsOf r with
    | none => rw [e] at h; cases h
    | some cs => rw [e] at h; cases h; rw [strsOf_eq e]; rfl
  | .none :: _, _, h => by cases h
  | .bool _ :: _, _, h => by cases h
  | .int _ :: _, _, h => by cases h
  | .list _ :: _, _, h => by cases h
  | .tuple _ :: _, _, h => by cases h
  | .dict _ :: _, _, h => by cases h
theorem strsOf_map : ∀ bs : List Str, strsOf (bs.map .str) = some bs
  | [] => rfl
  | b :: r => by
    show (strsOf (r.map .str)).map (b :: ·) = _
    rw [strsOf_map r]
    rfl
def idxG : D → D → Res EV
  | .tuple ds, .str z => match strsOf ds with
    | some ys => (match ys.findIdx? (· == z) with
      | some j => .ok (.dat (.int j))
      | none => .bad)
    | none => .bad
  | .list ds, d => if SeqAt.shaped (.list ds) = true ∧ SeqAt.shaped d = true then (match ds.findIdx? (fun z => PyData.eqv z d) with
      | some j => .ok (.dat (.int j))
      | none => .bad) else .bad
  | _, _ => .bad
theorem de_tupIndex {apos : Pos} (hu : X.A.units + 65 < cLine) (ha : DE X q a ma) (hb : DE X q b mb) (hbase : attributeBase a "index" X.env (eval a X.env) = eval a X.env := by rfl)
    (hfew : ((backTo pos (starEach [b] X.env)).all (fun x => !x.1) && (backToKw pos (keywordEach [] X.env)).all (fun x => x.1.isSome) && decide ([b].length + ([] : List Keyword).length + (if ([] : List Keyword).isEmpty then 0 else 1) < 30)) = true := by rfl)
    (hline : (apos.endLine == pos.line) = true := by rfl) (hs : starEach [b] X.env = (false, eval b X.env) :: starEach [] X.env := by rfl) : DE X q (.Call (.Attribute a "index" apos) [b] [] pos) (op2 idxG ma mb) :=
  (pe_orE (pe_tupM PySem.F.slot_tuple_index PySem.F.type_tuple_index mt_tup_index ha (pa_cons hb pa_nil hs) hbase hfew hline hs)
    (pe_bm PySem.F.plainAttrs_list PySem.F.slot_list_index PySem.F.type_list_index (mt_indexD hu) ha (pa_cons hb pa_nil hs) hbase hfew hline hs)).imp fun σ H Q w => by
    obtain ⟨P, ρ, φ, e, φ', a, h, k⟩ := w
    obtain ⟨e1, φ1, e2, h1, h2, h3⟩ := op2_ok h
    unfold idxG at h3
    split at h3
    · rename_i ds z he1 he2
      split at h3
      · rename_i ys hys
        split at h3
        · rename_i j hj
          cases h3
          refine .inl (part a h1 fun v1 H1 a1 u1 r1 => ?_)
          have r1 := r1.rep a.live
          rw [he1] at r1
          obtain ⟨c, xs, rfl, g1, g2⟩ := r1
          refine ⟨⟨c, xs, rfl, TupN.at g1 fun c o _ z => (hide_of z).2⟩, ?_⟩
          refine part a1 h2 fun v2 H2 a2 u2 r2 => ?_
          have r2 := r2.rep a1.live
          rw [he2] at r2
          cases r2
          rw [strsOf_eq hys] at g2
          rw [RepAll.strs g2] at g1
          obtain ⟨h5, h6, h7⟩ := List.findIdx?_eq_some_iff_getElem.mp hj
          refine ⟨c, ys, z, j, rfl, rfl, (TupN.at g1 fun b o s w => u2.sq b o s (hide_of w).2).sq, ?_, fun i hi e => ?_, k _ H2 (u1.trans u2) a2.fo rfl⟩
          · rw [List.getElem?_eq_getElem h5]
            exact congrArg some (by simpa using h6)
          · have hi2 : i < ys.length := Nat.lt_trans hi h5
            rw [List.getElem?_eq_getElem hi2] at e
            have := h7 i hi
            simp at this
            exact this (Option.some.inj e)
        · cases h3
      · cases h3
    · rename_i ds he1
      split at h3
      · rename_i hsh
        split at h3
        · rename_i j hj
          cases h3
          refine .inr (part a h1 fun v1 H1 a1 u1 r1 => ?_)
          have r1 := r1.rep a.live
          rw [he1] at r1
          obtain ⟨c, xs, rfl, g1, g2⟩ := r1
          refine ⟨.inl ⟨rfl, xs, SqL.of (hide_of g1).2⟩, ?_⟩
          refine part a1 h2 fun v2 H2 a2 u2 r2 => ?_
          have r2 := r2.rep a1.live
          obtain ⟨h5, h6, h7⟩ := List.findIdx?_eq_some_iff_getElem.mp hj
          have rl : Rep (q.at X.K) (hide P H2) (.list ds) (.ref c) := Rep.up (hide_up u2) ⟨c, xs, rfl, g1, g2⟩
          refine ⟨c, v2, e2.toD, ds, j, ds[j], rfl, rfl, dp_of _ _ (SeqAt.canLay_of_shaped hsh.1) (fun a o z => (hide_of z).2) rl, dp_of _ _ (SeqAt.canLay_of_shaped hsh.2) (fun a o z => (hide_of z).2) r2, hsh.1, hsh.2, List.getElem?_eq_getElem h5, h6, fun m z' hm e => ?_, k _ H2 (u1.trans u2) a2.fo rfl⟩
          have hm2 : m < ds.length := Nat.lt_trans hm h5
          rw [List.getElem?_eq_getElem hm2] at e
          have := h7 m hm
          rw [← Option.some.inj e]
          simpa using this
        · cases h3
      · cases h3
    · cases h3
end
end VI
namespace VI
open PySem PySem.Spec PyProof.Rows L2
/-- what was seen ahead of some new objects is seen with them out of sight -/
theorem later {Tb : List (Addr × Str)} {P P' : Addr → Prop} {H H' : Hp} (u : Up Tb H H') (n : ∀ a, P' a → P a ∨ H a = none) : ∀ a o, Sq o → hide P H a = some o → hide P' H' a = some o := fun a o s h => by
  obtain ⟨h1, h2⟩ := hide_of h
  rw [hide_eq fun z => ?_]
  · exact u.sq a o s h2
  · rcases n a z with z | z
    · exact h1 z
    · rw [z] at h2; cases h2
/-- the slots at vs alone may differ -/
def Chg (vs : List Nat) (σ σ' : L2.St) : Prop := σ'.length = σ.length ∧ ∀ i, i ∉ vs → σ'[i]? = σ[i]?
theorem wipe_get {σ : L2.St} : ∀ {vs : List Nat} {i : Nat}, i ∈ vs → i < σ.length → (wipe σ vs)[i]? = some none
  | v :: vs, i, h, hl => by
    unfold wipe
    by_cases e : v = i
    · subst e
      rw [List.getElem?_set_self (by rw [wipe_length]; exact hl)]
    · rw [List.getElem?_set_ne e]
      rcases List.mem_cons.mp h with z | z
      · exact absurd z.symm e
      · exact wipe_get z hl
theorem Chg.wipe {vs own : List Nat} {σ σ' : L2.St} (h : Chg vs σ σ') (s : ∀ i ∈ vs, i ∈ own) : wipe σ' own = wipe σ own := by
  apply List.ext_getElem?
  intro i
  by_cases hi : i ∈ own
  · by_cases hl : i < σ.length
    · rw [wipe_get hi hl, wipe_get hi (by rw [h.1]; exact hl)]
    · rw [List.getElem?_eq_none (by rw [wipe_length, h.1]; omega), List.getElem?_eq_none (by rw [wipe_length]; omega)]
  · rw [wipe_out hi, wipe_out hi]
    exact h.2 i fun z => hi (s i z)
def wipeD (ρ : Env') : List Nat → Env'
  | [] => ρ
  | v :: vs => (wipeD ρ vs).set v none
theorem EnvR.wipe {p : Pr} {G : Hp} {ρ : Env'} {σ : L2.St} (h : EnvR p G ρ σ) : ∀ vs : List Nat, EnvR p G (wipeD ρ vs) (L2.wipe σ vs)
  | [] => h
  | v :: vs => by
    have ih := EnvR.wipe h vs
    refine ⟨by unfold wipeD L2.wipe; rw [List.length_set, List.length_set, ih.len], fun i d e => ?_⟩
    unfold wipeD at e
    unfold L2.wipe
    by_cases hi : v = i
    · subst hi
      by_cases hl : v < (wipeD ρ vs).length
      · rw [List.getElem?_set_self hl] at e; cases e
      · rw [List.getElem?_eq_none (by simpa using hl)] at e; cases e
    · rw [List.getElem?_set_ne hi] at e
      rw [List.getElem?_set_ne hi]
      exact ih.has i d e
theorem EnvR.set {p : Pr} {G : Hp} {ρ : Env'} {σ : L2.St} {i : Nat} {d : D} {v : V} (h : EnvR p G ρ σ) (r : Rep p G d v) : EnvR p G (ρ.set i (some d)) (σ.set i (some v)) := by
  refine ⟨by rw [List.length_set, List.length_set, h.len], fun j e1 he => ?_⟩
  by_cases hj : i = j
  · subst hj
    by_cases hl : i < ρ.length
    · rw [List.getElem?_set_self hl] at he
      cases he
      rw [List.getElem?_set_self (by rw [← h.len]; exact hl)]
      exact ⟨v, rfl, r⟩
    · rw [List.getElem?_eq_none (by rw [List.length_set]; omega)] at he; cases he
  · rw [List.getElem?_set_ne hj] at he
    rw [List.getElem?_set_ne hj]
    exact h.has j e1 he
theorem Chg.set {σ : L2.St} {i : Nat} {x : Option V} {vs : List Nat} (h : i ∈ vs) : Chg vs σ (σ.set i x) :=
  ⟨List.length_set, fun j hj => List.getElem?_set_ne fun e => hj (by rw [← e]; exact h)⟩
theorem Chg.trans {vs : List Nat} {σ σ1 σ2 : L2.St} (a : Chg vs σ σ1) (b : Chg vs σ1 σ2) : Chg vs σ σ2 := ⟨b.1.trans a.1, fun i h => (b.2 i h).trans (a.2 i h)⟩
abbrev RI (α : Type) := (Addr → Prop) → Hp → α → V → Prop
def R1 (p : Pr) : RI D := fun P H d v => Rep p (hide P H) d v
def R2 (p : Pr) : RI (D × D) := fun P H d v => ∃ T x y, v = .ref T ∧ SqT p.K H T [x, y] ∧ Rep p (hide P H) d.1 x ∧ Rep p (hide P H) d.2 y
/-- a target: what it stores -/
def DG {α : Type} (X : Cx) (p : Pr) (tg : Expr) (R : RI α) (set : α → Env' → Option Env') (vs : List Nat) : Prop :=
  ∃ g, PG X tg g ∧ ∀ (P : Addr → Prop) (H : Hp) (ρ : Env') (σ : L2.St) (a : α) (v : V) (ρ' : Env') (Q : L2.St → Hp → Prop), EnvR p (hide P H) ρ σ → R P H a v → set a ρ = some ρ' →
    (∀ σ', EnvR p (hide P H) ρ' σ' → Chg vs σ σ' → (∀ i, i ∉ vs → ρ'[i]? = ρ[i]?) → Q σ' H) → g v σ H Q
def setN (i : Nat) : D → Env' → Option Env' := fun d ρ => some (ρ.set i (some d))
def setAll : List Nat → List D → Env' → Option Env'
  | [], [], ρ => some ρ
  | i :: is, d :: ds, ρ => setAll is ds (ρ.set i (some d))
  | _, _, _ => none
def setT (is : List Nat) : D → Env' → Option Env'
  | .tuple ds, ρ => setAll is ds ρ
  | _, _ => none
def setP (i j : Nat) : D × D → Env' → Option Env' := fun d ρ => some ((ρ.set i (some d.1)).set j (some d.2))
section
variable {X : Cx} {p : Pr} {tg : Expr} {pos pos2 pos3 : Pos} {x y : Str} {i j k : Nat}
theorem dg_name (h : PG X tg (gName i)) : DG X p tg (R1 p) (setN i) [i] := ⟨_, h, fun P H ρ σ a v ρ' Q e r s k => by
  cases s
  exact k _ (e.set r) (Chg.set (by simp)) fun j hj => List.getElem?_set_ne fun e => hj (by simp [e])⟩
theorem dg_pair {es : List Expr} (h : PG X tg (gTup p.K 2 (gCons (gName i) (gCons (gName j) gNil)))) : DG X p tg (R2 p) (setP i j) [i, j] := ⟨_, h, fun P H ρ σ a v ρ' Q e r s k => by
  cases s
  obtain ⟨T, x, y, rfl, h1, r1, r2⟩ := r
  refine ⟨T, [x, y], rfl, h1, rfl, x, [y], rfl, y, [], rfl, rfl, ?_⟩
  refine k _ ((e.set r1).set r2) ((Chg.set (by simp)).trans (Chg.set (by simp))) fun m hm => ?_
  rw [List.getElem?_set_ne fun e => hm (by simp [e]), List.getElem?_set_ne fun e => hm (by simp [e])]⟩
/-- slots one behind another -/
def gAll : List Nat → TGs
  | [] => gNil
  | i :: is => gCons (gName i) (gAll is)
theorem gAll_ok : ∀ {is : List Nat} {P : Addr → Prop} {H : Hp} {ρ ρ' : Env'} {σ : L2.St} {ds : List D} {vs : List V} {Q : L2.St → Hp → Prop}, EnvR p (hide P H) ρ σ → RepAll p (hide P H) ds vs → setAll is ds ρ = some ρ' →
    (∀ σ', EnvR p (hide P H) ρ' σ' → Chg is σ σ' → (∀ i, i ∉ is → ρ'[i]? = ρ[i]?) → Q σ' H) → gAll is vs σ H Q
  | [], _, _, _, _, _, ds, vs, _, e, r, s, k => by
    cases ds with
    | nil => cases r; cases s; exact ⟨rfl, k _ e ⟨rfl, fun _ _ => rfl⟩ fun _ _ => rfl⟩
    | cons d ds => cases s
  | i :: is, _, _, _, _, _, ds, vs, _, e, r, s, k => by
    cases ds with
    | nil => cases s
    | cons d ds =>
      obtain ⟨v, r', rfl, r1, r2⟩ := r
      refine ⟨v, r', rfl, gAll_ok (is := is) (e.set r1) r2 s fun σ' e' c c2 => k σ' e' ?_ fun m hm => ?_⟩
      · refine Chg.trans (Chg.set List.mem_cons_self) ⟨c.1, fun m hm => c.2 m fun z => hm (List.mem_cons_of_mem _ z)⟩
      · rw [c2 m fun z => hm (List.mem_cons_of_mem _ z), List.getElem?_set_ne fun z => hm (by simp [z])]
theorem dg_tup {is : List Nat} (h : PG X tg (gTup p.K is.length (gAll is))) : DG X p tg (R1 p) (setT is) is := ⟨_, h, fun P H ρ σ a v ρ' Q e r s k => by
  cases a with
  | tuple ds =>
    obtain ⟨c, xs, rfl, h1, h2⟩ := r
    have hl : ∀ {is : List Nat} {ds : List D} {ρ : Env'}, setAll is ds ρ = some ρ' → ds.length = is.length := by
      intro is
      induction is with
      | nil => intro ds ρ s; cases ds with
        | nil => rfl
        | cons d ds => cases s
      | cons i is ih => intro ds ρ s; cases ds with
        | nil => cases s
        | cons d ds => exact congrArg (· + 1) (ih (ds := ds) s)
    exact ⟨c, xs, rfl, (TupN.at h1 fun b o _ z => (hide_of z).2).sq, by rw [h2.len]; exact hl s, gAll_ok e h2 s k⟩
  | none => cases s
  | bool b => cases s
  | int i => cases s
  | str x => cases s
  | list ds => cases s
  | dict kv => cases s⟩
end
theorem sq_lst {xs : List V} : Sq (.lst xs) := trivial
/-- what was seen is seen, and as it was -/
def Seen (P : Addr → Prop) (H : Hp) (P' : Addr → Prop) (H' : Hp) : Prop := ∀ a o, Sq o → hide P H a = some o → hide P' H' a = some o
theorem Seen.trans {P P1 P2 : Addr → Prop} {H H1 H2 : Hp} (a : Seen P H P1 H1) (b : Seen P1 H1 P2 H2) : Seen P H P2 H2 := fun c o s h => b c o s (a c o s h)
def ItD {α : Type} (R : RI α) (P : Addr → Prop) (H : Hp) (as : List α) (J : It) : Prop :=
  ∀ (i : Nat) (H1 : Hp) (P' : Addr → Prop), Seen P H P' H1 →
    (∀ d, as[i]? = some d → J.go i H1 ∧ ∀ x H2, J.yld i H1 x H2 → Ext H1 H2 ∧ R P' H2 d x) ∧ (as.length ≤ i → J.stop i H1)
abbrev MI (α : Type) := Env' → FS → Res (List α × FS)
def DI {α : Type} (X : Cx) (q : Pk) (tg iter : Expr) (R : RI α) (m : MI α) : Prop :=
  ∃ wi, PI X tg iter wi ∧ ∀ (σ : L2.St) (H : Hp) (C : It → Hp → Prop), (∃ P ρ φ as φ', At (q.at X.K) P H ρ φ σ ∧ m ρ φ = .ok (as, φ') ∧
    ∀ J H', Up (q.at X.K).T H H' → FO (q.at X.K) φ' (hide P H') → ItD R P H' as J → C J H') → wi σ H C
def seqI (m : ME) : MI D := fun ρ φ => (m ρ φ).bind fun r => match r.1.toD with
  | .list ds => .ok (ds, r.2)
  | .tuple ds => .ok (ds, r.2)
  | .str x => .ok (x.cps.toList.map fun c => .str ⟨#[c]⟩, r.2)
  | _ => .bad
def rng1I (m : ME) : MI D := fun ρ φ => (m ρ φ).bind fun r => match r.1.toD with
  | .int n => if n < 1000000 ∧ -1000000 < n then .ok ((List.range n.toNat).map fun (i : Nat) => PyData.int (0 + (i : Int)), r.2) else .bad
  | _ => .bad
def rng2I (ma mb : ME) : MI D := fun ρ φ => (ma ρ φ).bind fun r => (mb ρ r.2).bind fun r2 => match r.1.toD, r2.1.toD with
  | .int m, .int n => if m < 1000000 ∧ -1000000 < m ∧ n < 1000000 ∧ -1000000 < n then .ok ((List.range (n - m).toNat).map fun (i : Nat) => PyData.int (m + (i : Int)), r2.2) else .bad
  | _, _ => .bad
def zipI (ma mb : ME) : MI (D × D) := fun ρ φ => (ma ρ φ).bind fun r => (mb ρ r.2).bind fun r2 => match r.1.toD, r2.1.toD with
  | .list a, .list b => .ok (a.zip b, r2.2)
  | .tuple a, .tuple b => .ok (a.zip b, r2.2)
  | _, _ => .bad
section
variable {X : Cx} {q : Pk} {tg e e2 : Expr} {pos p tpos : Pos} {m ma mb : ME}
theorem pi_or {w1 w2 : TI} (h1 : PI X tg e w1) (h2 : PI X tg e w2) : PI X tg e (fun σ H R => w1 σ H R ∨ w2 σ H R) := ⟨fun pins s σ H R I h => h.elim (h1.run pins s σ H R I) (h2.run pins s σ H R I)⟩
theorem itd_list {p : Pr} {P : Addr → Prop} {H : Hp} {a : Addr} {xs : List V} {ds : List D} (h : hide P H a = some (.lst xs)) (r : RepAll p (hide P H) ds xs) : ItD (R1 p) P H ds (Itl p.K a) := fun i H1 P' u => by
  have h1 : SqL p.K H1 a xs := SqL.of (hide_of (u _ _ sq_lst h)).2
  refine ⟨fun d e => ?_, fun hl => ⟨xs, h1, by rw [r.len]; exact hl⟩⟩
  obtain ⟨v, e1, r1⟩ := r.get e
  refine ⟨⟨xs, v, h1, e1⟩, fun x H2 y => ?_⟩
  obtain ⟨rfl, y⟩ := y
  have e3 := (y xs h1).symm.trans e1
  cases e3
  exact ⟨Ext.refl _, Rep.up u r1⟩
theorem itd_tup {p : Pr} {P : Addr → Prop} {H : Hp} {a : Addr} {xs : List V} {ds : List D} (h : TupN p.K (hide P H) a xs) (r : RepAll p (hide P H) ds xs) : ItD (R1 p) P H ds (Itt p.K a) := fun i H1 P' u => by
  have h1 : SqT p.K H1 a xs := (TupN.at h fun c o s z => (hide_of (u c o s z)).2).sq
  refine ⟨fun d e => ?_, fun hl => ⟨xs, h1, by rw [r.len]; exact hl⟩⟩
  obtain ⟨v, e1, r1⟩ := r.get e
  refine ⟨⟨xs, v, h1, e1⟩, fun x H2 y => ?_⟩
  obtain ⟨rfl, y⟩ := y
  have e3 := (y xs h1).symm.trans e1
  cases e3
  exact ⟨Ext.refl _, Rep.up u r1⟩
theorem itd_str {p : Pr} {P : Addr → Prop} {H : Hp} {x : Str} : ItD (R1 p) P H (x.cps.toList.map fun c => .str ⟨#[c]⟩) (Its x) := fun i H1 P' u => by
  refine ⟨fun d e => ?_, fun hl => ?_⟩
  · rw [List.getElem?_map] at e
    have hi : i < x.cps.size := by
      by_cases z : i < x.cps.size
      · exact z
      · rw [List.getElem?_eq_none (by rw [Array.length_toList]; omega)] at e; cases e
    refine ⟨hi, fun y H2 w => ?_⟩
    obtain ⟨rfl, c, hc, rfl⟩ := w
    rw [Array.getElem?_toList, hc] at e
    cases e
    exact ⟨Ext.refl _, rfl⟩
  · rw [List.length_map, Array.length_toList] at hl
    exact hl
theorem itd_rng {p : Pr} {P : Addr → Prop} {H : Hp} {lo : Int} {n : Nat} : ItD (R1 p) P H ((List.range n).map fun (i : Nat) => PyData.int (lo + (i : Int))) (Itr lo n) := fun i H1 P' u => by
  refine ⟨fun d e => ?_, fun hl => by rw [List.length_map, List.length_range] at hl; exact hl⟩
  rw [List.getElem?_map] at e
  by_cases z : i < n
  · rw [List.getElem?_range z] at e
    cases e
    refine ⟨z, fun y H2 w => ?_⟩
    obtain ⟨rfl, rfl⟩ := w
    exact ⟨Ext.refl _, rfl⟩
  · rw [List.getElem?_eq_none (by rw [List.length_range]; omega)] at e; cases e
theorem di_seq (h : DE X q e m) : DI X q tg e (R1 (q.at X.K)) (seqI m) := by
  refine ⟨_, pi_or (pi_or (pi_list (tg := tg) h) (pi_tup h)) (pi_str h), fun σ H C w => ?_⟩
  obtain ⟨P, ρ, φ, as, φ', a, hm, k⟩ := w
  obtain ⟨⟨e1, φ1⟩, h1, hm⟩ := Res.bind_ok hm
  dsimp only at hm
  generalize he : e1.toD = d at hm
  have go : ∀ v H1, At (q.at X.K) P H1 ρ φ1 σ → Up (q.at X.K).T H H1 → RepE (q.at X.K) P H H1 e1 v → Rep (q.at X.K) (hide P H1) d v := fun v H1 a1 u1 r1 => he ▸ r1.rep a.live
  cases d with
  | list ds =>
    cases hm
    refine .inl (.inl (part a h1 fun v H1 a1 u1 r1 => ?_))
    obtain ⟨c, xs, rfl, g1, g2⟩ := go v H1 a1 u1 r1
    exact ⟨c, rfl, ⟨xs, SqL.of (hide_of g1).2⟩, k _ H1 u1 a1.fo (itd_list (p := q.at X.K) g1 g2)⟩
  | tuple ds =>
    cases hm
    refine .inl (.inr (part a h1 fun v H1 a1 u1 r1 => ?_))
    obtain ⟨c, xs, rfl, g1, g2⟩ := go v H1 a1 u1 r1
    have g3 := TupN.at g1 fun b o _ z => (hide_of z).2
    exact ⟨c, rfl, ⟨xs, g3.sq⟩, k _ H1 u1 a1.fo (itd_tup (p := q.at X.K) g1 g2)⟩
  | str x =>
    cases hm
    refine .inr (part a h1 fun v H1 a1 u1 r1 => ?_)
    cases go v H1 a1 u1 r1
    exact ⟨x, rfl, k _ H1 u1 a1.fo itd_str⟩
  | none => cases hm
  | bool b => cases hm
  | int i => cases hm
  | dict kv => cases hm
theorem di_rng1 (hg : Gl X "range") (hm : X.mg "range" = none) (ha : DE X q e ma) (hs : starEach [e] X.env = (false, eval e X.env) :: starEach [] X.env) : DI X q tg (.Call (.Name "range" p) [e] [] pos) (R1 (q.at X.K)) (rng1I ma) := by
  refine ⟨_, pi_range1 hg hm (pa_cons ha pa_nil hs) hs, fun σ H C w => ?_⟩
  obtain ⟨P, ρ, φ, as, φ', a, hm, k⟩ := w
  obtain ⟨⟨e1, φ1⟩, h1, hm⟩ := Res.bind_ok hm
  dsimp only at hm
  split at hm
  · rename_i he
    split at hm
    · rename_i hb
      cases hm
      refine part a h1 fun v H1 a1 u1 r1 => ?_
      have r2 := r1.rep a.live
      rw [he] at r2
      cases r2
      exact ⟨_, rfl, by omega, by omega, k _ H1 u1 a1.fo itd_rng⟩
    · cases hm
  · cases hm
theorem di_rng2 (hg : Gl X "range") (hm : X.mg "range" = none) (ha : DE X q e ma) (hb : DE X q e2 mb) (hs : starEach [e, e2] X.env = (false, eval e X.env) :: starEach [e2] X.env) (hs2 : starEach [e2] X.env = (false, eval e2 X.env) :: starEach [] X.env) :
    DI X q tg (.Call (.Name "range" p) [e, e2] [] pos) (R1 (q.at X.K)) (rng2I ma mb) := by
  refine ⟨_, pi_range2 hg hm (pa_cons ha (pa_cons hb pa_nil hs2) hs) (hs.trans (by rw [hs2]; rfl)) hs2, fun σ H C w => ?_⟩
  obtain ⟨P, ρ, φ, as, φ', a, hm, k⟩ := w
  obtain ⟨⟨e1, φ1⟩, h1, hm⟩ := Res.bind_ok hm
  obtain ⟨⟨e2, φ2⟩, h2, hm⟩ := Res.bind_ok hm
  dsimp only at hm
  split at hm
  · rename_i he he2
    split at hm
    · rename_i hb
      cases hm
      refine part a h1 fun v H1 a1 u1 r1 => part a1 h2 fun v2 H2 a2 u2 r2 => ?_
      have r1 := r1.rep a.live
      have r2 := r2.rep a1.live
      rw [he] at r1
      rw [he2] at r2
      cases r1
      cases r2
      exact ⟨_, _, rfl, ⟨by omega, by omega, by omega, by omega⟩, k _ H2 (u1.trans u2) a2.fo itd_rng⟩
    · cases hm
  · cases hm
theorem zip_get {α β : Type} {xs : List α} {ys : List β} {i : Nat} {z : α × β} (h : (xs.zip ys)[i]? = some z) : xs[i]? = some z.1 ∧ ys[i]? = some z.2 := List.getElem?_zip_eq_some.mp h
theorem di_zip {elts : List Expr} {kk : Nat} (hg : Gl X "zip") (hm : X.mg "zip" = none) (ha : DE X q e ma) (hb : DE X q e2 mb) (hs : starEach [e, e2] X.env = (false, eval e X.env) :: starEach [e2] X.env) (hs2 : starEach [e2] X.env = (false, eval e2 X.env) :: starEach [] X.env) :
    DI X q (.Tuple elts kk tpos) (.Call (.Name "zip" p) [e, e2] [] pos) (R2 (q.at X.K)) (zipI ma mb) := by
  refine ⟨_, RZ.pi_zipA hg hm (pa_cons ha (pa_cons hb pa_nil hs2) hs) hs (by rw [hs2]; rfl), fun σ H C w => ?_⟩
  obtain ⟨P, ρ, φ, as, φ', a, hm, k⟩ := w
  obtain ⟨⟨e1, φ1⟩, h1, hm⟩ := Res.bind_ok hm
  obtain ⟨⟨e2, φ2⟩, h2, hm⟩ := Res.bind_ok hm
  dsimp only at hm
  split at hm
  · rename_i he he2
    cases hm
    refine part a h1 fun v H1 a1 u1 r1 => part a1 h2 fun v2 H2 a2 u2 r2 => ?_
    have r1 := r1.rep a.live
    have r2 := r2.rep a1.live
    rw [he] at r1
    rw [he2] at r2
    obtain ⟨c, xs, rfl, g1, g2⟩ := r1
    obtain ⟨d, ys, rfl, g3, g4⟩ := r2
    have g5 := hide_up u2 _ _ sq_lst g1
    have g6 := g3
    refine ⟨c, d, xs, ys, rfl, .inl ⟨SqL.of (hide_of g5).2, SqL.of (hide_of g6).2, k _ H2 (u1.trans u2) a2.fo fun i H3 P' u => ⟨fun z hz => ?_, fun hl => ?_⟩⟩⟩
    · obtain ⟨z1, z2⟩ := zip_get hz
      obtain ⟨v1, e1, q1⟩ := g2.get z1
      obtain ⟨v2, e2, q2⟩ := g4.get z2
      have g7 : H3 c = some (.lst xs) := (hide_of (u _ _ sq_lst g5)).2
      have g8 : H3 d = some (.lst ys) := (hide_of (u _ _ sq_lst g6)).2
      refine ⟨⟨xs, ys, v1, v2, SqL.of g7, SqL.of g8, e1, e2⟩, fun x H4 w => ?_⟩
      obtain ⟨T, x1, x2, rfl, nT, rfl, w1, w2⟩ := w
      have f1 := (w1 xs (SqL.of g7)).symm.trans e1
      have f2 := (w2 ys (SqL.of g8)).symm.trans e2
      cases f1
      cases f2
      refine ⟨Ext.new nT, T, _, _, rfl, SqT.of upd_same, Rep.up (hide_ex (Ext.new nT)) (Rep.up u (Rep.up (hide_up u2) q1)), Rep.up (hide_ex (Ext.new nT)) (Rep.up u q2)⟩
    · refine ⟨xs, ys, SqL.of (hide_of (u _ _ sq_lst g5)).2, SqL.of (hide_of (u _ _ sq_lst g6)).2, ?_⟩
      rw [List.length_zip] at hl
      rw [g2.len, g4.len]
      omega
  · rename_i he he2
    cases hm
    refine part a h1 fun v H1 a1 u1 r1 => part a1 h2 fun v2 H2 a2 u2 r2 => ?_
    have r1 := r1.rep a.live
    have r2 := r2.rep a1.live
    rw [he] at r1
    rw [he2] at r2
    obtain ⟨c, xs, rfl, g1, g2⟩ := r1
    obtain ⟨d, ys, rfl, g3, g4⟩ := r2
    have g5 := TupN.at g1 (hide_up u2)
    have g6 := g3
    have sh := fun (G : Hp) (P : Addr → Prop) (b : Addr) (o : HO) (_ : Sq o) (z : hide P G b = some o) => (hide_of z).2
    refine ⟨c, d, xs, ys, rfl, .inr ⟨(TupN.at g5 (sh _ _)).sq, (TupN.at g6 (sh _ _)).sq, k _ H2 (u1.trans u2) a2.fo fun i H3 P' u => ⟨fun z hz => ?_, fun hl => ?_⟩⟩⟩
    · obtain ⟨z1, z2⟩ := zip_get hz
      obtain ⟨v1, e1, q1⟩ := g2.get z1
      obtain ⟨v2, e2, q2⟩ := g4.get z2
      have g7 := (TupN.at (TupN.at g5 u) (sh _ _)).sq
      have g8 := (TupN.at (TupN.at g6 u) (sh _ _)).sq
      refine ⟨⟨xs, ys, v1, v2, g7, g8, e1, e2⟩, fun x H4 w => ?_⟩
      obtain ⟨T, x1, x2, rfl, nT, rfl, w1, w2⟩ := w
      have f1 := (w1 xs g7).symm.trans e1
      have f2 := (w2 ys g8).symm.trans e2
      cases f1
      cases f2
      refine ⟨Ext.new nT, T, _, _, rfl, SqT.of upd_same, Rep.up (hide_ex (Ext.new nT)) (Rep.up u (Rep.up (hide_up u2) q1)), Rep.up (hide_ex (Ext.new nT)) (Rep.up u q2)⟩
    · refine ⟨xs, ys, (TupN.at (TupN.at g5 u) (sh _ _)).sq, (TupN.at (TupN.at g6 u) (sh _ _)).sq, ?_⟩
      rw [List.length_zip] at hl
      rw [g2.len, g4.len]
      omega
  · cases hm
end
end VI
namespace VI
open PySem PySem.Spec PyProof.Rows L2
def lcGo {α : Type} (set : α → Env' → Option Env') (mt : MT) (me : ME) (ρ0 : Env') : List α → FS → Res (List D × FS)
  | [], φ => .ok ([], φ)
  | a :: as, φ => match set a ρ0 with
    | none => .bad
    | some ρ1 => (mt ρ1 φ).bind fun r => if r.1 = true then (me ρ1 r.2).bind fun r1 => (lcGo set mt me ρ0 as r1.2).bind fun r2 => .ok (r1.1.toD :: r2.1, r2.2) else lcGo set mt me ρ0 as r.2
def lcM {α : Type} (own : List Nat) (mi : MI α) (set : α → Env' → Option Env') (mt : MT) (me : ME) : ME := fun ρ φ =>
  (mi ρ φ).bind fun r => if r.1.length ≤ 1000000 then (lcGo set mt me (wipeD ρ own) r.1 r.2).bind fun r2 => .ok (.own r2.1, r2.2) else .bad
def yesT : MT := fun _ φ => .ok (true, φ)
/-- the tests of a clause -/
def DTs (X : Cx) (q : Pk) (ifs : List Expr) (m : MT) : Prop := PTs X ifs (tDT (q.at X.K) m)
theorem pts_imp {X : Cx} {ifs : List Expr} {t t' : TT} (h : PTs X ifs t) (w : ∀ σ H Q, t' σ H Q → t σ H Q) : PTs X ifs t' := ⟨fun pins s σ H Q I z => h.run pins s σ H Q I (w _ _ _ z)⟩
theorem dts_nil {X : Cx} {q : Pk} : DTs X q [] yesT := pts_imp pts_nil fun σ H Q w => by
  obtain ⟨P, ρ, φ, b, φ', a, h, k⟩ := w
  cases h
  exact k H (Up.refl H) a.fo
theorem dts_one {X : Cx} {q : Pk} {c : Expr} {m : MT} (h : DT X q c m) : DTs X q [c] m := pts_one h
/-- the list in the making out of sight -/
abbrev And1 (P : Addr → Prop) (d : Addr) : Addr → Prop := fun b => P b ∨ b = d
theorem wish_lc {α : Type} {p : Pr} {wi : TI} {R : RI α} {mi : MI α} {g : TG} {set : α → Env' → Option Env'} {vs own : List Nat} {mt : MT} {me : ME}
    (hi : ∀ (σ : L2.St) (H : Hp) (C : It → Hp → Prop), (∃ P ρ φ as φ', At p P H ρ φ σ ∧ mi ρ φ = .ok (as, φ') ∧ ∀ J H', Up p.T H H' → FO p φ' (hide P H') → ItD R P H' as J → C J H') → wi σ H C)
    (hg : ∀ (P : Addr → Prop) (H : Hp) (ρ : Env') (σ : L2.St) (a : α) (v : V) (ρ' : Env') (Q : L2.St → Hp → Prop), EnvR p (hide P H) ρ σ → R P H a v → set a ρ = some ρ' →
      (∀ σ', EnvR p (hide P H) ρ' σ' → Chg vs σ σ' → (∀ i, i ∉ vs → ρ'[i]? = ρ[i]?) → Q σ' H) → g v σ H Q) (hvs : ∀ i ∈ vs, i ∈ own)
    (σ : L2.St) (H : Hp) (Q : VK) (w : tD p (lcM own mi set mt me) σ H Q) : tLc wi g (tDT p mt) (tD p me) own σ H Q := by
  obtain ⟨P, ρ, φ, e, φ', a, h, k⟩ := w
  obtain ⟨⟨as, φ1⟩, h1, h⟩ := Res.bind_ok h
  dsimp only at h
  split at h
  · rename_i hz
    obtain ⟨⟨fin, φ2⟩, h2, h⟩ := Res.bind_ok h
    cases h
    refine hi σ H _ ⟨P, ρ, φ, as, φ1, a, h1, fun J H1 u1 f1 it => ?_⟩
    intro d nd
    have a1 := a.next u1 f1
    have up0 : Up p.T H1 (upd H1 d (.lst [])) := (Ext.new nd).up
    -- the state behind i turns
    refine ⟨fun i m Hc => m = as.length - i ∧ i ≤ as.length ∧ ∃ φc accD accV rest, Up p.T H1 Hc ∧ Hc d = some (.lst accV) ∧ RepAll p (hide (And1 P d) Hc) accD accV ∧ FO p φc (hide (And1 P d) Hc) ∧
      lcGo set mt me (wipeD ρ own) (as.drop i) φc = .ok (rest, φ2) ∧ accD ++ rest = fin ∧ accD.length ≤ i, ⟨as.length, ?_⟩, ?_⟩
    · refine ⟨by omega, Nat.zero_le _, φ1, [], [], fin, up0, upd_same, rfl, ?_, by rw [List.drop_zero]; exact h2, rfl, Nat.le_refl _⟩
      rw [hide_upd (.inr rfl)]
      have fa : p.fa ≠ d := fun z => by have q1 := (hide_of f1.d).2; rw [z, nd] at q1; cases q1
      have ca : p.ca ≠ d := fun z => by have q1 := (hide_of f1.c).2; rw [z, nd] at q1; cases q1
      have vis : ∀ b, b ≠ d → ∀ o, hide P H1 b = some o → hide (And1 P d) H1 b = some o := fun b hb o q1 => by
        obtain ⟨q2, q3⟩ := hide_of q1
        rw [hide_eq fun z => z.elim q2 hb]
        exact q3
      exact ⟨vis _ fa _ f1.d, vis _ ca _ f1.c, f1.e.up fun b o _ z => vis b (fun y => by have q1 := (hide_of z).2; rw [y, nd] at q1; cases q1) o z⟩
    · rintro i m Hc ⟨rfl, hi', φc, accD, accV, rest, uc, hd, ra, fc, hgo, hfin, hlen⟩
      have live : Live (And1 P d) Hc := fun b hb => by
        rcases hb with hb | hb
        · exact (a1.live.up uc) b hb
        · rw [hb, hd]; intro z; cases z
      have newer : ∀ b, And1 P d b → P b ∨ H1 b = none := fun b hb => hb.imp id fun z => by rw [z]; exact nd
      obtain ⟨go, stop⟩ := it i Hc (And1 P d) (later uc newer)
      by_cases hlt : i < as.length
      · have ei : as[i]? = some as[i] := List.getElem?_eq_getElem hlt
        obtain ⟨go1, go2⟩ := go as[i] ei
        rw [List.drop_eq_getElem_cons hlt] at hgo
        unfold lcGo at hgo
        split at hgo
        · cases hgo
        · rename_i ρ1 hset
          obtain ⟨⟨b, φ3⟩, h3, hgo⟩ := Res.bind_ok hgo
          dsimp only at hgo
          refine .inr ⟨go1, fun Hn => ∃ φc accD accV rest, Up p.T H1 Hn ∧ Hn d = some (.lst accV) ∧ RepAll p (hide (And1 P d) Hn) accD accV ∧ FO p φc (hide (And1 P d) Hn) ∧
            lcGo set mt me (wipeD ρ own) (as.drop (i + 1)) φc = .ok (rest, φ2) ∧ accD ++ rest = fin ∧ accD.length ≤ i + 1, fun Hn hn => ⟨as.length - (i + 1), by omega, rfl, hlt, hn⟩, fun x H2 hy => ?_⟩
          obtain ⟨x2, rx⟩ := go2 x H2 hy
          have env : EnvR p (hide (And1 P d) H2) (wipeD ρ own) (wipe σ own) := (a1.env.up (later (uc.trans x2.up) newer)).wipe own
          refine hg (And1 P d) H2 (wipeD ρ own) (wipe σ own) as[i] x ρ1 _ env rx hset fun σ2 env2 chg _ => ?_
          have wp : wipe σ2 own = wipe (wipe σ own) own := chg.wipe hvs
          have ww : wipe (wipe σ own) own = wipe σ own := by
            apply List.ext_getElem?
            intro j
            by_cases hj : j ∈ own
            · by_cases hl : j < σ.length
              · rw [wipe_get hj (by rw [wipe_length]; exact hl), wipe_get hj hl]
              · rw [List.getElem?_eq_none (by rw [wipe_length, wipe_length]; omega), List.getElem?_eq_none (by rw [wipe_length]; omega)]
            · rw [wipe_out hj]
          refine ⟨wp.trans ww, ?_⟩
          have a2 : At p (And1 P d) H2 ρ1 φc σ2 := ⟨live.ex x2, env2, fc.ext (hide_ext x2), x2.up.tab (uc.tab a1.tb)⟩
          refine partT a2 h3 fun H3 a3 u3 => ?_
          have hd2 := x2.all _ _ hd
          have hd3 : H3 d = some (.lst accV) := u3.sq _ _ trivial hd2
          have ra3 := RepAll.up (hide_up (x2.up.trans u3)) ra
          cases b with
          | false =>
            rw [if_neg Bool.false_ne_true]
            rw [if_neg Bool.false_ne_true] at hgo
            exact ⟨φ3, accD, accV, rest, (uc.trans x2.up).trans u3, hd3, ra3, a3.fo, hgo, hfin, by omega⟩
          | true =>
            rw [if_pos rfl]
            rw [if_pos rfl] at hgo
            obtain ⟨⟨e4, φ4⟩, h4, hgo⟩ := Res.bind_ok hgo
            obtain ⟨⟨r5, φ5⟩, h5, hgo⟩ := Res.bind_ok hgo
            cases hgo
            refine part a3 h4 fun v4 H4 a4 u4 r4 => ?_
            have hd4 : H4 d = some (.lst accV) := u4.sq _ _ trivial hd3
            refine ⟨accV, hd4, by rw [ra.len, sizeLine_eq]; omega, φ4, accD ++ [e4.toD], accV ++ [v4], r5, ?_, upd_same, ?_, ?_, h5, by rw [List.append_assoc]; exact hfin, by rw [List.length_append, List.length_singleton]; omega⟩
            · have uu := ((uc.trans x2.up).trans u3).trans u4
              refine ⟨fun b o s q1 => ?_, fun b q1 => ?_, fun t => tabs_lst (uu.tab t) hd4⟩
              · have hb : b ≠ d := fun z => by rw [z, nd] at q1; cases q1
                rw [upd_ne hb]
                exact uu.sq b o s q1
              · have hb : b ≠ d := fun z => by rw [z, upd_same] at q1; cases q1
                rw [upd_ne hb] at q1
                exact uu.no b q1
            · rw [hide_upd (.inr rfl)]
              exact RepAll.app (RepAll.up (hide_up u4) ra3) (RepAll.one (r4.rep a3.live))
            · rw [hide_upd (.inr rfl)]
              exact a4.fo
      · have ei : i = as.length := by omega
        subst ei
        rw [List.drop_length] at hgo
        cases hgo
        rw [List.append_nil] at hfin
        subst hfin
        refine .inl ⟨stop (Nat.le_refl _), k _ Hc (u1.trans uc) ?_ ⟨d, accV, rfl, u1.no _ nd, hd, ra⟩⟩
        have vis : ∀ b o, hide (And1 P d) Hc b = some o → hide P Hc b = some o := fun b o q1 => by
          obtain ⟨q2, q3⟩ := hide_of q1
          rw [hide_eq fun z => q2 (.inl z)]
          exact q3
        exact ⟨vis _ _ fc.d, vis _ _ fc.c, fc.e.up fun b o _ z => vis b o z⟩
  · cases h
section
variable {X : Cx} {q : Pk} {elt tg iter : Expr} {ifs : List Expr} {scope : Scope} {own : List (Str × Nat)} {pos : Pos} {α : Type} {R : RI α} {mi : MI α} {set : α → Env' → Option Env'} {vs : List Nat} {mt : MT} {me : ME}
theorem de_lc (hc : X.calm = true) (hN : X.N.Nodup) (hi : DI X q tg iter R mi) (ok : BlkOk X.N X.env.scope scope own) (hvs : ∀ i ∈ vs, i ∈ own.map (·.2))
    (hg : ∃ g : TG, (∀ (s : Shared) (H : Hp) (C : Addr) (cl : List (Str × Addr)) (fp : List Addr), PG (X.blk s H scope (compEnvC scope cl C X.env) fp) tg g) ∧
      ∀ (P : Addr → Prop) (H : Hp) (ρ : Env') (σ : L2.St) (a : α) (v : V) (ρ' : Env') (Q : L2.St → Hp → Prop), EnvR (q.at X.K) (hide P H) ρ σ → R P H a v → set a ρ = some ρ' →
        (∀ σ', EnvR (q.at X.K) (hide P H) ρ' σ' → Chg vs σ σ' → (∀ i, i ∉ vs → ρ'[i]? = ρ[i]?) → Q σ' H) → g v σ H Q)
    (ht : ∀ (s : Shared) (H : Hp) (C : Addr) (cl : List (Str × Addr)) (fp : List Addr), DTs (X.blk s H scope (compEnvC scope cl C X.env) fp) q ifs mt)
    (he : ∀ (s : Shared) (H : Hp) (C : Addr) (cl : List (Str × Addr)) (fp : List Addr), DE (X.blk s H scope (compEnvC scope cl C X.env) fp) q elt me) (hs : ∀ x, foldedSetIterable iter X.env x = pure x) :
    DE X q (.ListComp elt [⟨tg, iter, ifs, 0⟩] scope pos) (lcM (own.map (·.2)) mi set mt me) := by
  obtain ⟨wi, h1, h2⟩ := hi
  obtain ⟨g, h3, h4⟩ := hg
  exact (pe_lc (tt := tDT (q.at X.K) mt) (te := tD (q.at X.K) me) hc hN h1 ok h3 ht he hs).imp (wish_lc h2 h4 hvs)
/-- name = [..] on one line -/
def tAsgD (p : Pr) (m : ME) (i : Nat) : TS := fun D σ H => tD p m σ H fun x H1 => D.nx (σ.set i (some x)) H1
end
end VI
namespace VI
open PySem PySem.Spec PyProof.Rows L2
abbrev EnvS := List (Option EV)
inductive Fl where
  | nx
  | ret (e : EV)
  | bk
  | ct
abbrev MS := EnvS → FS → Res (Fl × EnvS × FS)
mutual
def lfD : D → Bool
  | .none => true
  | .bool _ => true
  | .int _ => true
  | .str _ => true
  | .list _ => false
  | .tuple ds => lfAll ds
  | .dict _ => true
def lfAll : List D → Bool
  | [] => true
  | d :: ds => lfD d && lfAll ds
end
def lfE : EV → Bool
  | .dat d => lfD d
  | .own ds => lfAll ds
section
variable {p : Pr} {G G' : Hp}
mutual
theorem Rep.lf (u : ∀ a o xs, G a = some (.frz o (.tup xs)) → G' a = some (.frz o (.tup xs))) : ∀ {d : D} {v : V}, lfD d = true → Rep p G d v → Rep p G' d v
  | .none, _, _, h => h
  | .bool _, _, _, h => h
  | .int _, _, _, h => h
  | .str _, _, _, h => h
  | .list _, _, l, _ => by cases l
  | .tuple _, _, l, h => by
    obtain ⟨a, xs, e, h1, h2⟩ := h
    refine ⟨a, xs, e, ?_, RepAll.lf u l h2⟩
    rcases h1 with ⟨o, d, h1⟩ | h1
    · exact .inl ⟨o, d, u _ _ _ h1⟩
    · exact .inr h1
  | .dict _, _, _, h => h
theorem RepAll.lf (u : ∀ a o xs, G a = some (.frz o (.tup xs)) → G' a = some (.frz o (.tup xs))) : ∀ {ds : List D} {vs : List V}, lfAll ds = true → RepAll p G ds vs → RepAll p G' ds vs
  | [], _, _, h => h
  | _ :: _, _, l, h => by
    obtain ⟨v, r, e, h1, h2⟩ := h
    unfold lfAll at l
    rw [Bool.and_eq_true] at l
    exact ⟨v, r, e, Rep.lf u l.1 h1, RepAll.lf u l.2 h2⟩
end
end
def OwnS (ρ : EnvS) (σ : L2.St) (i : Nat) (a : Addr) : Prop := (∃ ds, ρ[i]? = some (some (.own ds))) ∧ σ[i]? = some (some (.ref a))
/-- out of sight: what the caller hides, and this frame's own lists -/
def Hid (P0 : Addr → Prop) (ρ : EnvS) (σ : L2.St) : Addr → Prop := fun a => P0 a ∨ ∃ i, OwnS ρ σ i a
structure Sl (p : Pr) (H0 : Hp) (P0 : Addr → Prop) (H : Hp) (ρ : EnvS) (σ : L2.St) : Prop where
  len : ρ.length = σ.length
  live : Live P0 H0
  up : Up p.T H0 H
  dat : ∀ (i : Nat) (d : D), ρ[i]? = some (some (EV.dat d)) → ∃ v : V, σ[i]? = some (some v) ∧ Rep p (hide (Hid P0 ρ σ) H) d v
  own : ∀ (i : Nat) (ds : List D), ρ[i]? = some (some (EV.own ds)) → ∃ (a : Addr) (xs : List V), σ[i]? = some (some (V.ref a)) ∧ H0 a = none ∧ H a = some (.lst xs) ∧ RepAll p (hide (Hid P0 ρ σ) H) ds xs
  one : ∀ i j a, OwnS ρ σ i a → OwnS ρ σ j a → i = j
structure StR (p : Pr) (H0 : Hp) (P0 : Addr → Prop) (H : Hp) (ρ : EnvS) (φ : FS) (σ : L2.St) : Prop where
  sl : Sl p H0 P0 H ρ σ
  fo : FO p φ (hide (Hid P0 ρ σ) H)
  tb : LamX.Tabs p.T H
def soft1 (vs : List Nat) (i : Nat) : Option EV → Option D
  | some (.dat d) => some d
  | some (.own ds) => if i ∈ vs then some (.list ds) else none
  | none => none
def soft (vs : List Nat) (ρ : EnvS) : Env' := ρ.mapIdx (soft1 vs)
def settle1 (vs : List Nat) (i : Nat) : Option EV → Option EV
  | some (.own ds) => if i ∈ vs then some (.dat (.list ds)) else some (.own ds)
  | x => x
def settle (vs : List Nat) (ρ : EnvS) : EnvS := ρ.mapIdx (settle1 vs)
def aft (vs : List Nat) (e : EV) (ρ : EnvS) : EnvS := if lfE e = true then ρ else settle vs ρ
theorem settle_len (vs : List Nat) (ρ : EnvS) : (settle vs ρ).length = ρ.length := List.length_mapIdx
theorem soft_len (vs : List Nat) (ρ : EnvS) : (soft vs ρ).length = ρ.length := List.length_mapIdx
theorem settle_get (vs : List Nat) (ρ : EnvS) (i : Nat) : (settle vs ρ)[i]? = (ρ[i]?).map (settle1 vs i) := List.getElem?_mapIdx
theorem soft_get (vs : List Nat) (ρ : EnvS) (i : Nat) : (soft vs ρ)[i]? = (ρ[i]?).map (soft1 vs i) := List.getElem?_mapIdx
theorem settle_own {vs : List Nat} {ρ : EnvS} {i : Nat} {ds : List D} (h : (settle vs ρ)[i]? = some (some (.own ds))) : ρ[i]? = some (some (.own ds)) ∧ i ∉ vs := by
  rw [settle_get] at h
  cases e : ρ[i]? with
  | none => rw [e] at h; cases h
  | some o =>
    rw [e] at h
    cases o with
    | none => cases h
    | some ev =>
      cases ev with
      | dat d => cases h
      | own es =>
        have h : some (if i ∈ vs then some (EV.dat (.list es)) else some (EV.own es)) = some (some (EV.own ds)) := h
        split at h
        · cases h
        · cases h; exact ⟨rfl, by assumption⟩
theorem settle_dat {vs : List Nat} {ρ : EnvS} {i : Nat} {d : D} (h : (settle vs ρ)[i]? = some (some (.dat d))) : ρ[i]? = some (some (.dat d)) ∨ ∃ ds, ρ[i]? = some (some (.own ds)) ∧ i ∈ vs ∧ d = .list ds := by
  rw [settle_get] at h
  cases e : ρ[i]? with
  | none => rw [e] at h; cases h
  | some o =>
    rw [e] at h
    cases o with
    | none => cases h
    | some ev =>
      cases ev with
      | dat d' => cases h; exact .inl rfl
      | own es =>
        have h : some (if i ∈ vs then some (EV.dat (.list es)) else some (EV.own es)) = some (some (EV.dat d)) := h
        split at h
        · cases h; exact .inr ⟨es, rfl, by assumption, rfl⟩
        · cases h
theorem soft_some {vs : List Nat} {ρ : EnvS} {i : Nat} {d : D} (h : (soft vs ρ)[i]? = some (some d)) : (settle vs ρ)[i]? = some (some (.dat d)) := by
  rw [soft_get] at h
  rw [settle_get]
  cases e : ρ[i]? with
  | none => rw [e] at h; cases h
  | some o =>
    rw [e] at h
    cases o with
    | none => cases h
    | some ev =>
      cases ev with
      | dat d' => cases h; rfl
      | own es =>
        have h : some (if i ∈ vs then some (PyData.list es) else none) = some (some d) := h
        show some (if i ∈ vs then some (EV.dat (.list es)) else some (EV.own es)) = _
        split at h
        · rename_i hi; cases h; rw [if_pos hi]
        · cases h
theorem hid_settle {P0 : Addr → Prop} {vs : List Nat} {ρ : EnvS} {σ : L2.St} : ∀ b, Hid P0 (settle vs ρ) σ b → Hid P0 ρ σ b := fun b h => by
  rcases h with h | ⟨i, ⟨ds, h1⟩, h2⟩
  · exact .inl h
  · exact .inr ⟨i, ⟨ds, (settle_own h1).1⟩, h2⟩
section
variable {p : Pr} {H0 H H' : Hp} {P0 : Addr → Prop} {ρ : EnvS} {φ φ' : FS} {σ : L2.St} {vs : List Nat} {e : EV} {v : V}
theorem FO.see {P P' : Addr → Prop} {H : Hp} {φ : FS} (h : FO p φ (hide P H)) (n : ¬ P' p.fa) (n2 : ¬ P' p.ca) (x : ExO p (hide P' H)) : FO p φ (hide P' H) :=
  ⟨by rw [hide_eq n]; exact (hide_of h.d).2, by rw [hide_eq n2]; exact (hide_of h.c).2, x⟩
theorem FO.nfa {P : Addr → Prop} {H : Hp} {φ : FS} (h : FO p φ (hide P H)) : ¬ P p.fa ∧ H p.fa ≠ none := ⟨(hide_of h.d).1, by rw [(hide_of h.d).2]; intro z; cases z⟩
theorem FO.nca {P : Addr → Prop} {H : Hp} {φ : FS} (h : FO p φ (hide P H)) : ¬ P p.ca ∧ H p.ca ≠ none := ⟨(hide_of h.c).1, by rw [(hide_of h.c).2]; intro z; cases z⟩
theorem Sl.liveH (S : Sl p H0 P0 H ρ σ) : Live (Hid P0 ρ σ) H := fun b h => by
  rcases h with h | ⟨i, ⟨ds, h1⟩, h2⟩
  · exact S.live.up S.up b h
  · obtain ⟨a, xs, e1, e2, e3, e4⟩ := S.own i ds h1
    rw [h2] at e1
    cases e1
    rw [e3]
    intro z; cases z
/-- own lists may be held as data from now on -/
theorem Sl.settled (S : Sl p H0 P0 H ρ σ) (vs : List Nat) : Sl p H0 P0 H (settle vs ρ) σ where
  len := by rw [settle_len]; exact S.len
  live := S.live
  up := S.up
  dat := fun i d h => by
    rcases settle_dat h with h7 | ⟨ds, h7, hi, rfl⟩
    · obtain ⟨v, e1, e2⟩ := S.dat i d h7
      exact ⟨v, e1, Rep.up (fun a o _ z => hide_less hid_settle a o z) e2⟩
    · obtain ⟨a, xs, e1, e2, e3, e4⟩ := S.own i ds h7
      refine ⟨.ref a, e1, a, xs, rfl, ?_, RepAll.up (fun a o _ z => hide_less hid_settle a o z) e4⟩
      rw [hide_eq fun z => ?_]
      · exact e3
      · rcases z with z | ⟨j, ⟨es, h1⟩, h2⟩
        · exact S.live a z e2
        · obtain ⟨h3, h4⟩ := settle_own h1
          have := S.one i j a ⟨⟨ds, h7⟩, e1⟩ ⟨⟨es, h3⟩, h2⟩
          rw [← this] at h4
          exact h4 hi
  own := fun i ds h => by
    obtain ⟨h, _⟩ := settle_own h
    obtain ⟨a, xs, e1, e2, e3, e4⟩ := S.own i ds h
    exact ⟨a, xs, e1, e2, e3, RepAll.up (fun a o _ z => hide_less hid_settle a o z) e4⟩
  one := fun i j a h1 h2 => by
    obtain ⟨⟨ds, h1⟩, h3⟩ := h1
    obtain ⟨⟨es, h2⟩, h4⟩ := h2
    exact S.one i j a ⟨⟨ds, (settle_own h1).1⟩, h3⟩ ⟨⟨es, (settle_own h2).1⟩, h4⟩
theorem FO.less {P P' : Addr → Prop} {H : Hp} {φ : FS} (h : FO p φ (hide P H)) (s : ∀ b, P' b → P b) : FO p φ (hide P' H) := h.see (fun z => h.nfa.1 (s _ z)) (fun z => h.nca.1 (s _ z)) (h.e.up fun a o _ z => hide_less s a o z)
theorem StR.settled (S : StR p H0 P0 H ρ φ σ) (vs : List Nat) : StR p H0 P0 H (settle vs ρ) φ σ := ⟨S.sl.settled vs, S.fo.less hid_settle, S.tb⟩
/-- an expression may read what is named -/
theorem StR.moment (S : StR p H0 P0 H ρ φ σ) (vs : List Nat) : At p (Hid P0 (settle vs ρ) σ) H (soft vs ρ) φ σ where
  live := (S.sl.settled vs).liveH
  env := ⟨by rw [soft_len]; exact S.sl.len, fun i d h => (S.sl.settled vs).dat i d (soft_some h)⟩
  fo := S.fo.less hid_settle
  tb := S.tb
theorem StR.upTo (S : StR p H0 P0 H ρ φ σ) (u : Up p.T H H') (f : FO p φ' (hide (Hid P0 ρ σ) H')) : StR p H0 P0 H' ρ φ' σ :=
  ⟨⟨S.sl.len, S.sl.live, S.sl.up.trans u, fun i d h => by
    obtain ⟨v, e1, e2⟩ := S.sl.dat i d h
    exact ⟨v, e1, Rep.up (hide_up u) e2⟩, fun i ds h => by
    obtain ⟨a, xs, e1, e2, e3, e4⟩ := S.sl.own i ds h
    exact ⟨a, xs, e1, e2, u.sq _ _ sq_lst e3, RepAll.up (hide_up u) e4⟩, S.sl.one⟩, f, u.tab S.tb⟩
theorem hid_lst (S : Sl p H0 P0 H ρ σ) (u : Up p.T H H') {b : Addr} (h : Hid P0 ρ σ b) : Hid P0 (settle vs ρ) σ b ∨ ∃ xs, H' b = some (.lst xs) := by
  rcases h with h | ⟨i, ⟨ds, h1⟩, h2⟩
  · exact .inl (.inl h)
  · obtain ⟨a, xs, e1, e2, e3, e4⟩ := S.own i ds h1
    rw [h2] at e1
    cases e1
    exact .inr ⟨xs, u.sq _ _ sq_lst e3⟩
/-- behind an expression: the frame, and its value -/
theorem StR.behind (S : StR p H0 P0 H ρ φ σ) (u : Up p.T H H') (f : FO p φ' (hide (Hid P0 (settle vs ρ) σ) H')) (r : RepE p (Hid P0 (settle vs ρ) σ) H H' e v) :
    FO p φ' (hide (Hid P0 (aft vs e ρ) σ) H') ∧ RepE p (Hid P0 (aft vs e ρ) σ) H H' e v ∧ StR p H0 P0 H (aft vs e ρ) φ σ := by
  unfold aft
  by_cases hl : lfE e = true
  · rw [if_pos hl]
    refine ⟨f.see S.fo.nfa.1 S.fo.nca.1 (S.fo.e.up (hide_up u)), ?_, S⟩
    have tups : ∀ (Z : Addr → Prop) a o xs, hide (fun b => Hid P0 (settle vs ρ) σ b ∨ Z b) H' a = some (.frz o (.tup xs)) → hide (fun b => Hid P0 ρ σ b ∨ Z b) H' a = some (.frz o (.tup xs)) := fun Z a o xs h => by
      obtain ⟨h1, h2⟩ := hide_of h
      rw [hide_eq fun z => ?_]
      · exact h2
      · rcases z with z | z
        · rcases hid_lst (vs := vs) S.sl u z with z | ⟨ys, z⟩
          · exact h1 (.inl z)
          · rw [z] at h2; cases h2
        · exact h1 (.inr z)
    have noZ : ∀ (Q : Addr → Prop), hide (fun b => Q b ∨ False) H' = hide Q H' := fun Q => by
      congr 1
      funext b
      exact propext ⟨fun z => z.elim id False.elim, .inl⟩
    cases e with
    | dat d =>
      refine Rep.lf (fun a o xs h => ?_) hl r
      have := tups (fun _ => False) a o xs (by rw [noZ]; exact h)
      rw [noZ] at this
      exact this
    | own ds =>
      obtain ⟨a, xs, rfl, h1, h2, h3⟩ := r
      exact ⟨a, xs, rfl, h1, h2, RepAll.lf (tups fun b => b = a) hl h3⟩
  · rw [if_neg hl]
    exact ⟨f, r, S.settled vs⟩
/-- more in sight -/
theorem RepE.less {P P' : Addr → Prop} (h : RepE p P H H' e v) (s : ∀ b, P' b → P b) : RepE p P' H H' e v := by
  cases e with
  | dat d => exact Rep.up (fun a o _ z => hide_less s a o z) h
  | own ds =>
    obtain ⟨a, xs, rfl, h1, h2, h3⟩ := h
    exact ⟨a, xs, rfl, h1, h2, RepAll.up (fun b o _ z => hide_less (fun c w => w.imp (s c) id) b o z) h3⟩
/-- the address of an own list -/
def OwnV : EV → V → Addr → Prop
  | .own _, v, a => v = .ref a
  | .dat _, _, _ => False
theorem hid_set {i : Nat} {b : Addr} (h : Hid P0 (ρ.set i (some e)) (σ.set i (some v)) b) : Hid P0 ρ σ b ∨ OwnV e v b := by
  rcases h with h | ⟨j, ⟨ds, h1⟩, h2⟩
  · exact .inl (.inl h)
  · by_cases hj : i = j
    · subst hj
      rw [List.getElem?_set] at h1 h2
      split at h1
      · split at h1
        · cases h1
          split at h2
          · split at h2
            · cases h2; exact .inr rfl
            · cases h2
          · rename_i z; exact absurd rfl z
        · cases h1
      · rename_i z; exact absurd rfl z
    · rw [List.getElem?_set_ne hj] at h1 h2
      exact .inl (.inr ⟨j, ⟨ds, h1⟩, h2⟩)
/-- a slot is stored -/
theorem Sl.set (S : Sl p H0 P0 H ρ σ) {i : Nat} (u : Up p.T H H') (r : RepE p (Hid P0 ρ σ) H H' e v) : Sl p H0 P0 H' (ρ.set i (some e)) (σ.set i (some v)) := by
  have nw : ∀ b, Hid P0 (ρ.set i (some e)) (σ.set i (some v)) b → Hid P0 ρ σ b ∨ H b = none := fun b h => by
    rcases hid_set h with h | h
    · exact .inl h
    · cases e with
      | dat d => exact h.elim
      | own ds =>
        obtain ⟨a, xs, rfl, h1, _⟩ := r
        cases h
        exact .inr h1
  have sn := later u nw
  have fresh : ∀ {a : Addr}, OwnV e v a → H a = none ∧ ∃ xs, H' a = some (.lst xs) := fun {a} h => by
    cases e with
    | dat d => exact h.elim
    | own ds =>
      obtain ⟨a', xs, rfl, h1, h2, _⟩ := r
      cases h
      exact ⟨h1, xs, h2⟩
  have oldA : ∀ {j a}, OwnS ρ σ j a → ∃ xs, H a = some (.lst xs) := fun {j a} h => by
    obtain ⟨⟨ds, h1⟩, h2⟩ := h
    obtain ⟨a', xs, e1, _, e3, _⟩ := S.own j ds h1
    rw [h2] at e1
    cases e1
    exact ⟨xs, e3⟩
  have cases_own : ∀ {j a}, OwnS (ρ.set i (some e)) (σ.set i (some v)) j a → (j ≠ i ∧ OwnS ρ σ j a) ∨ (j = i ∧ OwnV e v a) := fun {j a} h => by
    obtain ⟨⟨ds, h1⟩, h2⟩ := h
    by_cases hj : i = j
    · subst hj
      rw [List.getElem?_set] at h1 h2
      split at h1
      · split at h1
        · cases h1
          split at h2
          · split at h2
            · cases h2; exact .inr ⟨rfl, rfl⟩
            · cases h2
          · rename_i z; exact absurd rfl z
        · cases h1
      · rename_i z; exact absurd rfl z
    · rw [List.getElem?_set_ne hj] at h1 h2
      exact .inl ⟨fun z => hj z.symm, ⟨ds, h1⟩, h2⟩
  have less_of : ∀ b, Hid P0 (ρ.set i (some e)) (σ.set i (some v)) b → Hid P0 ρ σ b ∨ OwnV e v b := fun b h => hid_set h
  refine ⟨by rw [List.length_set, List.length_set, S.len], S.live, S.up.trans u, fun j d h => ?_, fun j ds h => ?_, fun j k a h1 h2 => ?_⟩
  · by_cases hj : i = j
    · subst hj
      rw [List.getElem?_set] at h
      split at h
      · split at h
        · rename_i hlt
          cases h
          rw [List.getElem?_set_self (by rw [← S.len]; exact hlt)]
          exact ⟨v, rfl, Rep.up (fun a o _ z => hide_less (fun b w => (less_of b w).elim id fun z => z.elim) a o z) r⟩
        · cases h
      · rename_i z; exact absurd rfl z
    · rw [List.getElem?_set_ne hj] at h ⊢
      obtain ⟨v', e1, e2⟩ := S.dat j d h
      exact ⟨v', e1, Rep.up sn e2⟩
  · by_cases hj : i = j
    · subst hj
      rw [List.getElem?_set] at h
      split at h
      · split at h
        · rename_i hlt
          cases h
          rw [List.getElem?_set_self (by rw [← S.len]; exact hlt)]
          obtain ⟨a, xs, rfl, h1, h2, h3⟩ := r
          exact ⟨a, xs, rfl, S.up.no a h1, h2, RepAll.up (fun b o _ z => hide_less (fun c w => (less_of c w).imp id fun z => by cases z; rfl) b o z) h3⟩
        · cases h
      · rename_i z; exact absurd rfl z
    · rw [List.getElem?_set_ne hj] at h ⊢
      obtain ⟨a, xs, e1, e2, e3, e4⟩ := S.own j ds h
      exact ⟨a, xs, e1, e2, u.sq _ _ sq_lst e3, RepAll.up sn e4⟩
  · rcases cases_own h1 with ⟨n1, h1⟩ | ⟨n1, h1⟩ <;> rcases cases_own h2 with ⟨n2, h2⟩ | ⟨n2, h2⟩
    · exact S.one j k a h1 h2
    · obtain ⟨xs, e1⟩ := oldA h1
      rw [(fresh h2).1] at e1; cases e1
    · obtain ⟨xs, e1⟩ := oldA h2
      rw [(fresh h1).1] at e1; cases e1
    · rw [n1, n2]
theorem StR.set (S : StR p H0 P0 H ρ φ σ) {i : Nat} (u : Up p.T H H') (f : FO p φ' (hide (Hid P0 ρ σ) H')) (r : RepE p (Hid P0 ρ σ) H H' e v) : StR p H0 P0 H' (ρ.set i (some e)) φ' (σ.set i (some v)) := by
  refine ⟨S.sl.set u r, f.see (fun z => ?_) (fun z => ?_) (S.fo.e.up (later u fun b h => (hid_set h).imp id fun h => ?_)), u.tab S.tb⟩
  · rcases hid_set z with z | z
    · exact S.fo.nfa.1 z
    · cases e with
      | dat d => exact z
      | own ds => obtain ⟨a, xs, rfl, h1, _⟩ := r; cases z; exact S.fo.nfa.2 h1
  · rcases hid_set z with z | z
    · exact S.fo.nca.1 z
    · cases e with
      | dat d => exact z
      | own ds => obtain ⟨a, xs, rfl, h1, _⟩ := r; cases z; exact S.fo.nca.2 h1
  · cases e with
    | dat d => exact h.elim
    | own ds => obtain ⟨a, xs, rfl, h1, _⟩ := r; cases h; exact h1
theorem seen_set {i : Nat} (u : Up p.T H H') (r : RepE p (Hid P0 ρ σ) H H' e v) : Seen (Hid P0 ρ σ) H (Hid P0 (ρ.set i (some e)) (σ.set i (some v))) H' := later u fun b h => by
  rcases hid_set h with h | h
  · exact .inl h
  · cases e with
    | dat d => exact h.elim
    | own ds =>
      obtain ⟨a, xs, rfl, h1, _⟩ := r
      cases h
      exact .inr h1
theorem seen_less {P P' : Addr → Prop} (s : ∀ b, P' b → P b) : Seen P H P' H := fun a o _ z => hide_less s a o z
theorem seen_ex {P : Addr → Prop} (e : Ext H H') : Seen P H P H' := hide_ex e
theorem seen_up {Tb : List (Addr × Str)} {P : Addr → Prop} (u : Up Tb H H') : Seen P H P H' := hide_up u
theorem aft_less : ∀ b, Hid P0 (aft vs e ρ) σ b → Hid P0 ρ σ b := fun b h => by
  unfold aft at h
  split at h
  · exact h
  · exact hid_settle b h
end
end VI
namespace VI
open PySem PySem.Spec PyProof.Rows L2
def EndOk (p : Pr) (H0 : Hp) (P0 : Addr → Prop) (D : Ends) (P : Addr → Prop) (H : Hp) : Fl × EnvS × FS → Prop
  | (.nx, ρ', φ') => ∀ (σ' : L2.St) (H' : Hp), StR p H0 P0 H' ρ' φ' σ' → Seen P H (Hid P0 ρ' σ') H' → D.nx σ' H'
  | (.bk, ρ', φ') => ∀ (σ' : L2.St) (H' : Hp), StR p H0 P0 H' ρ' φ' σ' → Seen P H (Hid P0 ρ' σ') H' → D.bk σ' H'
  | (.ct, ρ', φ') => ∀ (σ' : L2.St) (H' : Hp), StR p H0 P0 H' ρ' φ' σ' → Seen P H (Hid P0 ρ' σ') H' → D.ct σ' H'
  | (.ret e, _, φ') => ∀ (v : V) (H' : Hp), Up p.T H0 H' → FO p φ' (hide P0 H') → RepE p P0 H0 H' e v → D.rt v H'
def tS (p : Pr) (m : MS) : L2.TS := fun D σ H => ∃ H0 P0 ρ φ r, StR p H0 P0 H ρ φ σ ∧ m ρ φ = .ok r ∧ EndOk p H0 P0 D (Hid P0 ρ σ) H r
def DS (X : Cx) (q : Pk) (st : Stmt) (m : MS) : Prop := PS X st (tS (q.at X.K) m)
def DSs (X : Cx) (q : Pk) (st : List Stmt) (m : MS) : Prop := PSs X st (tS (q.at X.K) m)
theorem ps_imp {X : Cx} {st : Stmt} {t t' : L2.TS} (h : PS X st t) (w : ∀ D σ H, t' D σ H → t D σ H) : PS X st t' := ⟨fun pins s σ H D I z => h.run pins s σ H D I (w _ _ _ z)⟩
theorem pss_imp {X : Cx} {st : List Stmt} {t t' : L2.TS} (h : PSs X st t) (w : ∀ D σ H, t' D σ H → t D σ H) : PSs X st t' := ⟨fun pins s σ H D I z => h.run pins s σ H D I (w _ _ _ z)⟩
theorem EndOk.seen {p : Pr} {H0 : Hp} {P0 : Addr → Prop} {D : Ends} {P P1 : Addr → Prop} {H H1 : Hp} {r : Fl × EnvS × FS} (h : EndOk p H0 P0 D P H r) (s : Seen P H P1 H1) : EndOk p H0 P0 D P1 H1 r := by
  obtain ⟨fl, ρ', φ'⟩ := r
  cases fl with
  | nx => exact fun σ' H' a b => h σ' H' a (s.trans b)
  | bk => exact fun σ' H' a b => h σ' H' a (s.trans b)
  | ct => exact fun σ' H' a b => h σ' H' a (s.trans b)
  | ret e => exact h
def nxM : MS := fun ρ φ => .ok (.nx, ρ, φ)
def badM : MS := fun _ _ => .bad
def seqM (m1 m2 : MS) : MS := fun ρ φ => (m1 ρ φ).bind fun r => match r.1 with
  | .nx => m2 r.2.1 r.2.2
  | _ => .ok r
section
variable {X : Cx} {q : Pk} {st : Stmt} {rest : List Stmt} {m m1 m2 : MS} {pos : Pos}
theorem dss_nil : DSs X q [] nxM := pss_imp pss_nil fun D σ H w => by
  obtain ⟨H0, P0, ρ, φ, r, S, h, k⟩ := w
  cases h
  exact k σ H S fun _ _ _ z => z
theorem dss_one (h : DS X q st m) : DSs X q [st] m := pss_one h
theorem dss_cons (h1 : DS X q st m1) (h2 : DSs X q rest m2) : DSs X q (st :: rest) (seqM m1 m2) := pss_imp (pss_cons h1 h2) fun D σ H w => by
  obtain ⟨H0, P0, ρ, φ, r, S, h, k⟩ := w
  obtain ⟨⟨fl, ρ1, φ1⟩, h1, h⟩ := Res.bind_ok h
  refine ⟨H0, P0, ρ, φ, (fl, ρ1, φ1), S, h1, ?_⟩
  cases fl with
  | nx => exact fun σ1 H1 S1 s1 => ⟨H0, P0, ρ1, φ1, r, S1, h, k.seen s1⟩
  | bk => cases h; exact k
  | ct => cases h; exact k
  | ret e => cases h; exact k
/-- what is never come to -/
theorem ds_bad : DS X q st badM := ps_imp ps_never fun D σ H w => by
  obtain ⟨H0, P0, ρ, φ, r, S, h, k⟩ := w
  cases h
theorem ds_pass : DS X q (.Pass pos) nxM := ps_imp ps_pass fun D σ H w => by
  obtain ⟨H0, P0, ρ, φ, r, S, h, k⟩ := w
  cases h
  exact k σ H S fun _ _ _ z => z
def bkM : MS := fun ρ φ => .ok (.bk, ρ, φ)
def ctM : MS := fun ρ φ => .ok (.ct, ρ, φ)
theorem ds_break : DS X q (.Break pos) bkM := ps_imp ps_break fun D σ H w => by
  obtain ⟨H0, P0, ρ, φ, r, S, h, k⟩ := w
  cases h
  exact k σ H S fun _ _ _ z => z
theorem ds_continue : DS X q (.Continue pos) ctM := ps_imp ps_continue fun D σ H w => by
  obtain ⟨H0, P0, ρ, φ, r, S, h, k⟩ := w
  cases h
  exact k σ H S fun _ _ _ z => z
def ifS (vs : List Nat) (mt : MT) (ma mb : MS) : MS := fun ρ φ => (mt (soft vs ρ) φ).bind fun r => if r.1 = true then ma ρ r.2 else mb ρ r.2
variable {c e : Expr} {a b : List Stmt} {mt : MT} {ma mb : MS} {me : ME}
theorem ds_if (vs : List Nat) (hc : DT X q c mt) (ha : DSs X q a ma) (hb : DSs X q b mb) : DS X q (.If c a b pos) (ifS vs mt ma mb) := ps_imp (ps_if hc ha hb) fun D σ H w => by
  obtain ⟨H0, P0, ρ, φ, r, S, h, k⟩ := w
  obtain ⟨⟨c1, φ1⟩, h1, h⟩ := Res.bind_ok h
  refine ⟨_, _, _, c1, φ1, S.moment vs, h1, fun H1 u1 f1 => ?_⟩
  have S1 : StR (q.at X.K) H0 P0 H1 ρ φ1 σ := S.upTo u1 (f1.see S.fo.nfa.1 S.fo.nca.1 (S.fo.e.up (hide_up u1)))
  cases c1 with
  | true => exact ⟨H0, P0, ρ, φ1, r, S1, h, k.seen (seen_up u1)⟩
  | false => exact ⟨H0, P0, ρ, φ1, r, S1, h, k.seen (seen_up u1)⟩
/-- the value is stored -/
def asgM (vs : List Nat) (i : Nat) (me : ME) : MS := fun ρ φ => (me (soft vs ρ) φ).bind fun r => if i < ρ.length then .ok (.nx, (aft vs r.1 ρ).set i (some r.1), r.2) else .bad
theorem ds_asg_of {i : Nat} {te : TE} (vs : List Nat) (h : PS X st (tAsg te (gName i))) (w : ∀ σ H Q, tD (q.at X.K) me σ H Q → te σ H Q) : DS X q st (asgM vs i me) := ps_imp h fun D σ H z => by
  obtain ⟨H0, P0, ρ, φ, r, S, h, k⟩ := z
  obtain ⟨⟨e1, φ1⟩, h1, h⟩ := Res.bind_ok h
  dsimp only at h
  split at h
  · cases h
    refine w σ H _ ⟨_, _, _, e1, φ1, S.moment vs, h1, fun v H1 u1 f1 r1 => ?_⟩
    obtain ⟨f2, r2, S2⟩ := S.behind u1 f1 r1
    exact k _ _ (S2.set u1 f2 r2) ((seen_less aft_less).trans (seen_set u1 r2))
  · cases h
theorem ds_set {i : Nat} {x : Str} {pos' : Pos} (vs : List Nat) (he : DE X q e me) (hN : X.N.Nodup) (hi : X.N[i]? = some x) (hx : Loc X.env.scope x) (hs : swapsWith e (some (.Name x pos')) pos.line X.env = pure false)
    (hf : X.fn x = true ∨ X.env.scope.names.lookup x = some .local) : DS X q (.Assign [.Name x pos'] e pos) (asgM vs i me) :=
  ds_asg_of vs (ps_set hN hi hx he hs hf) fun _ _ _ z => z
def Pn (P : Addr → Prop) (e : EV) (v : V) : Addr → Prop := fun b => P b ∨ OwnV e v b
def RepEs (p : Pr) : (Addr → Prop) → Hp → Hp → List EV → List V → Prop
  | _, _, _, [], vs => vs = []
  | P, H0, H, e :: es, vs => ∃ v r H1, vs = v :: r ∧ Up p.T H0 H1 ∧ Up p.T H1 H ∧ RepE p P H0 H1 e v ∧ RepEs p (Pn P e v) H1 H es r
abbrev MAE := Env' → FS → Res (List EV × FS)
def tDAE (p : Pr) (m : MAE) : TA := fun σ H Q => ∃ P ρ φ es φ', At p P H ρ φ σ ∧ m ρ φ = .ok (es, φ') ∧ ∀ vs H', Up p.T H H' → FO p φ' (hide P H') → RepEs p P H H' es vs → Q vs H'
def DAE (X : Cx) (q : Pk) (es : List Expr) (m : MAE) : Prop := PA X es (tDAE (q.at X.K) m)
def nilE : MAE := fun _ φ => .ok ([], φ)
def consE (m : ME) (ms : MAE) : MAE := fun ρ φ => (m ρ φ).bind fun r => (ms ρ r.2).bind fun r2 => .ok (r.1 :: r2.1, r2.2)
variable {es : List Expr} {ms : MAE}
theorem dae_nil : DAE X q [] nilE := pa_nil.imp fun σ H Q w => by
  obtain ⟨P, ρ, φ, e, φ', a, h, k⟩ := w
  cases h
  exact k [] H (Up.refl H) a.fo rfl
theorem dae_cons (ha : DE X q e me) (hs : DAE X q es ms) (hst : starEach (e :: es) X.env = (false, eval e X.env) :: starEach es X.env) : DAE X q (e :: es) (consE me ms) := (pa_cons ha hs hst).imp fun σ H Q w => by
  obtain ⟨P, ρ, φ, e, φ', a, h, k⟩ := w
  obtain ⟨⟨e1, φ1⟩, h1, h⟩ := Res.bind_ok h
  obtain ⟨⟨e2, φ2⟩, h2, h⟩ := Res.bind_ok h
  cases h
  refine part a h1 fun v H1 a1 u1 r1 => ?_
  have nw : ∀ b, Pn P e1 v b → P b ∨ H b = none := fun b hb => by
    rcases hb with hb | hb
    · exact .inl hb
    · cases e1 with
      | dat d => exact hb.elim
      | own ds => obtain ⟨c, xs, rfl, g1, _⟩ := r1; cases hb; exact .inr g1
  have lv : Live (Pn P e1 v) H1 := fun b hb => by
    rcases hb with hb | hb
    · exact a1.live b hb
    · cases e1 with
      | dat d => exact hb.elim
      | own ds => obtain ⟨c, xs, rfl, _, g2, _⟩ := r1; cases hb; rw [g2]; intro z; cases z
  have f2 : FO (q.at X.K) φ1 (hide (Pn P e1 v) H1) := a1.fo.see (fun z => (nw _ z).elim a.fo.nfa.1 a.fo.nfa.2) (fun z => (nw _ z).elim a.fo.nca.1 a.fo.nca.2) (a.fo.e.up (later u1 nw))
  refine ⟨Pn P e1 v, ρ, φ1, e2, φ2, ⟨lv, a.env.up (later u1 nw), f2, u1.tab a.tb⟩, h2, fun vs H2 u2 f3 r2 => ?_⟩
  exact k (v :: vs) H2 (u1.trans u2) (f3.less fun b z => .inl z) ⟨v, vs, H1, rfl, u1, u2, r1, r2⟩
theorem RepEs.less {p : Pr} : ∀ {es : List EV} {vs : List V} {P P' : Addr → Prop} {H0 H : Hp}, RepEs p P H0 H es vs → (∀ b, P' b → P b) → RepEs p P' H0 H es vs
  | [], _, _, _, _, _, h, _ => h
  | _ :: _, _, _, _, _, _, h, s => by
    obtain ⟨v, r, H1, rfl, u0, u1, r1, r2⟩ := h
    exact ⟨v, r, H1, rfl, u0, u1, r1.less s, r2.less fun b z => z.imp (s b) id⟩
def setsE : List Nat → List EV → EnvS → EnvS
  | i :: is, e :: es, ρ => setsE is es (ρ.set i (some e))
  | _, _, ρ => ρ
def setsV : List Nat → List V → L2.St → L2.St
  | i :: is, v :: vs, σ => setsV is vs (σ.set i (some v))
  | _, _, σ => σ
theorem Sl.sets {p : Pr} {H0 : Hp} {P0 : Addr → Prop} : ∀ {is : List Nat} {es : List EV} {vs : List V} {H H' : Hp} {ρ : EnvS} {σ : L2.St}, Sl p H0 P0 H ρ σ → Up p.T H H' → RepEs p (Hid P0 ρ σ) H H' es vs → is.length = es.length →
    Sl p H0 P0 H' (setsE is es ρ) (setsV is vs σ) ∧ ∀ b, Hid P0 (setsE is es ρ) (setsV is vs σ) b → Hid P0 ρ σ b ∨ H b = none
  | [], [], vs, H, H', ρ, σ, S, u, r, _ => by
    cases r
    refine ⟨⟨S.len, S.live, S.up.trans u, fun i d h => ?_, fun i ds h => ?_, S.one⟩, fun b h => .inl h⟩
    · obtain ⟨v, e1, e2⟩ := S.dat i d h
      exact ⟨v, e1, Rep.up (hide_up u) e2⟩
    · obtain ⟨a, xs, e1, e2, e3, e4⟩ := S.own i ds h
      exact ⟨a, xs, e1, e2, u.sq _ _ sq_lst e3, RepAll.up (hide_up u) e4⟩
  | [], _ :: _, _, _, _, _, _, _, _, _, h => by cases h
  | _ :: _, [], _, _, _, _, _, _, _, _, h => by cases h
  | i :: is, e :: es, vs, H, H', ρ, σ, S, u, r, hl => by
    obtain ⟨v, r', H1, rfl, u0, u1, r1, r2⟩ := r
    have S1 := S.set (i := i) u0 r1
    obtain ⟨S2, n2⟩ := Sl.sets (is := is) S1 u1 (r2.less fun b z => hid_set z) (Nat.succ.inj hl)
    refine ⟨S2, fun b h => ?_⟩
    rcases n2 b h with h | h
    · rcases hid_set h with h | h
      · exact .inl h
      · cases e with
        | dat d => exact h.elim
        | own ds => obtain ⟨c, xs, rfl, g1, _⟩ := r1; cases h; exact .inr g1
    · exact .inr (u0.no b h)
/-- behind several stores -/
theorem StR.sets {p : Pr} {H0 : Hp} {P0 : Addr → Prop} {is : List Nat} {es : List EV} {vs : List V} {H H' : Hp} {ρ : EnvS} {φ φ' : FS} {σ : L2.St} (S : StR p H0 P0 H ρ φ σ) (u : Up p.T H H') (r : RepEs p (Hid P0 ρ σ) H H' es vs) (hl : is.length = es.length)
    (f : FO p φ' (hide (Hid P0 ρ σ) H')) : StR p H0 P0 H' (setsE is es ρ) φ' (setsV is vs σ) ∧ Seen (Hid P0 ρ σ) H (Hid P0 (setsE is es ρ) (setsV is vs σ)) H' := by
  obtain ⟨S1, n1⟩ := S.sl.sets (is := is) u r hl
  exact ⟨⟨S1, f.see (fun z => (n1 _ z).elim S.fo.nfa.1 S.fo.nfa.2) (fun z => (n1 _ z).elim S.fo.nca.1 S.fo.nca.2) (S.fo.e.up (later u n1)), u.tab S.tb⟩, later u n1⟩
def parM (vs is : List Nat) (ms : MAE) : MS := fun ρ φ => (ms (soft vs ρ) φ).bind fun r => if is.length = r.1.length then .ok (.nx, setsE is r.1 (settle vs ρ), r.2) else .bad
theorem ds_par_of {t : L2.TS} {is : List Nat} (vs : List Nat) (h : PS X st t) (w : ∀ (D : Ends) (σ : L2.St) (H : Hp), tDAE (q.at X.K) ms σ H (fun xs H1 => xs.length = is.length ∧ ∀ H2, Ext H1 H2 → D.nx (setsV is xs σ) H2) → t D σ H) :
    DS X q st (parM vs is ms) := ps_imp h fun D σ H z => by
  obtain ⟨H0, P0, ρ, φ, r, S, h, k⟩ := z
  obtain ⟨⟨es, φ1⟩, h1, h⟩ := Res.bind_ok h
  dsimp only at h
  split at h
  · rename_i hl
    cases h
    refine w D σ H ⟨_, _, _, es, φ1, S.moment vs, h1, fun xs H1 u1 f1 r1 => ⟨?_, fun H2 x2 => ?_⟩⟩
    · have : ∀ {es : List EV} {xs : List V} {P : Addr → Prop} {H H1 : Hp}, RepEs (q.at X.K) P H H1 es xs → xs.length = es.length := by
        intro es
        induction es with
        | nil => intro xs P H H1 r; cases r; rfl
        | cons e es ih => intro xs P H H1 r; obtain ⟨v, r', H2, rfl, _, _, _, r2⟩ := r; rw [List.length_cons, List.length_cons, ih r2]
      rw [this r1, hl]
    · have ups : ∀ {es : List EV} {xs : List V} {P : Addr → Prop} {H : Hp}, RepEs (q.at X.K) P H H1 es xs → RepEs (q.at X.K) P H H2 es xs := by
        intro es
        induction es with
        | nil => intro xs P H r; exact r
        | cons e es ih => intro xs P H r; obtain ⟨v, r', H3, rfl, a1, a2, a3, r2⟩ := r; exact ⟨v, r', H3, rfl, a1, a2.trans x2.up, a3, ih r2⟩
      obtain ⟨S2, s2⟩ := (S.settled vs).sets (is := is) (u1.trans x2.up) (ups r1) hl (f1.ext (hide_ext x2))
      exact k _ _ S2 ((seen_less hid_settle).trans s2)
  · cases h
theorem setsV_gAll {D : Ends} : ∀ {is : List Nat} {xs : List V} {σ : L2.St} {H : Hp}, xs.length = is.length → D.nx (setsV is xs σ) H → gAll is xs σ H D.nx
  | [], [], _, _, _, h => ⟨rfl, h⟩
  | [], _ :: _, _, _, h, _ => by cases h
  | _ :: _, [], _, _, h, _ => by cases h
  | i :: is, x :: xs, σ, H, h, k => ⟨x, xs, rfl, setsV_gAll (is := is) (Nat.succ.inj h) k⟩
/-- a, b = x, y of locals -/
theorem ds_par2 {i j : Nat} {x y : Str} {a b : Expr} {px py pt : Pos} {kt k2 pt2} (vs : List Nat) (hc : X.calm = true) (hN : X.N.Nodup) (hi : X.N[i]? = some x) (hj : X.N[j]? = some y) (hij : i ≠ j)
    (hx : X.env.scope.names.lookup x = some .local) (hy : X.env.scope.names.lookup y = some .local) (ha : DAE X q [a, b] ms)
    (hw : swappedStores [.Tuple [.Name x px, .Name y py] kt pt] (.Tuple [a, b] k2 pt2) X.env = pure (some [x, y]))
    (hs : swapsWithSole [.Tuple [.Name x px, .Name y py] kt pt] (.Tuple [a, b] k2 pt2) pos.line X.env = pure false := by rfl) :
    DS X q (.Assign [.Tuple [.Name x px, .Name y py] kt pt] (.Tuple [a, b] k2 pt2) pos) (parM vs [i, j] ms) :=
  ds_par_of vs (ps_par hc hN hi hj hij hx hy ha hw hs) fun D σ H w => by
    obtain ⟨P, ρ, φ, es, φ', a, h, k⟩ := w
    refine ⟨P, ρ, φ, es, φ', a, h, fun xs H1 u f r => ?_⟩
    obtain ⟨hl, kk⟩ := k xs H1 u f r
    match xs, hl with
    | [v1, v2], _ => exact ⟨v1, v2, rfl, kk H1 (Ext.refl H1)⟩
theorem ds_par3 {i j l : Nat} {x y z : Str} {a b c : Expr} {px py pz pt : Pos} {kt k2 pt2} (vs : List Nat) (hc : X.calm = true) (hN : X.N.Nodup) (hi : X.N[i]? = some x) (hj : X.N[j]? = some y) (hl : X.N[l]? = some z) (hij : i ≠ j) (hil : i ≠ l) (hjl : j ≠ l)
    (hx : X.env.scope.names.lookup x = some .local) (hy : X.env.scope.names.lookup y = some .local) (hz : X.env.scope.names.lookup z = some .local) (ha : DAE X q [a, b, c] ms)
    (hw : swappedStores [.Tuple [.Name x px, .Name y py, .Name z pz] kt pt] (.Tuple [a, b, c] k2 pt2) X.env = pure (some [x, y, z]))
    (hs : swapsWithSole [.Tuple [.Name x px, .Name y py, .Name z pz] kt pt] (.Tuple [a, b, c] k2 pt2) pos.line X.env = pure false := by rfl) :
    DS X q (.Assign [.Tuple [.Name x px, .Name y py, .Name z pz] kt pt] (.Tuple [a, b, c] k2 pt2) pos) (parM vs [i, j, l] ms) :=
  ds_par_of vs (ps_par3 hc hN hi hj hl hij hil hjl hx hy hz ha hw hs) fun D σ H w => by
    obtain ⟨P, ρ, φ, es, φ', a, h, k⟩ := w
    refine ⟨P, ρ, φ, es, φ', a, h, fun xs H1 u f r => ?_⟩
    obtain ⟨hl, kk⟩ := k xs H1 u f r
    match xs, hl with
    | [v1, v2, v3], _ => exact ⟨v1, v2, v3, rfl, kk H1 (Ext.refl H1)⟩
/-- a, b = x, y by a tuple in between -/
theorem ds_parT {tg : Expr} {is : List Nat} {n : Nat} {pt2 : Pos} (vs : List Nat) (ha : DAE X q es ms) (hg : PG X tg (gTup X.K is.length (gAll is))) (hw : swappedStores [tg] (.Tuple es n pt2) X.env = pure none)
    (hs : swapsWithSole [tg] (.Tuple es n pt2) pos.line X.env = pure false) (h1 : (assignEach [tg] X.env).map (·.2) = [assign tg X.env]) (hlen : is.length ≤ 1000) :
    DS X q (.Assign [tg] (.Tuple es n pt2) pos) (parM vs is ms) :=
  ds_par_of vs (ps_asg (pe_tupN ha) hg hs hw h1) fun D σ H w => by
    obtain ⟨P, ρ, φ, es, φ', a, h, k⟩ := w
    refine ⟨P, ρ, φ, es, φ', a, h, fun xs H1 u f r => ?_⟩
    obtain ⟨hl, kk⟩ := k xs H1 u f r
    refine ⟨by rw [hl]; exact Nat.le_of_lt (small1000 hlen), fun t o nt hd => ⟨t, xs, rfl, .inl (.inr ⟨o, upd_same⟩), hl, setsV_gAll hl (kk _ (Ext.new nt))⟩⟩
/-- a, b = a tuple -/
def unpM (vs is : List Nat) (me : ME) : MS := fun ρ φ => (me (soft vs ρ) φ).bind fun r => match r.1 with
  | .dat (.tuple ds) => if is.length = ds.length then .ok (.nx, setsE is (ds.map .dat) (aft vs r.1 ρ), r.2) else .bad
  | _ => .bad
theorem repEs_dats {p : Pr} {P : Addr → Prop} : ∀ {ds : List D} {vs : List V} {H H' : Hp}, Up p.T H H' → RepAll p (hide P H') ds vs → RepEs p P H H' (ds.map .dat) vs
  | [], _, _, _, _, r => r
  | d :: ds, _, H, H', u, r => by
    obtain ⟨v, r', rfl, r1, r2⟩ := r
    refine ⟨v, r', H', rfl, u, Up.refl H', r1, ?_⟩
    have e : Pn P (.dat d) v = P := by
      funext b
      exact propext ⟨fun z => z.elim id False.elim, .inl⟩
    rw [e]
    exact repEs_dats (Up.refl H') r2
theorem ds_unp {tg : Expr} {is : List Nat} (vs : List Nat) (he : DE X q e me) (hg : PG X tg (gTup X.K is.length (gAll is))) (hw : swappedStores [tg] e X.env = pure none)
    (hs : swapsWithSole [tg] e pos.line X.env = pure false) (h1 : (assignEach [tg] X.env).map (·.2) = [assign tg X.env]) : DS X q (.Assign [tg] e pos) (unpM vs is me) := ps_imp (ps_asg he hg hs hw h1) fun D σ H z => by
  obtain ⟨H0, P0, ρ, φ, r, S, h, k⟩ := z
  obtain ⟨⟨e1, φ1⟩, h1, h⟩ := Res.bind_ok h
  dsimp only at h
  split at h
  · rename_i ds
    split at h
    · rename_i hl
      cases h
      refine ⟨_, _, _, _, φ1, S.moment vs, h1, fun v H1 u1 f1 r1 => ?_⟩
      obtain ⟨f2, r2, S2⟩ := S.behind u1 f1 r1
      have r3 := r2
      obtain ⟨t, xs, rfl, g1, g2⟩ := r2
      have ln : xs.length = is.length := by rw [g2.len, hl]
      obtain ⟨S3, s3⟩ := S2.sets (is := is) u1 (repEs_dats u1 g2) (by rw [List.length_map, hl]) f2
      exact ⟨t, xs, rfl, (TupN.at g1 fun c o _ z => (hide_of z).2).sq, ln, setsV_gAll ln (k _ _ S3 ((seen_less aft_less).trans s3))⟩
    · cases h
  · cases h
def retM (vs : List Nat) (me : ME) : MS := fun ρ φ => (me (soft vs ρ) φ).bind fun r => .ok (.ret r.1, ρ, r.2)
theorem ds_ret (vs : List Nat) (he : DE X q e me) : DS X q (.Return (some e) pos) (retM vs me) := ps_imp (ps_ret he) fun D σ H z => by
  obtain ⟨H0, P0, ρ, φ, r, S, h, k⟩ := z
  obtain ⟨⟨e1, φ1⟩, h1, h⟩ := Res.bind_ok h
  cases h
  refine ⟨_, _, _, e1, φ1, S.moment vs, h1, fun v H1 u1 f1 r1 => ?_⟩
  exact k v H1 (S.sl.up.trans u1) (f1.less fun b z => .inl z) ((r1.less fun b z => .inl z).old S.sl.up)
/-- a name is handed back -/
def retV (i : Nat) : MS := fun ρ φ => match ρ[i]? with
  | some (some e) => .ok (.ret e, ρ, φ)
  | _ => .bad
theorem ds_retV {i : Nat} (he : PE X e (tVar i)) : DS X q (.Return (some e) pos) (retV i) := ps_imp (ps_ret he) fun D σ H z => by
  obtain ⟨H0, P0, ρ, φ, r, S, h, k⟩ := z
  unfold retV at h
  split at h
  · rename_i e1 he1
    cases h
    cases e1 with
    | dat d =>
      obtain ⟨v, e2, e3⟩ := S.sl.dat i d he1
      exact ⟨v, e2, k v H S.sl.up (S.fo.less fun b z => .inl z) (Rep.up (fun a o _ z => hide_less (fun b w => .inl w) a o z) e3)⟩
    | own ds =>
      obtain ⟨a, xs, e2, e3, e4, e5⟩ := S.sl.own i ds he1
      refine ⟨.ref a, e2, k _ H S.sl.up (S.fo.less fun b z => .inl z) ⟨a, xs, rfl, e3, e4, RepAll.up (fun b o _ z => hide_less (fun c w => ?_) b o z) e5⟩⟩
      rcases w with w | w
      · exact .inl w
      · rw [w]; exact .inr ⟨i, ⟨ds, he1⟩, e2⟩
  · cases h
def retN : MS := fun ρ φ => .ok (.ret (.dat .none), ρ, φ)
theorem ds_retN : DS X q (.Return none pos) retN := ps_imp ps_retN fun D σ H z => by
  obtain ⟨H0, P0, ρ, φ, r, S, h, k⟩ := z
  cases h
  exact k .non H S.sl.up (S.fo.less fun b z => .inl z) rfl
def dropM (vs : List Nat) (me : ME) : MS := fun ρ φ => (me (soft vs ρ) φ).bind fun r => .ok (.nx, ρ, r.2)
theorem ds_drop (vs : List Nat) (he : DE X q e me) (hs : swapsWith e none pos.line X.env = pure false) : DS X q (.Expr e pos) (dropM vs me) := ps_imp (ps_expr he hs) fun D σ H z => by
  obtain ⟨H0, P0, ρ, φ, r, S, h, k⟩ := z
  obtain ⟨⟨e1, φ1⟩, h1, h⟩ := Res.bind_ok h
  cases h
  refine ⟨_, _, _, e1, φ1, S.moment vs, h1, fun v H1 u1 f1 r1 => ?_⟩
  exact k _ _ (S.upTo u1 (f1.see S.fo.nfa.1 S.fo.nca.1 (S.fo.e.up (hide_up u1)))) (seen_up u1)
def pushAt (i : Nat) (d : D) (ρ : EnvS) : Option EnvS := match ρ[i]? with
  | some (some (.own ds)) => if ds.length < 1000000 then some (ρ.set i (some (.own (ds ++ [d])))) else none
  | _ => none
def appendM (vs : List Nat) (i : Nat) (me : ME) : MS := fun ρ φ => (me (soft vs ρ) φ).bind fun r => match pushAt i r.1.toD (aft vs r.1 ρ) with
  | some ρ' => .ok (.nx, ρ', r.2)
  | none => .bad
/-- an own list changes -/
theorem StR.change {p : Pr} {H0 : Hp} {P0 : Addr → Prop} {H : Hp} {ρ : EnvS} {φ : FS} {σ : L2.St} {i : Nat} {ds es : List D} {a : Addr} {ys : List V} (S : StR p H0 P0 H ρ φ σ) (hi : ρ[i]? = some (some (.own ds))) (ha : σ[i]? = some (some (.ref a)))
    (r : RepAll p (hide (Hid P0 ρ σ) H) es ys) : StR p H0 P0 (upd H a (.lst ys)) (ρ.set i (some (.own es))) φ σ ∧ Seen (Hid P0 ρ σ) H (Hid P0 (ρ.set i (some (.own es))) σ) (upd H a (.lst ys)) := by
  have own_iff : ∀ j b, OwnS (ρ.set i (some (.own es))) σ j b ↔ OwnS ρ σ j b := fun j b => by
    have hlt : i < ρ.length := (List.getElem?_eq_some_iff.mp hi).1
    by_cases hj : i = j
    · subst hj
      constructor
      · rintro ⟨_, h2⟩; exact ⟨⟨ds, hi⟩, h2⟩
      · rintro ⟨_, h2⟩; exact ⟨⟨es, List.getElem?_set_self hlt⟩, h2⟩
    · constructor
      · rintro ⟨⟨x, h1⟩, h2⟩; rw [List.getElem?_set_ne hj] at h1; exact ⟨⟨x, h1⟩, h2⟩
      · rintro ⟨⟨x, h1⟩, h2⟩; exact ⟨⟨x, by rw [List.getElem?_set_ne hj]; exact h1⟩, h2⟩
  have hid_eq : Hid P0 (ρ.set i (some (.own es))) σ = Hid P0 ρ σ := by
    funext b
    exact propext ⟨fun z => z.imp id fun ⟨j, h⟩ => ⟨j, (own_iff j b).mp h⟩, fun z => z.imp id fun ⟨j, h⟩ => ⟨j, (own_iff j b).mpr h⟩⟩
  have hidA : Hid P0 ρ σ a := .inr ⟨i, ⟨ds, hi⟩, ha⟩
  have same : hide (Hid P0 ρ σ) (upd H a (.lst ys)) = hide (Hid P0 ρ σ) H := hide_upd hidA
  obtain ⟨xL, hL⟩ : ∃ xs, H a = some (.lst xs) := by
    obtain ⟨a', xs, e1, e2, e3, _⟩ := S.sl.own i ds hi
    rw [ha] at e1
    cases e1
    exact ⟨xs, e3⟩
  have n0 : H0 a = none := by
    obtain ⟨a', xs, e1, e2, _⟩ := S.sl.own i ds hi
    rw [ha] at e1
    cases e1
    exact e2
  rw [hid_eq]
  refine ⟨⟨⟨by rw [List.length_set]; exact S.sl.len, S.sl.live, ⟨fun b o s h => ?_, fun b h => ?_, fun t => tabs_lst (S.sl.up.tab t) hL⟩, fun j d h => ?_, fun j d h => ?_, fun j k b h1 h2 => S.sl.one j k b ((own_iff j b).mp h1) ((own_iff k b).mp h2)⟩, ?_, tabs_lst S.tb hL⟩, ?_⟩
  · have hb : b ≠ a := fun z => by rw [z, n0] at h; cases h
    rw [upd_ne hb]
    exact S.sl.up.sq b o s h
  · have hb : b ≠ a := fun z => by rw [z, upd_same] at h; cases h
    rw [upd_ne hb] at h
    exact S.sl.up.no b h
  · rw [hid_eq, same]
    by_cases hj : i = j
    · subst hj
      rw [List.getElem?_set_self (List.getElem?_eq_some_iff.mp hi).1] at h
      cases h
    · rw [List.getElem?_set_ne hj] at h
      exact S.sl.dat j d h
  · rw [hid_eq, same]
    by_cases hj : i = j
    · subst hj
      rw [List.getElem?_set_self (List.getElem?_eq_some_iff.mp hi).1] at h
      cases h
      exact ⟨a, ys, ha, n0, upd_same, r⟩
    · rw [List.getElem?_set_ne hj] at h
      obtain ⟨b, xs, e1, e2, e3, e4⟩ := S.sl.own j d h
      have hb : b ≠ a := fun z => hj (S.sl.one i j a ⟨⟨ds, hi⟩, ha⟩ ⟨⟨d, h⟩, by rw [← z]; exact e1⟩)
      exact ⟨b, xs, e1, e2, by rw [upd_ne hb]; exact e3, e4⟩
  · rw [hid_eq, same]
    exact S.fo
  · intro b o s h
    rw [same]
    exact h
theorem ds_append {i : Nat} {o : Expr} {apos epos : Pos} (vs : List Nat) (ho : PE X o (tVar i)) (he : DE X q e me)
    (hbase : attributeBase o "append" X.env (eval o X.env) = eval o X.env := by rfl)
    (hfew : ((backTo pos (starEach [e] X.env)).all (fun x => !x.1) && (backToKw pos (keywordEach [] X.env)).all (fun x => x.1.isSome) && decide ([e].length + ([] : List Keyword).length + (if ([] : List Keyword).isEmpty then 0 else 1) < 30)) = true := by rfl)
    (hline : (apos.endLine == pos.line) = true := by rfl) (hs : starEach [e] X.env = (false, eval e X.env) :: starEach [] X.env := by rfl) :
    DS X q (.Expr (.Call (.Attribute o "append" apos) [e] [] pos) epos) (appendM vs i me) :=
  ps_imp (ps_expr (pe_bm PySem.F.plainAttrs_list PySem.F.slot_list_append PySem.F.type_list_append mt_append ho (pa_cons he pa_nil hs) hbase hfew hline hs)) fun D σ H z => by
    obtain ⟨H0, P0, ρ, φ, r, S, h, k⟩ := z
    obtain ⟨⟨e1, φ1⟩, h1, h⟩ := Res.bind_ok h
    dsimp only at h
    split at h
    · rename_i ρ' hp
      cases h
      unfold pushAt at hp
      split at hp
      · rename_i ds hi
        split at hp
        · rename_i hz
          cases hp
          have hi0 : ρ[i]? = some (some (.own ds)) := by
            unfold aft at hi
            split at hi
            · exact hi
            · exact (settle_own hi).1
          obtain ⟨a, xs, e2, e3, e4, e5⟩ := S.sl.own i ds hi0
          refine ⟨.ref a, e2, .inl ⟨rfl, xs, SqL.of e4⟩, _, _, _, e1, φ1, S.moment vs, h1, fun v H1 u1 f1 r1 => ?_⟩
          obtain ⟨f2, r2, S2⟩ := S.behind u1 f1 r1
          have S3 := S2.upTo u1 f2
          obtain ⟨a', xs', g2, g3, g4, g5⟩ := S3.sl.own i ds hi
          rw [e2] at g2
          cases g2
          refine ⟨a, xs', v, rfl, rfl, g4, by rw [g5.len, sizeLine_eq]; omega, ?_⟩
          obtain ⟨S4, s4⟩ := S3.change hi e2 (RepAll.app g5 (RepAll.one (r2.rep S2.sl.liveH)))
          exact k _ _ S4 (((seen_less aft_less).trans (seen_up u1)).trans s4)
        · cases hp
      · cases hp
    · cases h
end
end VI
namespace VI
open PySem PySem.Spec PyProof.Rows L2
def DGS {α : Type} (X : Cx) (p : Pr) (tg : Expr) (R : RI α) (set : α → EnvS → Option EnvS) : Prop :=
  ∃ g, PG X tg g ∧ ∀ (H0 : Hp) (P0 : Addr → Prop) (H : Hp) (ρ : EnvS) (φ : FS) (σ : L2.St) (a : α) (v : V) (ρ' : EnvS) (Q : L2.St → Hp → Prop), StR p H0 P0 H ρ φ σ → R (Hid P0 ρ σ) H a v → set a ρ = some ρ' →
    (∀ σ', StR p H0 P0 H ρ' φ σ' → Seen (Hid P0 ρ σ) H (Hid P0 ρ' σ') H → Q σ' H) → g v σ H Q
def setNS (i : Nat) : D → EnvS → Option EnvS := fun d ρ => if i < ρ.length then some (ρ.set i (some (.dat d))) else none
def setTS (is : List Nat) : D → EnvS → Option EnvS
  | .tuple ds, ρ => if is.length = ds.length then some (setsE is (ds.map .dat) ρ) else none
  | _, _ => none
def setPS (i j : Nat) : D × D → EnvS → Option EnvS := fun d ρ => some (setsE [i, j] [.dat d.1, .dat d.2] ρ)
section
variable {X : Cx} {p : Pr} {tg : Expr} {i j : Nat}
theorem dgs_name (h : PG X tg (gName i)) : DGS X p tg (R1 p) (setNS i) := ⟨_, h, fun H0 P0 H ρ φ σ a v ρ' Q S r s k => by
  unfold setNS at s
  split at s
  · cases s
    have r' : RepE p (Hid P0 ρ σ) H H (.dat a) v := r
    exact k _ (S.set (Up.refl H) S.fo r') (seen_set (Up.refl H) r')
  · cases s⟩
theorem dgs_pair (h : PG X tg (gTup p.K 2 (gCons (gName i) (gCons (gName j) gNil)))) : DGS X p tg (R2 p) (setPS i j) := ⟨_, h, fun H0 P0 H ρ φ σ a v ρ' Q S r s k => by
  cases s
  obtain ⟨T, x, y, rfl, h1, r1, r2⟩ := r
  have ra : RepAll p (hide (Hid P0 ρ σ) H) [a.1, a.2] [x, y] := ⟨x, [y], rfl, r1, y, [], rfl, r2, rfl⟩
  obtain ⟨S1, s1⟩ := S.sets (is := [i, j]) (Up.refl H) (repEs_dats (Up.refl H) ra) rfl S.fo
  exact ⟨T, [x, y], rfl, h1, rfl, x, [y], rfl, y, [], rfl, rfl, k _ S1 s1⟩⟩
theorem dgs_tup {is : List Nat} (h : PG X tg (gTup p.K is.length (gAll is))) : DGS X p tg (R1 p) (setTS is) := ⟨_, h, fun H0 P0 H ρ φ σ a v ρ' Q S r s k => by
  cases a with
  | tuple ds =>
    have s : (if is.length = ds.length then some (setsE is (ds.map .dat) ρ) else none) = some ρ' := s
    split at s
    · rename_i hl
      cases s
      obtain ⟨c, xs, rfl, h1, h2⟩ := r
      obtain ⟨S1, s1⟩ := S.sets (is := is) (Up.refl H) (repEs_dats (Up.refl H) h2) (by rw [List.length_map, hl]) S.fo
      have ln : xs.length = is.length := by rw [h2.len, hl]
      have e : ∀ {is : List Nat} {xs : List V} {σ : L2.St}, xs.length = is.length → Q (setsV is xs σ) H → gAll is xs σ H Q := by
        intro is
        induction is with
        | nil => intro xs σ hl q; cases xs with
          | nil => exact ⟨rfl, q⟩
          | cons x xs => cases hl
        | cons i is ih => intro xs σ hl q; cases xs with
          | nil => cases hl
          | cons x xs => exact ⟨x, xs, rfl, ih (Nat.succ.inj hl) q⟩
      exact ⟨c, xs, rfl, (TupN.at h1 fun b o _ z => (hide_of z).2).sq, ln, e ln (k _ S1 s1)⟩
    · cases s
  | none => cases s
  | bool b => cases s
  | int i => cases s
  | str x => cases s
  | list ds => cases s
  | dict kv => cases s⟩
end
def forGo {α : Type} (set : α → EnvS → Option EnvS) (mb : MS) : List α → EnvS → FS → Res (Fl × EnvS × FS)
  | [], ρ, φ => .ok (.nx, ρ, φ)
  | a :: as, ρ, φ => match set a ρ with
    | none => .bad
    | some ρ1 => (mb ρ1 φ).bind fun r => match r.1 with
      | .nx => forGo set mb as r.2.1 r.2.2
      | .ct => forGo set mb as r.2.1 r.2.2
      | .bk => .ok (.nx, r.2)
      | .ret e => .ok (.ret e, r.2)
def forM {α : Type} (vs : List Nat) (mi : MI α) (set : α → EnvS → Option EnvS) (mb : MS) : MS := fun ρ φ => (mi (soft vs ρ) φ).bind fun r => forGo set mb r.1 (settle vs ρ) r.2
section
variable {X : Cx} {q : Pk} {tg iter : Expr} {body : List Stmt} {pos : Pos} {α : Type} {R : RI α} {mi : MI α} {set : α → EnvS → Option EnvS} {mb : MS}
theorem ds_for (vs : List Nat) (hp : PassesOwn (model X.prog X.w) X.A X.env X.xe) (hc : X.calm = true) (hi : DI X q tg iter R mi) (hg : DGS X (q.at X.K) tg R set) (hb : DSs X q body mb) (hs : ∀ x, foldedSetIterable iter X.env x = pure x) :
    DS X q (.For tg iter body [] pos) (forM vs mi set mb) := by
  obtain ⟨wi, h1, h2⟩ := hi
  obtain ⟨g, h3, h4⟩ := hg
  refine ps_imp (ps_for hp hc h1 h3 hb hs) fun D σ H z => ?_
  obtain ⟨H0, P0, ρ, φ, r, S, h, k⟩ := z
  obtain ⟨⟨as, φ1⟩, e1, h⟩ := Res.bind_ok h
  dsimp only at h
  refine h2 σ H _ ⟨_, _, _, as, φ1, S.moment vs, e1, fun J H1 u1 f1 it => ?_⟩
  have S1 : StR (q.at X.K) H0 P0 H1 (settle vs ρ) φ1 σ := (S.settled vs).upTo u1 f1
  have s1 : Seen (Hid P0 ρ σ) H (Hid P0 (settle vs ρ) σ) H1 := (seen_less hid_settle).trans (seen_up u1)
  refine ⟨fun i m σc Hc => m = as.length - i ∧ i ≤ as.length ∧ ∃ ρc φc, StR (q.at X.K) H0 P0 Hc ρc φc σc ∧ Seen (Hid P0 (settle vs ρ) σ) H1 (Hid P0 ρc σc) Hc ∧ forGo set mb (as.drop i) ρc φc = .ok r,
    ⟨as.length, by omega, Nat.zero_le _, settle vs ρ, φ1, S1, fun _ _ _ z => z, by rw [List.drop_zero]; exact h⟩, ?_⟩
  rintro i m σc Hc ⟨rfl, hi, ρc, φc, Sc, sc, hgo⟩
  obtain ⟨go, stop⟩ := it i Hc (Hid P0 ρc σc) sc
  by_cases hlt : i < as.length
  · obtain ⟨go1, go2⟩ := go as[i] (List.getElem?_eq_getElem hlt)
    rw [List.drop_eq_getElem_cons hlt] at hgo
    unfold forGo at hgo
    split at hgo
    · cases hgo
    · rename_i ρ1 hset
      obtain ⟨⟨fl, ρ2, φ2⟩, h3, hgo⟩ := Res.bind_ok hgo
      dsimp only at hgo
      refine .inr ⟨go1, fun σn Hn => ∃ ρc φc, StR (q.at X.K) H0 P0 Hn ρc φc σn ∧ Seen (Hid P0 (settle vs ρ) σ) H1 (Hid P0 ρc σn) Hn ∧ forGo set mb (as.drop (i + 1)) ρc φc = .ok r,
        fun σn Hn hn => ⟨as.length - (i + 1), by omega, rfl, hlt, hn⟩, fun x H2 hy => ?_⟩
      obtain ⟨x2, rx⟩ := go2 x H2 hy
      have S2 : StR (q.at X.K) H0 P0 H2 ρc φc σc := Sc.upTo x2.up (Sc.fo.ext (hide_ext x2))
      refine h4 H0 P0 H2 ρc φc σc as[i] x ρ1 _ S2 rx hset fun σ3 S3 s3 => ?_
      have s4 := (sc.trans (seen_ex x2)).trans s3
      refine ⟨H0, P0, ρ1, φc, (fl, ρ2, φ2), S3, h3, ?_⟩
      cases fl with
      | nx => exact fun σ5 H5 S5 s5 => ⟨ρ2, φ2, S5, s4.trans s5, hgo⟩
      | ct => exact fun σ5 H5 S5 s5 => ⟨ρ2, φ2, S5, s4.trans s5, hgo⟩
      | bk =>
        cases hgo
        exact fun σ5 H5 S5 s5 => k σ5 H5 S5 ((s1.trans s4).trans s5)
      | ret e =>
        cases hgo
        exact fun v H5 u5 f5 r5 => k v H5 u5 f5 r5
  · have ei : i = as.length := by omega
    subst ei
    rw [List.drop_length] at hgo
    cases hgo
    exact .inl ⟨stop (Nat.le_refl _), k σc Hc Sc (s1.trans sc)⟩
end
def startS (n : Nat) (ds : List D) : EnvS := ds.map (fun d => some (.dat d)) ++ List.replicate (n - ds.length) none
def fnM (n : Nat) (mb : MS) : MF := fun ds φ => (mb (startS n ds) φ).bind fun r => match r.1 with
  | .ret e => .ok (e, r.2.2)
  | .nx => .ok (.dat .none, r.2.2)
  | _ => .bad
theorem start_dat {n : Nat} {ds : List D} {i : Nat} {x : EV} (h : (startS n ds)[i]? = some (some x)) : ∃ d, ds[i]? = some d ∧ x = .dat d := by
  unfold startS at h
  by_cases hi : i < ds.length
  · rw [List.getElem?_append_left (by rw [List.length_map]; exact hi), List.getElem?_map, List.getElem?_eq_getElem hi] at h
    cases h
    exact ⟨_, List.getElem?_eq_getElem hi, rfl⟩
  · rw [List.getElem?_append_right (by rw [List.length_map]; omega), List.getElem?_replicate] at h
    split at h <;> cases h
theorem start_val {N : List Str} {vs : List V} {i : Nat} {v : V} (h : vs[i]? = some v) : (L2.start N vs)[i]? = some (some v) := by
  unfold L2.start
  have hi := (List.getElem?_eq_some_iff.mp h).1
  rw [List.getElem?_append_left (by rw [List.length_map]; exact hi), List.getElem?_map, h]
  rfl
theorem stR_start {p : Pr} {H : Hp} {P : Addr → Prop} {N : List Str} {ds : List D} {vs : List V} {φ : FS} (tb : LamX.Tabs p.T H) (l : Live P H) (f : FO p φ (hide P H)) (r : RepAll p (hide P H) ds vs) (hn : vs.length ≤ N.length) : StR p H P H (startS N.length ds) φ (L2.start N vs) := by
  have noown : ∀ i a, ¬ OwnS (startS N.length ds) (L2.start N vs) i a := fun i a ⟨⟨es, h⟩, _⟩ => by
    obtain ⟨d, _, e⟩ := start_dat h
    cases e
  have hid : Hid P (startS N.length ds) (L2.start N vs) = P := by
    funext b
    exact propext ⟨fun z => z.elim id fun ⟨i, h⟩ => (noown i b h).elim, .inl⟩
  refine ⟨⟨?_, l, Up.refl H, fun i d h => ?_, fun i es h => ?_, fun i j a h => (noown i a h).elim⟩, by rw [hid]; exact f, tb⟩
  · unfold startS L2.start
    rw [List.length_append, List.length_append, List.length_map, List.length_map, List.length_replicate, List.length_replicate, r.len]
  · rw [hid]
    obtain ⟨d', h1, e⟩ := start_dat h
    cases e
    obtain ⟨v, h2, h3⟩ := r.get h1
    exact ⟨v, start_val h2, h3⟩
  · obtain ⟨d, _, e⟩ := start_dat h
    cases e
/-- a def keeps what its body says over data -/
theorem fn_D {P : Program} {w : World} {K : PySem.W.Frag} {mg : Str → Option Value} {base : Heap} {k : Nat} {x qual : Str} {st : Stmt} {f : Addr} {fd : FuncData} {N ps : List Str} {k2 k3 k4 : Str} {T : List (Addr × Str)} {mb : MS} {n : Nat}
    (F : Fun K x qual st f fd) (S : FnScope N ps (defScope st)) (hn : ps.length = n)
    (body : ∀ (fa ca : Addr) (ex : Option Ex) (cdv : Value) (A : Around) (outer : List Env) (s : Shared) (H : Hp) (E : XK), fd.code = cdv → A.guards = some [] → Room k (A.deeper (envOfC qual (defScope st) s.heap.objs.size f cdv)) →
      DSs (cxOf CX0 P w K mg base N qual (defScope st) f cdv A outer s H E).nox ⟨fa, ca, k2, k3, k4, T, ex⟩ (defBody st) mb) :
    FnG P w K mg base CX0 (k + 1) f fd ps (spF K k2 k3 k4 T n (fnM N.length mb)) := by
  refine fnG_of F S (fun vs H Q E h => (spF_len vs H Q E h).trans hn.symm) fun cdv A outer s H vs Q E hcv hg hr h => ?_
  obtain ⟨fa, ca, ex, P1, φ, ds, e, φ', tb0, hl, l, fo, ra, hm, kk⟩ := h
  refine ⟨_, (body fa ca ex cdv A outer s H E hcv hg hr).nox, ?_⟩
  have hN : vs.length ≤ N.length := by
    have h1 : vs.length = ps.length := by rw [ra.len, hl, hn]
    have h2 := congrArg List.length S.pre
    rw [List.length_take] at h2
    omega
  have S0 : StR ⟨K, fa, ca, k2, k3, k4, T, ex⟩ H P1 H (startS N.length ds) φ (L2.start N vs) := stR_start tb0 l fo ra hN
  unfold fnM at hm
  obtain ⟨⟨fl, ρ1, φ1⟩, h1, hm⟩ := Res.bind_ok hm
  refine ⟨H, P1, startS N.length ds, φ, (fl, ρ1, φ1), S0, h1, ?_⟩
  cases fl with
  | ret e1 => cases hm; exact fun v H' u f r => kk v H' u f r
  | nx =>
    cases hm
    exact fun σ' H' S' _ => kk .non H' S'.sl.up (S'.fo.less fun b z => .inl z) rfl
  | bk => cases hm
  | ct => cases hm
end VI
namespace VI
open PySem PySem.Spec PyProof.Rows L2
theorem _root_.L2.Fun.nb {K : PySem.W.Frag} {x qual : Str} {st : Stmt} {f : Addr} {fd : FuncData} {ps ks : List Str} {is : List Nat} (F : Fun K x qual st f fd)
    (h : ∀ (kV doc pm : Value) (an : Option Addr) (cdv ct : Value) (ws : List Value), ws.length = ks.length → bindArgs (PySem.W.fnOf x qual (defArgs st) (defBody st) (defScope st) .none kV doc pm an cdv ct) ⟨[], ks.zip ws⟩ = pure (ps.zip (pick is ws))) : NBinds fd ps ks is := by
  obtain ⟨oc, od, kV, doc, pm, an, cdv, ct, osl, rfl, lk, hcd⟩ := F.ex
  exact fun s ws hl => .of_eq (h kV doc pm an cdv ct ws hl)
section
variable {k : Nat} {A : Around}
theorem r64 (r : Room k A) : A.units + 64 < cLine := r.units
theorem r65 (r : Room k A) : A.units + 65 < cLine := by have := r.un; omega
theorem r66 (r : Room k A) : A.units + 66 < cLine := by have := r.un; omega
end
theorem bt_len : bootBuiltins "len" = some (.builtin "len") := by decide +kernel
theorem bt_all : bootBuiltins "all" = some (.builtin "all") := by decide +kernel
theorem bt_any : bootBuiltins "any" = some (.builtin "any") := by decide +kernel
theorem bt_sum : bootBuiltins "sum" = some (.builtin "sum") := by decide +kernel
theorem bt_min : bootBuiltins "min" = some (.builtin "min") := by decide +kernel
theorem bt_repr : bootBuiltins "repr" = some (.builtin "repr") := by decide +kernel
theorem bt_sorted : bootBuiltins "sorted" = some (.builtin "sorted") := by decide +kernel
theorem bt_tuple : bootBuiltins "tuple" = some (.type "tuple") := by decide +kernel
theorem bt_list : bootBuiltins "list" = some (.type "list") := by decide +kernel
theorem bt_int : bootBuiltins "int" = some (.type "int") := by decide +kernel
theorem bt_str : bootBuiltins "str" = some (.type "str") := by decide +kernel
theorem bt_bool : bootBuiltins "bool" = some (.type "bool") := by decide +kernel
theorem bt_set : bootBuiltins "set" = some (.type "set") := by decide +kernel
section
variable {X : Cx} {q : Pk} {st : Stmt} {pos : Pos} {e : Expr} {me : ME} {es : List Expr} {ms : MAE} {vs : List Nat}
/-- stored as a datum -/
def asgD (vs : List Nat) (i : Nat) (me : ME) : MS := fun ρ φ => (me (soft vs ρ) φ).bind fun r => if i < ρ.length then .ok (.nx, (aft vs r.1 ρ).set i (some (.dat r.1.toD)), r.2) else .bad
theorem ds_asgD_of {i : Nat} {te : TE} (vs : List Nat) (h : PS X st (tAsg te (gName i))) (w : ∀ σ H Q, tD (q.at X.K) me σ H Q → te σ H Q) : DS X q st (asgD vs i me) := ps_imp h fun D σ H z => by
  obtain ⟨H0, P0, ρ, φ, r, S, h, k⟩ := z
  obtain ⟨⟨e1, φ1⟩, h1, h⟩ := Res.bind_ok h
  dsimp only at h
  split at h
  · cases h
    refine w σ H _ ⟨_, _, _, e1, φ1, S.moment vs, h1, fun v H1 u1 f1 r1 => ?_⟩
    obtain ⟨f2, r2, S2⟩ := S.behind u1 f1 r1
    have r3 : RepE (q.at X.K) _ H H1 (.dat e1.toD) v := r2.rep S2.sl.liveH
    exact k _ _ (S2.set u1 f2 r3) ((seen_less aft_less).trans (seen_set u1 r3))
  · cases h
theorem ds_setD {i : Nat} {x : Str} {pos' : Pos} (vs : List Nat) (he : DE X q e me) (hN : X.N.Nodup) (hi : X.N[i]? = some x) (hx : Loc X.env.scope x) (hs : swapsWith e (some (.Name x pos')) pos.line X.env = pure false)
    (hf : X.fn x = true ∨ X.env.scope.names.lookup x = some .local) : DS X q (.Assign [.Name x pos'] e pos) (asgD vs i me) :=
  ds_asgD_of vs (ps_set hN hi hx he hs hf) fun _ _ _ z => z
def consD (m : ME) (ms : MAE) : MAE := fun ρ φ => (m ρ φ).bind fun r => (ms ρ r.2).bind fun r2 => .ok (.dat r.1.toD :: r2.1, r2.2)
theorem dae_consD (ha : DE X q e me) (hs : DAE X q es ms) (hst : starEach (e :: es) X.env = (false, eval e X.env) :: starEach es X.env) : DAE X q (e :: es) (consD me ms) := (pa_cons ha hs hst).imp fun σ H Q w => by
  obtain ⟨P, ρ, φ, e, φ', a, h, k⟩ := w
  obtain ⟨⟨e1, φ1⟩, h1, h⟩ := Res.bind_ok h
  obtain ⟨⟨e2, φ2⟩, h2, h⟩ := Res.bind_ok h
  cases h
  refine part a h1 fun v H1 a1 u1 r1 => ?_
  have hP : Pn P (.dat e1.toD) v = P := by
    funext b
    exact propext ⟨fun z => z.elim id False.elim, .inl⟩
  refine ⟨P, ρ, φ1, e2, φ2, a1, h2, fun vs H2 u2 f3 r2 => ?_⟩
  exact k (v :: vs) H2 (u1.trans u2) f3 ⟨v, vs, H1, rfl, u1, u2, r1.rep a.live, by rw [hP]; exact r2⟩
/-- a comprehension's value stored on its own line -/
theorem ds_lcD {i : Nat} {y : Str} {py spos : Pos} {elt tg iter : Expr} {ifs : List Expr} {scope : Scope} {own : List (Str × Nat)} {α : Type} {R : RI α} {mi : MI α} {set : α → Env' → Option Env'} {ws : List Nat} {mt : MT} (vs : List Nat)
    (hc : X.calm = true) (hN : X.N.Nodup) (hy : X.N[i]? = some y) (hyl : X.env.scope.names.lookup y = some .local) (hsw : swapsWith (.ListComp elt [⟨tg, iter, ifs, 0⟩] scope pos) (some (.Name y py)) spos.line X.env = pure true)
    (hi : DI X q tg iter R mi) (ok : BlkOk X.N X.env.scope scope own) (hvs : ∀ i ∈ ws, i ∈ own.map (·.2))
    (hg : ∃ g : TG, (∀ (s : Shared) (H : Hp) (C : Addr) (cl : List (Str × Addr)) (fp : List Addr), PG (X.blk s H scope (compEnvC scope cl C X.env) fp) tg g) ∧
      ∀ (P : Addr → Prop) (H : Hp) (ρ : Env') (σ : L2.St) (a : α) (v : V) (ρ' : Env') (Q : L2.St → Hp → Prop), EnvR (q.at X.K) (hide P H) ρ σ → R P H a v → set a ρ = some ρ' →
        (∀ σ', EnvR (q.at X.K) (hide P H) ρ' σ' → Chg ws σ σ' → (∀ i, i ∉ ws → ρ'[i]? = ρ[i]?) → Q σ' H) → g v σ H Q)
    (ht : ∀ (s : Shared) (H : Hp) (C : Addr) (cl : List (Str × Addr)) (fp : List Addr), DTs (X.blk s H scope (compEnvC scope cl C X.env) fp) q ifs mt)
    (he : ∀ (s : Shared) (H : Hp) (C : Addr) (cl : List (Str × Addr)) (fp : List Addr), DE (X.blk s H scope (compEnvC scope cl C X.env) fp) q elt me) (hs : ∀ x, foldedSetIterable iter X.env x = pure x) :
    DS X q (.Assign [.Name y py] (.ListComp elt [⟨tg, iter, ifs, 0⟩] scope pos) spos) (asgD vs i (lcM (own.map (·.2)) mi set mt me)) := by
  obtain ⟨wi, h1, h2⟩ := hi
  obtain ⟨g, h3, h4⟩ := hg
  exact ds_asgD_of vs (ps_setLc (tt := tDT (q.at X.K) mt) (te := tD (q.at X.K) me) hc hN hy hyl hsw h1 ok h3 ht he hs) (wish_lc h2 h4 hvs)
/-- the targets of a comprehension's block -/
theorem hg_name {tg : Expr} {scope : Scope} {i : Nat} (h : ∀ (s : Shared) (H : Hp) (C : Addr) (cl : List (Str × Addr)) (fp : List Addr), PG (X.blk s H scope (compEnvC scope cl C X.env) fp) tg (gName i)) :
    ∃ g : TG, (∀ (s : Shared) (H : Hp) (C : Addr) (cl : List (Str × Addr)) (fp : List Addr), PG (X.blk s H scope (compEnvC scope cl C X.env) fp) tg g) ∧
      ∀ (P : Addr → Prop) (H : Hp) (ρ : Env') (σ : L2.St) (a : D) (v : V) (ρ' : Env') (Q : L2.St → Hp → Prop), EnvR (q.at X.K) (hide P H) ρ σ → R1 (q.at X.K) P H a v → setN i a ρ = some ρ' →
        (∀ σ', EnvR (q.at X.K) (hide P H) ρ' σ' → Chg [i] σ σ' → (∀ j, j ∉ [i] → ρ'[j]? = ρ[j]?) → Q σ' H) → g v σ H Q := ⟨_, h, fun P H ρ σ a v ρ' Q e r s k => by
  cases s
  exact k _ (e.set r) (Chg.set (by simp)) fun j hj => List.getElem?_set_ne fun e => hj (by simp [e])⟩
theorem hg_pair {tg : Expr} {scope : Scope} {i j : Nat} (h : ∀ (s : Shared) (H : Hp) (C : Addr) (cl : List (Str × Addr)) (fp : List Addr), PG (X.blk s H scope (compEnvC scope cl C X.env) fp) tg (gTup X.K 2 (gCons (gName i) (gCons (gName j) gNil)))) :
    ∃ g : TG, (∀ (s : Shared) (H : Hp) (C : Addr) (cl : List (Str × Addr)) (fp : List Addr), PG (X.blk s H scope (compEnvC scope cl C X.env) fp) tg g) ∧
      ∀ (P : Addr → Prop) (H : Hp) (ρ : Env') (σ : L2.St) (a : D × D) (v : V) (ρ' : Env') (Q : L2.St → Hp → Prop), EnvR (q.at X.K) (hide P H) ρ σ → R2 (q.at X.K) P H a v → setP i j a ρ = some ρ' →
        (∀ σ', EnvR (q.at X.K) (hide P H) ρ' σ' → Chg [i, j] σ σ' → (∀ m, m ∉ [i, j] → ρ'[m]? = ρ[m]?) → Q σ' H) → g v σ H Q := ⟨_, h, fun P H ρ σ a v ρ' Q e r s k => by
  cases s
  obtain ⟨T, x, y, rfl, h1, r1, r2⟩ := r
  refine ⟨T, [x, y], rfl, h1, rfl, x, [y], rfl, y, [], rfl, rfl, ?_⟩
  refine k _ ((e.set r1).set r2) ((Chg.set (by simp)).trans (Chg.set (by simp))) fun m hm => ?_
  rw [List.getElem?_set_ne fun e => hm (by simp [e]), List.getElem?_set_ne fun e => hm (by simp [e])]⟩
end
end VI
namespace VI
open PySem PySem.Spec PyProof.Rows L2
def fdG : D → D → Res EV
  | .int i, .int j => if 0 < j ∧ j < 2 ^ 64 then .ok (.dat (.int (i / j))) else .bad
  | _, _ => .bad
def powG : D → D → Res EV
  | .int i, .int j => if 0 ≤ j ∧ j ≤ 1000 ∧ i.natAbs < 2 ^ 64 then .ok (.dat (.int (i ^ j.toNat))) else .bad
  | _, _ => .bad
section
variable {X : Cx} {q : Pk} {pos p1 p2 : Pos} {e : Expr} {me : ME}
theorem og_fd : OpG X q (binaryOp .FloorDiv) fdG := by
  refine ⟨_, op_fdivW, ?_⟩
  intro P H x y d1 d2 e Q l r1 r2 h k
  unfold fdG at h
  split at h
  · split at h
    · rename_i hz
      cases h; cases r1; cases r2
      refine ⟨_, _, rfl, rfl, wide_div (b := 64) hz.1 (by omega) (by decide) (by decide), k _ H (Ext.refl H) rfl⟩
    · cases h
  · cases h
theorem og_pow : OpG X q (binaryOp .Pow) powG := by
  refine ⟨_, op_pow, ?_⟩
  intro P H x y d1 d2 e Q l r1 r2 h k
  unfold powG at h
  split at h
  · split at h
    · rename_i hz
      cases h; cases r1; cases r2
      exact ⟨_, _, rfl, rfl, ⟨hz.1, by omega, hz.2.2⟩, k _ H (Ext.refl H) rfl⟩
    · cases h
  · cases h
theorem de_neg {i : Int} {j : Nat} : DE X q (.UnaryOp .USub (.Constant (.int i) j p1) pos) (cD (.int (-i))) := (pe_un un_neg pe_int).imp fun σ H Q w => by
  obtain ⟨P, ρ, φ, e, φ', a, h, k⟩ := w
  cases h
  exact ⟨i, rfl, k _ H (Up.refl H) a.fo rfl⟩
def isFeed (i : Nat) (ρ : Env') : Bool := match ρ[i]? with
  | some (some (.dict [])) => true
  | _ => false
theorem isFeed_ok {p : Pr} {G : Hp} {ρ : Env'} {σ : L2.St} {i : Nat} (a : EnvR p G ρ σ) (h : isFeed i ρ = true) : σ[i]? = some (some (.ref p.fa)) := by
  unfold isFeed at h
  split at h
  · rename_i e
    obtain ⟨v, e1, e2⟩ := a.has i _ e
    cases e2
    exact e1
  · cases h
def fgI (i : Nat) (get : FS → Int) : ME := fun ρ φ => if isFeed i ρ = true then .ok (.dat (.int (get φ)), φ) else .bad
theorem de_fgI {i : Nat} {o : Expr} {key : Str} {j : Nat} {get : FS → Int} (ho : PE X o (tVar i)) (hu : X.A.units + 1 < cLine) (hs : NoSl (.Constant (.str key) j p1)) (hv : ∀ f, valV (fsDict (q.at X.K) f) (.inr key) = some (.int (get f))) :
    DE X q (.Subscript o (.Constant (.str key) j p1) pos) (fgI i get) := (pe_dget hu ho pe_str hs).imp fun σ H Q w => by
  obtain ⟨P, ρ, φ, e, φ', a, h, k⟩ := w
  unfold fgI at h
  split at h
  · rename_i hf
    cases h
    refine ⟨_, isFeed_ok a.env hf, _, .int (get φ), rfl, ?_, k _ H (Up.refl H) a.fo rfl⟩
    have g := DGet.k (k := .inr key) (hide_of a.fo.d).2
    rw [hv] at g
    exact g
  · cases h
def fgC (i : Nat) : ME := fun ρ φ => if isFeed i ρ = true then .ok (.dat (.list (φ.cells.map .int)), φ) else .bad
theorem de_fgC {i : Nat} {o : Expr} {j : Nat} (ho : PE X o (tVar i)) (hu : X.A.units + 1 < cLine) (hs : NoSl (.Constant (.str "cells") j p1)) : DE X q (.Subscript o (.Constant (.str "cells") j p1) pos) (fgC i) := (pe_dget hu ho pe_str hs).imp fun σ H Q w => by
  obtain ⟨P, ρ, φ, e, φ', a, h, k⟩ := w
  unfold fgC at h
  split at h
  · rename_i hf
    cases h
    refine ⟨_, isFeed_ok a.env hf, _, .ref (q.at X.K).ca, rfl, DGet.k (k := .inr "cells") (hide_of a.fo.d).2, k _ H (Up.refl H) a.fo ⟨_, _, rfl, a.fo.c, RepAll.of_ints _⟩⟩
  · cases h
def fpM (i : Nat) (me : ME) (put : FS → Int → FS) : MS := fun ρ φ => (me (soft [] ρ) φ).bind fun r => match r.1 with
  | .dat (.int n) => if isFeed i (soft [] ρ) = true then .ok (.nx, ρ, put r.2 n) else .bad
  | _ => .bad
theorem ds_fput {i : Nat} {o : Expr} {key : Str} {j : Nat} {put : FS → Int → FS} (ho : PE X o (tVar i)) (he : DE X q e me) (hu : X.A.units + 1 < cLine) (hp : ∀ f n, putK (fsDict (q.at X.K) f) (.inr key) (.int n) = fsDict (q.at X.K) (put f n)) (hc : ∀ f n, (put f n).cells = f.cells)
    (hs : swapsWith e (some (.Subscript o (.Constant (.str key) j p1) p2)) pos.line X.env = pure false) : DS X q (.Assign [.Subscript o (.Constant (.str key) j p1) p2] e pos) (fpM i me put) := ps_imp (ps_dput hu ho pe_str he hs) fun D σ H z => by
  obtain ⟨H0, P0, ρ, φ, r, S, h, k⟩ := z
  obtain ⟨⟨e1, φ1⟩, h1, h⟩ := Res.bind_ok h
  dsimp only at h
  split at h
  · rename_i n
    split at h
    · rename_i hf
      cases h
      have M := S.moment []
      refine ⟨_, _, _, _, φ1, M, h1, fun v H1 u1 f1 r1 => ⟨_, isFeed_ok M.env hf, (q.at X.K).fa, _, rfl, DPut.k (k := .inr key) (hide_of f1.d).2 ?_, ?_⟩⟩
      · show 4 < sizeLine
        rw [sizeLine_eq]; omega
      · cases r1
        have f2 : FO (q.at X.K) φ1 (hide (Hid P0 ρ σ) H1) := f1.see S.fo.nfa.1 S.fo.nca.1 (S.fo.e.up (hide_up u1))
        have u2 : Up (q.at X.K).T H1 (upd H1 (q.at X.K).fa (.dK (putK (fsDict (q.at X.K) φ1) (.inr key) (.int n)))) := ⟨fun b o s hb => by
          have nb : b ≠ (q.at X.K).fa := fun z => by
            rw [z, (hide_of f1.d).2] at hb
            cases hb
            exact s
          rw [upd_ne nb]
          exact hb, fun b hb => by
          have nb : b ≠ (q.at X.K).fa := fun z => by rw [z, upd_same] at hb; cases hb
          rw [upd_ne nb] at hb
          exact hb, fun t => tabs_upd t fun u e => by
          rw [(hide_of f1.d).2] at e
          cases e
          exact ⟨fun ps z => (by cases z), fun c q z => (by unfold LamX.CodeO at z; cases z)⟩⟩
        have ne : (q.at X.K).ca ≠ (q.at X.K).fa := fun z => by
          have e1 := (hide_of f1.c).2
          rw [z, (hide_of f1.d).2] at e1
          cases e1
        refine k σ _ (S.upTo (u1.trans u2) ⟨?_, ?_, S.fo.e.up (hide_up (u1.trans u2))⟩) ((seen_up u1).trans (seen_up u2))
        · rw [hide_eq S.fo.nfa.1, upd_same, hp]
        · rw [hide_eq S.fo.nca.1, upd_ne ne, hc]
          exact (hide_of f1.c).2
    · cases h
  · cases h
theorem len_nil : ∀ (ρ : Env') (φ : FS) (ds : List D) (φ' : FS), nilA ρ φ = .ok (ds, φ') → ds.length = 0 := fun ρ φ ds φ' h => by cases h; rfl
theorem len_cons {n : Nat} {m : ME} {ms : MA} (k : ∀ (ρ : Env') (φ : FS) (ds : List D) (φ' : FS), ms ρ φ = .ok (ds, φ') → ds.length = n) : ∀ (ρ : Env') (φ : FS) (ds : List D) (φ' : FS), consA m ms ρ φ = .ok (ds, φ') → ds.length = n + 1 := fun ρ φ ds φ' h => by
  obtain ⟨⟨e1, φ1⟩, h1, h⟩ := Res.bind_ok h
  obtain ⟨⟨e2, φ2⟩, h2, h⟩ := Res.bind_ok h
  cases h
  rw [List.length_cons, k _ _ _ _ h2]
def popAt (j : Nat) (n : Int) (ρ : EnvS) : Option (D × EnvS) := match ρ[j]? with
  | some (some (.own ds)) => match seqIndex? n ds.length with
    | some k => (ds[k]?).map fun d => (d, ρ.set j (some (.own (ds.eraseIdx k))))
    | none => none
  | _ => none
def appPopM (vs : List Nat) (i j : Nat) (me : ME) : MS := fun ρ φ => (me (soft vs ρ) φ).bind fun r => match r.1 with
  | .dat (.int n) => if -1000000 < n ∧ n < 1000000 ∧ i ≠ j then (match popAt j n ρ with
    | some (d, ρ1) => (match pushAt i d ρ1 with
      | some ρ2 => .ok (.nx, ρ2, r.2)
      | none => .bad)
    | none => .bad) else .bad
  | _ => .bad
theorem RepAll.erase {p : Pr} {G : Hp} : ∀ {ds : List D} {vs : List V} (k : Nat), RepAll p G ds vs → RepAll p G (ds.eraseIdx k) (vs.eraseIdx k)
  | [], vs, k, h => by cases h; exact rfl
  | _ :: _, _, 0, h => by obtain ⟨v, r, rfl, _, h2⟩ := h; exact h2
  | _ :: ds, _, k + 1, h => by obtain ⟨v, r, rfl, h1, h2⟩ := h; exact ⟨v, _, rfl, h1, RepAll.erase k h2⟩
theorem ds_appPop {i j : Nat} {o o2 : Expr} {apos apos2 cpos epos : Pos} (vs : List Nat) (ho : PE X o (tVar i)) (ho2 : PE X o2 (tVar j)) (he : DE X q e me)
    (hb : attributeBase o "append" X.env (eval o X.env) = eval o X.env := by rfl) (hb2 : attributeBase o2 "pop" X.env (eval o2 X.env) = eval o2 X.env := by rfl)
    (hf2 : ((backTo cpos (starEach [e] X.env)).all (fun x => !x.1) && (backToKw cpos (keywordEach [] X.env)).all (fun x => x.1.isSome) && decide ([e].length + ([] : List Keyword).length + (if ([] : List Keyword).isEmpty then 0 else 1) < 30)) = true := by rfl)
    (hl : (apos.endLine == pos.line) = true := by rfl) (hl2 : (apos2.endLine == cpos.line) = true := by rfl) (hs : starEach [e] X.env = (false, eval e X.env) :: starEach [] X.env := by rfl) :
    DS X q (.Expr (.Call (.Attribute o "append" apos) [.Call (.Attribute o2 "pop" apos2) [e] [] cpos] [] pos) epos) (appPopM vs i j me) :=
  ps_imp (ps_expr (pe_bm PySem.F.plainAttrs_list PySem.F.slot_list_append PySem.F.type_list_append mt_append ho
    (pa_cons (pe_bm PySem.F.plainAttrs_list PySem.F.slot_list_pop PySem.F.type_list_pop mt_popAt ho2 (pa_cons he pa_nil hs) hb2 hf2 hl2 hs) pa_nil rfl) hb rfl hl rfl)) fun D σ H z => by
    obtain ⟨H0, P0, ρ, φ, r, S, h, k⟩ := z
    obtain ⟨⟨e1, φ1⟩, h1, h⟩ := Res.bind_ok h
    dsimp only at h
    split at h
    · rename_i n
      split at h
      · rename_i hn
        split at h
        · rename_i d ρ1 hp
          split at h
          · rename_i ρ2 hp2
            cases h
            unfold popAt at hp
            split at hp
            · rename_i dj hj
              split at hp
              · rename_i kk hk
                cases hd : dj[kk]? with
                | none => rw [hd] at hp; cases hp
                | some d' =>
                  rw [hd] at hp
                  cases hp
                  unfold pushAt at hp2
                  split at hp2
                  · rename_i di hi
                    split at hp2
                    · rename_i hz
                      cases hp2
                      rw [List.getElem?_set_ne (Ne.symm hn.2.2)] at hi
                      obtain ⟨a, xs, e2, e3, e4, e5⟩ := S.sl.own i di hi
                      obtain ⟨b, ys, g2, g3, g4, g5⟩ := S.sl.own j dj hj
                      refine ⟨.ref a, e2, .inl ⟨rfl, xs, SqL.of e4⟩, .ref b, g2, .inl ⟨rfl, ys, SqL.of g4⟩, _, _, _, _, φ1, S.moment vs, h1, fun v H1 u1 f1 r1 => ?_⟩
                      obtain ⟨f2, r2, S2⟩ := S.behind u1 f1 r1
                      cases r1
                      have S3 : StR (q.at X.K) H0 P0 H1 ρ φ1 σ := S2.upTo u1 f2
                      obtain ⟨b', ys', w2, w3, w4, w5⟩ := S3.sl.own j dj hj
                      rw [g2] at w2
                      cases w2
                      obtain ⟨y, hy, ry⟩ := w5.get hd
                      refine ⟨b, ys', n, kk, y, rfl, rfl, w4, by omega, by omega, by rw [w5.len]; exact hk, hy, ?_⟩
                      obtain ⟨S4, s4⟩ := S3.change hj g2 (RepAll.erase kk w5)
                      have hi4 : (ρ.set j (some (EV.own (dj.eraseIdx kk))))[i]? = some (some (.own di)) := by rw [List.getElem?_set_ne (Ne.symm hn.2.2)]; exact hi
                      obtain ⟨a', xs', v2, v3, v4, v5⟩ := S4.sl.own i di hi4
                      rw [e2] at v2
                      cases v2
                      refine ⟨a, xs', y, rfl, rfl, v4, by rw [v5.len, sizeLine_eq]; omega, ?_⟩
                      have ry4 := Rep.up s4 ry
                      obtain ⟨S5, s5⟩ := S4.change hi4 e2 (RepAll.app v5 (RepAll.one ry4))
                      exact k _ _ S5 (((seen_up u1).trans s4).trans s5)
                    · cases hp2
                  · cases hp2
              · cases hp
            · cases hp
          · cases h
        · cases h
      · cases h
    · cases h
theorem ds_doc {x j pos' } : DS X q (.Expr (.Constant (.str x) j pos) pos') nxM := ps_imp ps_doc fun D σ H w => by
  obtain ⟨H0, P0, ρ, φ, r, S, h, k⟩ := w
  cases h
  exact k σ H S fun _ _ _ z => z
end
end VI
namespace VI
open PySem PySem.Spec PyProof.Rows L2
/-- all objects stay -/
def Stay (h0 h : Heap) : Prop := ∀ b o, h0.get? b = some o → h.get? b = some o
/-- what a set asks of its items -/
structure Itm (P : Program) (w : World) (A : Around) (h0 : Heap) {κ : Type} [DecidableEq κ] (I : Value → Prop) (key : Value → κ) (hs : Value → Int) : Prop where
  hash : ∀ x, I x → ∃ d : Nat, ∀ (s : Shared) (E : Value → Shared → Prop) (Q : Int → Shared → Prop), Stay h0 s.heap → Q (hs x) { s with toks := s.toks + d } → wpAny (model P w) A (pyHash x) Q E s
  eq : ∀ x y, I x → I y → ∀ (s : Shared) (E : Value → Shared → Prop) (Q : Bool → Shared → Prop), Stay h0 s.heap → Q (decide (key x = key y)) s → wpAny (model P w) A (eqBool x y) Q E s
  cong : ∀ x y, I x → I y → key x = key y → hs x = hs y
/-- objects beside: the search's side questions -/
structure Obs (P : Program) (w : World) (A : Around) (h0 : Heap) (I : Value → Prop) : Prop where
  ref : ∀ x, I x → ∃ b, x = .ref b
  seen : ∀ x, I x → ∀ ys : List Value, (∀ y ∈ ys, I y) → ∀ (s : Shared) (E : Value → Shared → Prop) (Q : Bool → Shared → Prop), Stay h0 s.heap → Q false s → wpAny (model P w) A (searchCouldBeSeen x ys) Q E s
  plain : ∀ x, I x → ∀ (s : Shared) (E : Value → Shared → Prop) (Q : Bool → Shared → Prop), Stay h0 s.heap → (∀ b, Q b s) → wpAny (model P w) A (hashByValue 8 x) Q E s
/-- a set, as a table -/
structure Tb {κ : Type} [DecidableEq κ] (w : World) (key : Value → κ) (hs : Value → Int) (h : Heap) (a : Addr) (L : List Value) (es : Array (Int × Value)) (ep : Nat) (t : SetTable) : Prop where
  ob : ∃ o, h.get? a = some o ∧ o.ExactSet ∧ o.data = .set es ep t
  es : es.toList = L.map fun v => (hs v, v)
  tab : TabOk t (L.map hs)
  nd : (L.map key).Nodup
  led : w.params.followText "set-order" = true ∨ t.led = true
  room : L.length * 5 < t.mask * 3
  few : L.length < 64
theorem nth_calm (m : Nat) : ∀ (k : Nat) (p : SetTable.Probe), p.dummy = none → (nth m p k).dummy = none
  | 0, _, h => h
  | k + 1, p, h => nth_calm m k (adv m p) (by unfold adv; split <;> exact h)
section
variable {P : Program} {w : World} {A : Around} {E : Value → Shared → Prop} {s : Shared} {κ : Type} [DecidableEq κ] {I : Value → Prop} {key : Value → κ} {hs : Value → Int} {h0 : Heap}
variable {a : Addr} {L : List Value} {es : Array (Int × Value)} {ep : Nat} {t : SetTable}
theorem Tb.size {h : Heap} (B : Tb w key hs h a L es ep t) : es.size = L.length := by
  rw [← Array.length_toList, B.es, List.length_map]
theorem Tb.fit {h : Heap} (B : Tb w key hs h a L es ep t) : t.fits es.size = true := by
  have h1 : t.place.size = L.length := by rw [B.tab.sz, List.length_map]
  have h2 := B.room
  simp only [SetTable.fits, SetTable.fill, B.tab.dm, Bool.and_eq_true, beq_iff_eq, decide_eq_true_eq, B.size, h1]
  refine ⟨trivial, ?_⟩
  show L.length + 0 ≤ t.mask
  omega
theorem Tb.at {h : Heap} (B : Tb w key hs h a L es ep t) {i : Nat} {v : Value} (e : L[i]? = some v) : es[i]? = some (hs v, v) := by
  rw [← Array.getElem?_toList, B.es, List.getElem?_map, e]
  rfl
theorem Tb.whole {h : Heap} (B : Tb w key hs h a L es ep t) : ¬ t.gaveWay = true := by
  unfold SetTable.gaveWay
  rw [mask_odd B.tab.mok]
  decide
theorem Tb.len {h : Heap} (B : Tb w key hs h a L es ep t) : t.place.toList.length = L.length := by
  rw [Array.length_toList, B.tab.sz, List.length_map]
/-- the way of an item through the table, from its c-th step on -/
theorem seek (B : Tb w key hs s.heap a L es ep t) (M : Itm P w A h0 I key hs) (O : Obs P w A h0 I) (st : Stay h0 s.heap) (hL : ∀ v ∈ L, I v) {x : Value} (hx : I x) {K : Nat} (hf : K < 10 * SetTable.turns t.mask)
    (free : way t.mask (hs x) K ∉ t.place.toList) (full : ∀ c, c < K → way t.mask (hs x) c ∈ t.place.toList) {Q : SetFound → Shared → Prop}
    (yes : key x ∈ L.map key → Q (.there none) s) (no : key x ∉ L.map key → Q (.free (way t.mask (hs x) K) false) s) : ∀ (f c : Nat) (p : Option SetTable.Probe),
      p.getD (t.probeStart (hs x)) = nth t.mask (runAt t.mask (SetTable.bits (hs x) % (t.mask + 1)) (SetTable.bits (hs x))) c → c ≤ K → K < f + c →
      (∀ (i : Nat) (v : Value), L[i]? = some v → key v = key x → ∃ d, c ≤ d ∧ d < K ∧ t.place.toList[i]? = some (way t.mask (hs x) d)) →
      wpAny (model P w) A (setSearchFrom a x (hs x) true f p) Q E s := by
  intro f
  induction f with
  | zero => intro c p _ h1 h2; omega
  | succ f ih =>
    intro c p hp hc hcf hre
    obtain ⟨o, ho, ox, od⟩ := B.ob
    rw [setSearchFrom_succ]
    refine wpAny_bind (wpAny_setState_of ho od B.fit ?_)
    dsimp only
    refine wp_if_neg B.whole ?_
    try refine wpAny_bind (wpAny_pure ?_)
    have step : ∀ d, (nth t.mask (nth t.mask (runAt t.mask (SetTable.bits (hs x) % (t.mask + 1)) (SetTable.bits (hs x))) c) d) = nth t.mask (runAt t.mask (SetTable.bits (hs x) % (t.mask + 1)) (SetTable.bits (hs x))) (c + d) := fun d => (nth_add _ _ _ _).symm
    have stepj : ∀ d, (nth t.mask (nth t.mask (runAt t.mask (SetTable.bits (hs x) % (t.mask + 1)) (SetTable.bits (hs x))) c) d).j = way t.mask (hs x) (c + d) := fun d => by rw [step]
    rcases go_spec t B.tab.ris B.tab.dm (fun i => (es[i]?.map (·.1)).getD 0) (hs x) (10 * SetTable.turns t.mask) (K - c) (nth t.mask (runAt t.mask (SetTable.bits (hs x) % (t.mask + 1)) (SetTable.bits (hs x))) c)
      (nth_calm _ _ _ rfl) (by omega) (fun d hd => by rw [stepj]; exact full _ (by omega)) (by rw [stepj, Nat.add_sub_cancel' hc]; exact free) with ⟨d, i, hd, hi, he, first, go⟩ | ⟨none', go⟩
    · rw [stepj] at hi
      rw [stepj, step] at go
      have go' : t.probe (fun i => (es[i]?.map (·.1)).getD 0) (hs x) (p.getD (t.probeStart (hs x))) = some (.candidate (way t.mask (hs x) (c + d)) i (nth t.mask (runAt t.mask (SetTable.bits (hs x) % (t.mask + 1)) (SetTable.bits (hs x))) (c + (d + 1)))) := by
        rw [hp]
        exact go
      rw [go']
      dsimp only
      obtain ⟨y, hy⟩ : ∃ y, L[i]? = some y := by
        have hl : i < t.place.toList.length := (List.getElem?_eq_some_iff.mp hi).1
        rw [B.len] at hl
        exact ⟨_, List.getElem?_eq_getElem hl⟩
      have my : y ∈ L := List.mem_of_getElem? hy
      have iy : I y := hL y my
      have main : wpAny (model P w) A (searchRest a x (hs x) true f es t (way t.mask (hs x) (c + d)) i (nth t.mask (runAt t.mask (SetTable.bits (hs x) % (t.mask + 1)) (SetTable.bits (hs x))) (c + (d + 1)))) Q E s := by
        unfold searchRest
        rw [B.at hy]
        dsimp only
        refine wpAny_bind (wpAny_holding (M.eq y x iy hx s _ _ st ?_))
        refine wpAny_bind (wpAny_setState_of ho od B.fit ?_)
        dsimp only
        by_cases ek : key y = key x
        · refine wp_if_pos (by rw [decide_eq_true ek]; rfl) (wpAny_pure (yes ?_))
          rw [← ek]
          exact List.mem_map_of_mem my
        · refine wp_if_neg (by rw [decide_eq_false ek]; simp) ?_
          try refine wpAny_bind (wpAny_pure ?_)
          rw [sameMem]
          dsimp only
          have live : t.slot (way t.mask (hs x) (c + d)) = .live i := slot_live B.tab.ris hi
          simp only [if_true, live, B.at hy]
          obtain ⟨b, rfl⟩ := O.ref y iy
          refine wpAny_bind (wpAny_isSame_ref_self (wpAny_bind (wpAny_pure ?_)))
          simp only [if_true]
          refine wp_if_neg (by rw [decide_eq_false ek]; simp) ?_
          refine ih (c + (d + 1)) _ rfl (by omega) (by omega) fun i2 v hv hk => ?_
          obtain ⟨d2, g1, g2, g3⟩ := hre i2 v hv hk
          refine ⟨d2, Classical.byContradiction fun hlt => ?_, g2, g3⟩
          by_cases q : d2 = c + d
          · rw [q] at g3
            have z := slot_live B.tab.ris g3
            rw [live] at z
            cases z
            rw [hy] at hv
            cases hv
            exact ek hk
          · refine first (d2 - c) i2 (by omega) (by rw [stepj, Nat.add_sub_cancel' g1]; exact g3) ?_
            show (es[i2]?.map (·.1)).getD 0 = hs x
            rw [B.at hv]
            exact M.cong v x (hL v (List.mem_of_getElem? hv)) hx hk
      by_cases ld : t.led = true
      · refine wp_if_neg (by rw [ld]; decide) ?_
        try refine wpAny_bind (wpAny_pure ?_)
        exact main
      · refine wp_if_pos (by simpa using ld) (wpAny_bind (O.seen x hx _ (fun y hy2 => ?_) s _ _ st ?_))
        · obtain ⟨q, q1, q2⟩ := List.mem_map.mp hy2
          have q3 : q ∈ es.toList := by
            have q4 : q ∈ es ∧ q.1 = hs x := by simpa using q1
            simpa using q4.1
          rw [B.es] at q3
          obtain ⟨v, v1, v2⟩ := List.mem_map.mp q3
          rw [← q2, ← v2]
          exact hL v v1
        · refine wp_if_neg (by decide) ?_
          try refine wpAny_bind (wpAny_pure ?_)
          exact main
    · rw [stepj, Nat.add_sub_cancel' hc] at go
      have go' : t.probe (fun i => (es[i]?.map (·.1)).getD 0) (hs x) (p.getD (t.probeStart (hs x))) = some (.empty (way t.mask (hs x) K) none) := by
        rw [hp]
        exact go
      rw [go']
      dsimp only
      refine wpAny_pure (no fun mem => ?_)
      obtain ⟨v, v1, v2⟩ := List.mem_map.mp mem
      obtain ⟨i, hi, ev⟩ := List.getElem_of_mem v1
      have hv : L[i]? = some v := by rw [List.getElem?_eq_getElem hi, ev]
      obtain ⟨d, g1, g2, g3⟩ := hre i v hv v2
      refine none' (d - c) i (by omega) (by rw [stepj, Nat.add_sub_cancel' g1]; exact g3) ?_
      show (es[i]?.map (·.1)).getD 0 = hs x
      rw [B.at hv]
      exact M.cong v x (hL v v1) hx v2
theorem seek0 (B : Tb w key hs s.heap a L es ep t) (M : Itm P w A h0 I key hs) (O : Obs P w A h0 I) (st : Stay h0 s.heap) (hL : ∀ v ∈ L, I v) {x : Value} (hx : I x) {Q : SetFound → Shared → Prop} (yes : key x ∈ L.map key → Q (.there none) s)
    (no : ∀ K, key x ∉ L.map key → way t.mask (hs x) K ∉ t.place.toList → (∀ c, c < K → way t.mask (hs x) c ∈ t.place.toList) → Q (.free (way t.mask (hs x) K) false) s) : wpAny (model P w) A (setSearch a x (hs x) true) Q E s := by
  have rm := B.room
  obtain ⟨K, b1, b2, b3⟩ := B.tab.first (by rw [List.length_map]; omega) (hs x)
  have small : 10 * SetTable.turns t.mask < 100000 := by
    unfold SetTable.turns
    rcases B.tab.mok with e | e | e <;> rw [e] <;> decide
  refine seek B M O st hL hx b1 b2 b3 yes (fun n => no K n b2 b3) 100000 0 none rfl (Nat.zero_le _) (by omega) fun i v hv hk => ?_
  have hl : i < t.place.toList.length := by
    rw [B.len]
    exact (List.getElem?_eq_some_iff.mp hv).1
  have hp := List.getElem?_eq_getElem hl
  obtain ⟨c, g1, g2⟩ := B.tab.before (h := hs x) (i := i) b2 (by rw [List.getElem?_map, hv, ← M.cong v x (hL v (List.mem_of_getElem? hv)) hx hk]; rfl) hp
  exact ⟨c, Nat.zero_le _, g1, by rw [hp, g2]⟩
theorem pick_all {α : Type} (L : List α) : ((List.range L.length).filterMap fun i => L[i]?) = L := by
  have go : ∀ n, n ≤ L.length → ((List.range n).filterMap fun i => L[i]?) = L.take n := by
    intro n
    induction n with
    | zero => intro _; rfl
    | succ n ih =>
      intro h
      rw [List.range_succ, List.filterMap_append, ih (by omega), List.filterMap_cons_some (List.getElem?_eq_getElem (show n < L.length from h)), List.filterMap_nil, ← take_next (List.getElem?_eq_getElem (show n < L.length from h))]
  rw [go _ (Nat.le_refl _), List.take_length]
theorem pick_rows {es : Array (Int × Value)} {order : Array Nat} (he : es.toList = L.map fun v => (hs v, v)) (hp : order.toList.Perm (List.range L.length)) :
    ∃ M : List Value, (order.filterMap fun i => es[i]?).toList = M.map (fun v => (hs v, v)) ∧ M.Perm L ∧ M.map hs = order.toList.map fun i => (es.map (·.1)).getD i 0 := by
  have one : ∀ i v, L[i]? = some v → es[i]? = some (hs v, v) := fun i v e => by
    rw [← Array.getElem?_toList, he, List.getElem?_map, e]
    rfl
  have all : ∀ l : List Nat, (∀ i ∈ l, i < L.length) → l.filterMap (fun i => es[i]?) = (l.filterMap fun i => L[i]?).map (fun v => (hs v, v)) ∧ (l.filterMap fun i => L[i]?).map hs = l.map fun i => (es.map (·.1)).getD i 0 := by
    intro l
    induction l with
    | nil => intro _; exact ⟨rfl, rfl⟩
    | cons i l ih =>
      intro h
      obtain ⟨e1, e2⟩ := ih fun j hj => h j (List.mem_cons_of_mem _ hj)
      obtain ⟨v, hv⟩ : ∃ v, L[i]? = some v := ⟨_, List.getElem?_eq_getElem (h i List.mem_cons_self)⟩
      have z : (es.map (·.1)).getD i 0 = hs v := by
        rw [Array.getD_eq_getD_getElem?, Array.getElem?_map, one i v hv]
        rfl
      refine ⟨?_, ?_⟩
      · rw [List.filterMap_cons_some (one i v hv), List.filterMap_cons_some hv, e1, List.map_cons]
      · rw [List.filterMap_cons_some hv, List.map_cons, List.map_cons, e2, z]
  obtain ⟨e1, e2⟩ := all order.toList fun i hi => List.mem_range.mp (hp.mem_iff.mp hi)
  refine ⟨_, ?_, ?_, e2⟩
  · rw [Array.toList_filterMap]
    exact e1
  · have q := hp.filterMap (fun i => L[i]?)
    rwa [pick_all] at q
theorem relay {o : Obj} (ho : s.heap.get? a = some o) (ox : o.ExactSet) (od : o.data = .set es ep t) (he : es.toList = L.map fun v => (hs v, v)) (hp : t.place.size = es.size) (dm : t.dummies = #[]) (room : es.size ≤ t.mask) (nd : (L.map key).Nodup)
    (led : w.params.followText "set-order" = true ∨ t.led = true) (few : L.length < 64) {n m : Nat} (hm : SetTable.sizeAbove n - 1 = m) (ok : MaskOk m) (h128 : SetTable.sizeAbove n ≤ 128) (hr : L.length * 5 < m * 3) {Q : Unit → Shared → Prop}
    (k : ∀ h' L' es' ep' t', Heap.SameBut a s.heap h' → Tb w key hs h' a L' es' ep' t' → L'.Perm L → Q () { s with heap := h' }) : wpAny (model P w) A (setRelay a n) Q E s := by
  have hz : es.size = L.length := by rw [← Array.length_toList, he, List.length_map]
  have fit : t.fits es.size = true := by
    simp only [SetTable.fits, SetTable.fill, dm, Bool.and_eq_true, beq_iff_eq, decide_eq_true_eq, hp]
    refine ⟨trivial, ?_⟩
    show es.size + 0 ≤ t.mask
    omega
  obtain ⟨t', order, e, perm, T, em, el, _, _⟩ := relaid_ok t (hs := es.map (·.1)) (wanted := n) hm ok (by rw [Array.size_map, hz]; omega)
  rw [Array.size_map, hz] at perm
  obtain ⟨M, m1, m2, m3⟩ := pick_rows (hs := hs) he perm
  rw [← m3] at T
  have sz : (order.filterMap (es[·]?)).size = es.size := by
    rw [← Array.length_toList, m1, List.length_map, m2.length_eq, hz]
  rw [setRelay_eq]
  refine wpAny_bind (wpAny_setState_of ho od fit ?_)
  dsimp only
  refine wp_if_neg (by rw [sizeLine_eq]; omega) ?_
  try refine wpAny_bind (wpAny_pure ?_)
  rw [e]
  dsimp only
  refine wpAny_bind ?_
  refine wp_if_neg (by rw [sz]; simp) ?_
  try refine wpAny_bind (wpAny_pure ?_)
  refine wpAny_pure ?_
  dsimp only
  refine wpAny_storeSet_of ho od (k _ M (order.filterMap (es[·]?)) (ep + 1) t' (Heap.SameBut.update ..) ⟨⟨_, store_at ho od, ⟨ox.1, ox.2.1, ox.2.2⟩, rfl⟩, m1, T, (m2.map key).nodup_iff.mpr nd, by rw [el]; exact led, ?_, by rw [m2.length_eq]; exact few⟩ m2) (by rw [sz, hz, sizeLine_eq]; omega)
  rw [em, m2.length_eq]
  exact hr
theorem putIn (B : Tb w key hs s.heap a L es ep t) (M : Itm P w A h0 I key hs) (O : Obs P w A h0 I) (st : Stay h0 s.heap) (hL : ∀ v ∈ L, I v) {x : Value} (hx : I x) (few : L.length + 1 < 64) {Q : Bool → Shared → Prop}
    (k : ∀ b h' L' es' ep' t', Heap.SameBut a s.heap h' → Tb w key hs h' a L' es' ep' t' → (key x ∈ L.map key → L' = L) → (key x ∉ L.map key → L'.Perm (x :: L)) → Q b { s with heap := h' }) : wpAny (model P w) A (setAddHashed a x (hs x)) Q E s := by
  obtain ⟨o, ho, ox, od⟩ := B.ob
  obtain ⟨b, ex⟩ := O.ref x hx
  have notScan : ¬ byScan x es = true := by rw [ex]; simp [byScan, Value.scannable]
  have rm := B.room
  unfold setAddHashed
  refine wpAny_holding ?_
  rw [show (100000 : Nat) = 99999 + 1 from rfl, setAddHashedIn_succ]
  refine wpAny_bind (wpAny_setState_of ho od B.fit ?_)
  dsimp only
  refine wp_if_neg notScan ?_
  try refine wpAny_bind (wpAny_pure ?_)
  refine wpAny_bind (seek0 B M O st hL hx (fun there => ?_) fun K new free full => ?_)
  · dsimp only
    exact wpAny_pure (k false s.heap L es ep t (Heap.SameBut.refl a s.heap) B (fun _ => rfl) fun z => absurd there z)
  dsimp only
  refine wpAny_bind (wpAny_setState_of ho od B.fit ?_)
  dsimp only
  obtain ⟨e2, hpos, T, em, el, _, _, _, efill⟩ := B.tab.put free full
  generalize t.put (way t.mask (hs x) K) = Z at e2 T em el efill ⊢
  obtain ⟨t1, pos⟩ := Z
  dsimp only at e2 T em el efill ⊢
  rw [← e2] at hpos T
  rw [List.length_map] at hpos efill
  -- the rows with one more
  have mp : (L.take pos ++ x :: L.drop pos).map hs = (L.map hs).take pos ++ hs x :: (L.map hs).drop pos := by rw [List.map_append, List.map_cons, List.map_take, List.map_drop]
  rw [← mp] at T
  have rows : (SetTable.insertAt es pos (hs x, x)).toList = (L.take pos ++ x :: L.drop pos).map fun v => (hs v, v) := by
    rw [SetTable.toList_insertAt, B.es, List.map_append, List.map_cons, List.map_take, List.map_drop]
  have perm : (L.take pos ++ x :: L.drop pos).Perm (x :: L) := put_perm L pos x
  generalize L.take pos ++ x :: L.drop pos = L1 at T rows perm
  have len1 : L1.length = L.length + 1 := perm.length_eq
  have sz1 : (SetTable.insertAt es pos (hs x, x)).size = L.length + 1 := by rw [← Array.length_toList, rows, List.length_map, len1]
  generalize SetTable.insertAt es pos (hs x, x) = es1 at rows sz1 ⊢
  have nd1 : (L1.map key).Nodup := (perm.map key).nodup_iff.mpr (List.nodup_cons.mpr ⟨new, B.nd⟩)
  -- whatever the mark becomes
  have rest : ∀ t2 : SetTable, t2.place = t1.place → t2.dummies = t1.dummies → t2.mask = t1.mask → t2.led = t1.led → TabOk t2 (L1.map hs) → wpAny (model P w) A (do
      storeSet a es1 t2
      if (!false && t2.tooFull) = true then do setRelay a (SetTable.grown (es.size + 1)); pure true else pure true) Q E s := fun t2 p1 p2 p3 p4 T2 => by
    refine wpAny_bind (wpAny_storeSet_of ho od ?_ (by rw [sz1, sizeLine_eq]; omega))
    have sb : Heap.SameBut a s.heap (s.heap.update a (Obj.putSet es1 t2)) := Heap.SameBut.update ..
    have ho1 := store_at (es' := es1) (t' := t2) ho od
    generalize s.heap.update a (Obj.putSet es1 t2) = h1 at sb ho1 ⊢
    have led2 : w.params.followText "set-order" = true ∨ t2.led = true := by rw [p4, el]; exact B.led
    have fill2 : t2.fill = L.length + 1 := by
      rw [← efill]
      unfold SetTable.fill
      rw [p1, p2]
    by_cases full2 : t2.tooFull = true
    · refine wp_if_pos (by rw [full2]; rfl) (wpAny_bind ?_)
      have big : (L.length + 1) * 5 ≥ t2.mask * 3 := by
        have q := full2
        unfold SetTable.tooFull at q
        rw [decide_eq_true_eq, fill2] at q
        exact q
      rw [p3, em] at big
      rw [B.size]
      have size2 : t2.place.size = es1.size := by rw [T2.sz, List.length_map, len1, sz1]
      have go : ∀ m, SetTable.sizeAbove (SetTable.grown (L.length + 1)) - 1 = m → MaskOk m → SetTable.sizeAbove (SetTable.grown (L.length + 1)) ≤ 128 → (L.length + 1) * 5 < m * 3 →
          wpAny (model P w) A (setRelay a (SetTable.grown (L.length + 1))) (fun _ s' => wpAny (model P w) A (pure true) Q E s') E { s with heap := h1 } := fun m g1 g2 g3 g4 =>
        relay (key := key) (hs := hs) (s := { s with heap := h1 }) ho1 ⟨ox.1, ox.2.1, ox.2.2⟩ rfl rows size2 T2.dm (by rw [sz1, p3, em]; omega) nd1 led2 (by omega) g1 g2 g3 (by omega) fun h' L' es' ep' t' sb2 B2 perm2 =>
          wpAny_pure (k true h' L' es' ep' t' (sb.trans sb2) B2 (fun z => absurd z new) fun _ => perm2.trans perm)
      rcases B.tab.mok with e | e | e
      · have e4 : L.length = 4 := by rw [e] at big rm; omega
        refine go 31 ?_ (.inr (.inl rfl)) ?_ ?_ <;> rw [e4] <;> first | (rw [size_20]) | omega
        all_goals decide
      · have e18 : L.length = 18 := by rw [e] at big rm; omega
        refine go 127 ?_ (.inr (.inr rfl)) ?_ ?_ <;> rw [e18] <;> first | (rw [size_76]) | omega
        all_goals decide
      · rw [e] at big
        omega
    · refine wp_if_neg (by simpa using full2) (wpAny_pure (k true h1 L1 es1 (ep + 1) t2 sb ⟨⟨_, ho1, ⟨ox.1, ox.2.1, ox.2.2⟩, rfl⟩, rows, T2, nd1, led2, ?_, by omega⟩ (fun z => absurd z new) fun _ => perm))
      have q := full2
      unfold SetTable.tooFull at q
      rw [decide_eq_true_eq, fill2] at q
      omega
  have T0 : TabOk { t1 with plain := false } (L1.map hs) := ⟨T.ris, T.dm, T.sz, T.mok, T.bd, T.reach⟩
  by_cases pl : t1.plain = true
  · first
      | refine wp_if_pos pl (wpAny_bind (O.plain x hx s _ _ st fun b2 => ?_))
      | refine wpAny_bind (wp_if_pos pl (O.plain x hx s _ _ st fun b2 => ?_))
    cases b2 with
    | true =>
      simp only [if_true]
      exact rest t1 rfl rfl rfl rfl T
    | false =>
      simp only [Bool.false_eq_true, if_false]
      exact rest _ rfl rfl rfl rfl T0
  · first
      | refine wp_if_neg pl ?_
      | refine wpAny_bind (wp_if_neg pl (wpAny_pure ?_))
    try refine wpAny_bind (wpAny_pure ?_)
    simp only [if_true]
    exact rest t1 rfl rfl rfl rfl T
end
end VI
namespace VI
open PySem PySem.Spec PyProof.Rows L2
abbrev newSet (w : World) : Obj := { cls := .type "set", dict := none, data := .set #[] 0 (.fresh 0 0 (!w.params.followText "set-order")) }
/-- a set at a that can take items -/
structure Grow (P : Program) (w : World) (A : Around) (h0 : Heap) (a : Addr) {κ : Type} [DecidableEq κ] (I : Value → Prop) (key : Value → κ) (hs : Value → Int) (S : Heap → List Value → Prop) : Prop where
  new : ∀ h : Heap, h.get? a = some (newSet w) → S h []
  keep : ∀ (h h' : Heap) (L : List Value), S h L → (∀ o, h.get? a = some o → h'.get? a = some o) → S h' L
  hash : ∀ x, I x → ∃ d : Nat, ∀ (s : Shared) (E : Value → Shared → Prop) (Q : Int → Shared → Prop), Stay h0 s.heap → Q (hs x) { s with toks := s.toks + d } → wpAny (model P w) A (pyHash x) Q E s
  add : ∀ (s : Shared) (E : Value → Shared → Prop) (Q : Bool → Shared → Prop) (L : List Value) (x : Value), S s.heap L → Stay h0 s.heap → (∀ v ∈ L, I v) → I x → L.length + 1 < 64 →
    (∀ b h' L', Heap.SameBut a s.heap h' → S h' L' → (key x ∈ L.map key → L' = L) → (key x ∉ L.map key → L'.Perm (x :: L)) → Q b { s with heap := h' }) → wpAny (model P w) A (setAddHashed a x (hs x)) Q E s
/-- what is in it behind the first items -/
structure Took {κ : Type} (key : Value → κ) (vs : List Value) (L : List Value) : Prop where
  sub : ∀ v ∈ L, v ∈ vs
  all : ∀ v ∈ vs, key v ∈ L.map key
  len : L.length ≤ vs.length
section
variable {P : Program} {w : World} {A : Around} {E : Value → Shared → Prop} {s : Shared} {κ : Type} [DecidableEq κ] {I : Value → Prop} {key : Value → κ} {hs : Value → Int} {S : Heap → List Value → Prop}
theorem Took.more {vs L L' : List Value} {x : Value} (g : Took key vs L) (h1 : key x ∈ L.map key → L' = L) (h2 : key x ∉ L.map key → L'.Perm (x :: L)) : Took key (vs ++ [x]) L' := by
  by_cases q : key x ∈ L.map key
  · rw [h1 q]
    refine ⟨fun v hv => List.mem_append_left _ (g.sub v hv), fun v hv => ?_, by rw [List.length_append]; exact Nat.le_trans g.len (Nat.le_add_right _ _)⟩
    rcases List.mem_append.mp hv with z | z
    · exact g.all v z
    · rw [List.mem_singleton.mp z]
      exact q
  · have p := h2 q
    refine ⟨fun v hv => ?_, fun v hv => ?_, by rw [p.length_eq, List.length_append, List.length_cons]; exact Nat.succ_le_succ g.len⟩
    · rcases List.mem_cons.mp (p.mem_iff.mp hv) with z | z
      · rw [z]
        exact List.mem_append_right _ (List.mem_singleton.mpr rfl)
      · exact List.mem_append_left _ (g.sub v z)
    · rw [(p.map key).mem_iff, List.map_cons]
      rcases List.mem_append.mp hv with z | z
      · exact List.mem_cons_of_mem _ (g.all v z)
      · rw [List.mem_singleton.mp z]
        exact List.mem_cons_self
theorem turns {J : Addr} {fp wr : List Addr} {G : Array GenState → Array GenState → Prop} {its : Array Value} {St : Nat → Shared → Prop} {a : Addr} {h0 : Heap} (W : WalksS P w A.in1 J fp wr G its.size (fun i v => its[i]? = some v) St)
    (out : a ∉ fp) (Gr : Grow P w A.in1 h0 a I key hs S) (hi : ∀ v ∈ its.toList, I v) (few : its.size < 64) (na : h0.get? a = none) (nw : ∀ b ∈ wr, h0.get? b = none) {R : Result → Shared → Prop} : ∀ (m i : Nat) (s : Shared), i + m = its.size → St i s → Stay h0 s.heap →
      (∃ L, S s.heap L ∧ Took key (its.toList.take i) L) → (∀ s' L, Moved (a :: wr) G s s' → S s'.heap L → Took key its.toList L → Stay h0 s'.heap → R (.ok (.ret .none)) s') →
      codeAny (model P w) A (.builtin "set.update.loop" ⟨[.ref a, .ref J], []⟩) R s := by
  have away : a ∉ wr := fun z => out (W.sub _ z)
  have stay : ∀ {s s' : Shared}, Moved wr G s s' → Stay h0 s.heap → Stay h0 s'.heap := fun mv st b o e => mv.heap b o (fun z => by rw [nw b z] at e; cases e) (st b o e)
  have more : ∀ b ∈ wr, b ∈ a :: wr := fun b z => List.mem_cons_of_mem _ z
  intro m
  induction m with
  | zero =>
    intro i s him here st ⟨L, hS, g⟩ k
    have ei : i = its.size := by omega
    subst ei
    refine codeAny_builtin F.entry_set_update_loop ?_
    rw [Around.under_plainId F.plain_set_update_loop _]
    show wpAny _ A.in1 (pyNext (.ref J) >>= _) _ _ s
    refine wpAny_bind (W.done s _ _ here fun s' mv => ?_)
    show wpAny _ A.in1 (ret Value.none) _ _ s'
    rw [List.take_of_length_le (by rw [Array.length_toList]; exact Nat.le_refl _)] at g
    exact wpAny_pure (k s' L (mv.mono more) (Gr.keep _ _ _ hS fun o e => mv.heap a o away e) g (stay mv st))
  | succ m ih =>
    intro i s him here st ⟨L, hS, g⟩ k
    refine codeAny_builtin F.entry_set_update_loop ?_
    rw [Around.under_plainId F.plain_set_update_loop _]
    show wpAny _ A.in1 (pyNext (.ref J) >>= _) _ _ s
    refine wpAny_bind (W.item i s _ _ (by omega) here fun x s1 ex here1 mv => ?_)
    have ex' : its.toList[i]? = some x := by rw [Array.getElem?_toList]; exact ex
    have ix := hi x (List.mem_of_getElem? ex')
    have st1 := stay mv st
    obtain ⟨d, hh⟩ := Gr.hash x ix
    show wpAny _ A.in1 (holding [x] (setAdd a x) >>= _) _ _ s1
    refine wpAny_bind (wpAny_holding ?_)
    unfold setAdd
    refine wpAny_holding (wpAny_bind (hh s1 _ _ st1 ?_))
    refine Gr.add { s1 with toks := s1.toks + d } _ _ L x (Gr.keep _ _ _ hS fun o e => mv.heap a o away e) st1 (fun v hv => hi v (List.mem_of_mem_take (g.sub v hv))) ix ?_ fun b h' L' sb hS' c1 c2 => ?_
    · have q := g.len
      rw [List.length_take] at q
      omega
    have st2 : Stay h0 h' := fun b o e => (sb.2 b (fun z => by rw [z, na] at e; cases e)).trans (st1 b o e)
    have g' := g.more c1 c2
    rw [← take_next ex'] at g'
    refine wpAny_pure ⟨plainId_quiet F.plain_set_update_loop _, ih (i + 1) _ (by omega) (W.frame _ s1 _ _ here1 (Nat.le_add_right _ _) fun b hb o e => ?_) st2 ⟨L', hS', g'⟩ fun s3 L3 mv3 hS3 g3 st3 => ?_⟩
    · rw [sb.2 b (fun z => out (z ▸ hb))]
      exact e
    · refine k s3 L3 (Moved.trans W.gtrans ((mv.mono more).then_heap (Nat.le_add_right _ _) fun b o hb e => ?_) mv3) hS3 g3 st3
      rw [sb.2 b (fun z => hb (z ▸ List.mem_cons_self))]
      exact e
set_option maxHeartbeats 3200000 in
/-- set(xs), xs of the class T -/
theorem set_of {l : Addr} {its : Array Value} {T : String} {Q : Value → Shared → Prop} (hh : A.handled = none) (hl : ∃ o, s.heap.get? l = some o ∧ o.cls = .type T ∧ ∃ n, o.data = .seq its n)
    (t1 : isSubtype (.type T) (.type "set") = pure false) (t2 : isSubtype (.type T) (.type "frozenset") = pure false) (t3 : (Value.type T == Value.type "dict") = false)
    (walk : ∀ h1 : Heap, (∀ o, s.heap.get? l = some o → h1.get? l = some o) → ∀ (s1 : Shared) (E' : Value → Shared → Prop) (Q' : Value → Shared → Prop), s1.heap = h1 →
      (∀ J wr fp G St s2, WalksS P w A.in1.in1.in1 J fp wr G its.size (fun i v => its[i]? = some v) St → St 0 s2 → (∀ b o, h1.get? b = some o → s2.heap.get? b = some o) → s2.gens = s1.gens → s2.drawn = s1.drawn → s2.os = s1.os →
        (∀ b ∈ fp, b = l ∨ h1.objs.size ≤ b) → (∀ b ∈ wr, h1.objs.size ≤ b) → (∀ x y, G x y → y = x) → Q' (.ref J) s2) → wpAny (model P w) A.in1.in1 (pyIter (.ref l)) Q' E' s1)
    (Gr : Grow P w A.in1.in1.in1 s.heap s.heap.objs.size I key hs S) (hi : ∀ v ∈ its.toList, I v) (few : its.size < 64)
    (k : ∀ (h' : Heap) (tk : Nat) (L : List Value), S h' L → Took key its.toList L → Stay s.heap h' → Q (.ref s.heap.objs.size) { s with heap := h', toks := tk }) : wpAny (model P w) A (call (.type "set") [.ref l]) Q E s := by
  obtain ⟨c, tl, hmro⟩ := F.called_set.mro
  have hmade := F.called_set.made
  have hsub := F.called_set.sub
  refine wpAny_call (codeAny_of_tree ?_)
  show wpAny _ _ (callAny (.type "set") _) _ _ _
  refine wpAny_pure ⟨Code.quiet_builtin _ (by decide +kernel), codeAny_builtin F.entry_type_call ?_⟩
  rw [Around.under_plain (weight_type_call_type "set" [.ref l] []) rfl]
  have f1 := F.called_set.notType
  have f2 := F.called_set.canCreate
  have f3 := F.typeCall_set_1 (.ref l)
  repeat (any_goals (first | assumption | wp_step))
  obtain ⟨h1, eh1⟩ : ∃ h1, h1 = s.heap.push (newSet w) := ⟨_, rfl⟩
  have gone : s.heap.get? s.heap.objs.size = none := by
    cases q : s.heap.get? s.heap.objs.size with
    | none => rfl
    | some o => exact absurd (Heap.lt_size q) (Nat.lt_irrefl _)
  have old1 : ∀ b o, s.heap.get? b = some o → h1.get? b = some o := fun b o e => by rw [eh1]; exact Heap.get?_push_of_some _ e
  have new1 : h1.get? s.heap.objs.size = some (newSet w) := by rw [eh1]; exact Heap.get?_push_size _ rfl
  have size1 : h1.objs.size = s.heap.objs.size + 1 := by rw [eh1]; exact Heap.size_push ..
  refine codeAny_mono (code_set_led1 (.ref l) (E := E) (Q₁ := fun v s' => v = .ref s.heap.objs.size ∧ s' = { s with heap := h1 }) ⟨rfl, by rw [eh1]⟩) fun r s' hr => ?_
  cases r with
  | error e => exact hr
  | ok fl => cases fl with
    | ret v =>
      obtain ⟨ev, es'⟩ := hr
      subst ev es'
      have ty : Shared.TypeIs { s with heap := h1 } (.ref s.heap.objs.size) "set" := ⟨_, new1, rfl⟩
      have f4 := F.called_set.init.lookup
      have f5 := F.called_set.init.bind (.ref s.heap.objs.size)
      repeat (any_goals (first | assumption | wp_step))
      refine codeAny_mono (codeAny_call_builtin (R := wants (fun v s2 => v = .none ∧ ∃ h' tk L, s2 = { s with heap := h', toks := tk } ∧ S h' L ∧ Took key its.toList L ∧ Stay s.heap h') E) F.called_set.init.plain F.entry_set_init (check_set_init_1 ty ?_)) fun r2 s2 hr2 => ?_
      · obtain ⟨ol, hol, hcl, nl, hdl⟩ := hl
        obtain ⟨ocls, odict, odata, oslots⟩ := ol
        simp only at hcl hdl
        subst hcl; subst hdl
        have hol1 : h1.get? l = some { cls := .type T, dict := odict, data := .seq its nl, slots := oslots } := old1 _ _ hol
        unfold Builtin.«set.__init__» noKeywords Builtin.Frozenset.updateFrom
        generalize hPI : pyIter = PI
        wp_walk
        subst hPI
        refine walk h1 (fun o e => old1 l o e) _ _ _ rfl fun J wr fp G St s2 W here st g2 d2 o2 hfp hwr hG => ?_
        refine wpAny_bind (wpAny_runValue ?_)
        have none1 : ∀ b, h1.objs.size ≤ b → s.heap.get? b = none := fun b hb => by
          cases q : s.heap.get? b with
          | none => rfl
          | some o =>
            rw [size1] at hb
            exact absurd (Nat.lt_of_lt_of_le (Heap.lt_size q) (Nat.le_of_succ_le hb)) (Nat.lt_irrefl _)
        have stay2 : Stay s.heap s2.heap := fun b o e => st b o (old1 b o e)
        refine turns W (fun z => ?_) Gr hi few gone (fun b hb => none1 b (hwr b hb)) its.size 0 s2 (by omega) here stay2 ⟨[], Gr.new _ (st _ _ new1), ⟨fun v hv => (by cases hv), fun v hv => (by simp at hv), Nat.zero_le _⟩⟩ fun s3 L mv hS g st3 => ?_
        · rcases hfp _ z with q | q
          · have q2 := Heap.lt_size hol
            rw [← q] at q2
            exact absurd q2 (Nat.lt_irrefl _)
          · rw [size1] at q
            omega
        · obtain ⟨h', g3, d3, tk, os3⟩ := s3
          have e1 : g3 = s.gens := (hG _ _ mv.gens).trans g2
          have e2 : d3 = s.drawn := mv.drawn.trans d2
          have e3 : os3 = s.os := mv.os.trans o2
          subst e1 e2 e3
          refine wpAny_pure ?_
          show wpAny _ _ (ret Value.none) _ _ _
          exact wpAny_pure ⟨rfl, h', tk, L, rfl, hS, g, st3⟩
      · cases r2 with
        | error e => exact hr2
        | ok fl2 => cases fl2 with
          | ret r =>
            obtain ⟨er, h', tk, L, e2, hS, g, st3⟩ := hr2
            subst er e2
            repeat (any_goals (first | assumption | wp_step))
            exact k _ _ _ hS g st3
          | _ => exact hr2.elim
    | _ => exact hr.elim
end
end VI
namespace VI
open PySem PySem.Spec PyProof.Rows L2
section
variable {P : Program} {w : World} {A : Around} {E : Value → Shared → Prop} {s : Shared} {κ : Type} [DecidableEq κ] {I : Value → Prop} {key : Value → κ} {hs : Value → Int} {S : Heap → List Value → Prop}
/-- set(xs) of a list, of a tuple -/
theorem set_seq {l : Addr} {its : Array Value} {Q : Value → Shared → Prop} (hh : A.handled = none) (hl : s.heap.IsList l its ∨ s.heap.IsTuple l its)
    (Gr : Grow P w A.in1.in1.in1 s.heap s.heap.objs.size I key hs S) (hi : ∀ v ∈ its.toList, I v) (few : its.size < 64)
    (k : ∀ (h' : Heap) (tk : Nat) (L : List Value), S h' L → Took key its.toList L → Stay s.heap h' → Q (.ref s.heap.objs.size) { s with heap := h', toks := tk }) : wpAny (model P w) A (call (.type "set") [.ref l]) Q E s := by
  have h3 : A.in1.in1.in1.handled = none := by simp [hh]
  have lt : ∀ {h1 : Heap} {o : Obj}, h1.get? l = some o → l < h1.objs.size := fun e => Heap.lt_size e
  rcases hl with hl | hl
  · obtain ⟨o, ho, oc, n, od⟩ := hl
    refine set_of hh ⟨o, ho, oc, n, od⟩ F.sub_list_set F.sub_list_frozenset (by decide) (fun h1 kp s1 E' Q' e1 k1 => ?_) Gr hi few k
    subst e1
    have here : s1.heap.IsList l its := ⟨o, kp o ho, oc, n, od⟩
    have near := lt (kp o ho)
    refine wpAny_pyIter_list here ?_
    refine k1 _ _ _ _ _ _ ((Walks.list h3 _ l (Nat.ne_of_lt near) its).toS) ⟨⟨_, Heap.get?_push_size _ rfl, rfl, rfl⟩, here.push _⟩ (fun b o e => Heap.get?_push_of_some _ e) rfl rfl rfl (fun b hb => ?_) (fun b hb => ?_) fun x y z => z
    · rcases List.mem_cons.mp hb with z | z
      · exact .inr (by rw [z]; exact Nat.le_refl _)
      · exact .inl (List.mem_singleton.mp z)
    · rw [List.mem_singleton.mp hb]
      exact Nat.le_refl _
  · obtain ⟨o, ho, oc, n, od⟩ := hl
    refine set_of hh ⟨o, ho, oc, n, od⟩ F.sub_tuple_set F.sub_tuple_frozenset (by decide) (fun h1 kp s1 E' Q' e1 k1 => ?_) Gr hi few k
    subst e1
    have here : s1.heap.IsTuple l its := ⟨o, kp o ho, oc, n, od⟩
    have near := lt (kp o ho)
    refine wpAny_pyIter_tuple here ?_
    refine k1 _ _ _ _ _ _ ((Walks.tuple h3 _ l (Nat.ne_of_lt near) its).toS) ⟨⟨_, Heap.get?_push_size _ rfl, rfl, rfl⟩, here.push _⟩ (fun b o e => Heap.get?_push_of_some _ e) rfl rfl rfl (fun b hb => ?_) (fun b hb => ?_) fun x y z => z
    · rcases List.mem_cons.mp hb with z | z
      · exact .inr (by rw [z]; exact Nat.le_refl _)
      · exact .inl (List.mem_singleton.mp z)
    · rw [List.mem_singleton.mp hb]
      exact Nat.le_refl _
/-- a set whose members are L, as far as gathering goes -/
structure Gath (w : World) (h : Heap) (a : Addr) (L : List Value) : Prop where
  ex : ∃ es ep t, SetAt h a es ep t ∧ t.fits es.size = true ∧ Ris t.place.toList ∧ (w.params.followText "set-order" = true ∨ t.led = true) ∧ (es.toList.map (·.2)).Perm L
  few : L.length < 64
theorem gather {a : Addr} {L : List Value} {Q : List Value → Shared → Prop} (hh : A.handled = none) (g : Gath w s.heap a L)
    (k : ∀ s' out, Stay s.heap s'.heap → s'.gens = s.gens → s'.os = s.os → s.heap.objs.size ≤ s'.heap.objs.size → out.Perm L → Q out s') : wpAny (model P w) A (collect (.ref a)) Q E s := by
  obtain ⟨es, ep, t, h1, h2, h3, h4, h5⟩ := g.ex
  have z : es.size = L.length := by rw [← h5.length_eq, List.length_map, Array.length_toList]
  have few := g.few
  refine collect_set hh h1 h2 (by unfold scanBound; omega) h3 h4 fun s' out g1 g2 g3 g4 g5 => k s' out g1 g3 g4 g2 (g5.trans h5)
/-- sorted(s), s a set -/
theorem sorted_gath {a : Addr} {L : List Value} {ltv : Value → Value → Bool} {Q : Value → Shared → Prop} (O : SrtO.Swo ltv) (hh : A.handled = none) (g : Gath w s.heap a L)
    (hS : ∀ (h1 : Heap) (b : Addr) (vs : List Value), 2 ≤ vs.length → vs.Perm L → h1.get? b = some (seqObj "list" vs.toArray 0) → (∀ c o, s.heap.get? c = some o → c ≠ b ∧ h1.get? c = some o) → ∀ s1 : Shared, s1.heap = h1 → SrtO.SortableO P w A.in1.in1 s1 b vs ltv)
    (k : ∀ s' p (out : List Value), SrtO.Srtd ltv out → out.Perm L → Stay s.heap s'.heap → s'.gens = s.gens → s'.os = s.os → s.heap.get? p = none → (∃ n, s'.heap.get? p = some (seqObj "list" out.toArray n)) → s.heap.objs.size ≤ p → Q (.ref p) s') :
    wpAny (model P w) A (call (.builtin "sorted") [.ref a]) Q E s := by
  refine Calls.call_function_entry kind_sorted plain_sorted entry_sorted (args_sorted1 _) ?_
  unfold Builtin.«sorted»
  refine wpAny_bind (m := checkCount "sorted" 1 1 _) (wpAny_pure ?_)
  have few := g.few
  refine wpAny_bind (gather (by simp [hh]) g fun s1 vs st e1 e2 e3 pm => ?_)
  have lv : vs.length < 64 := by rw [pm.length_eq]; exact few
  refine wpAny_bind (wpAny_newList ?_ (by rw [sizeLine_eq]; omega))
  have here : (s1.heap.push (seqObj "list" vs.toArray 0)).get? s1.heap.objs.size = some (seqObj "list" vs.toArray 0) := Heap.get?_push_size _ rfl
  refine wpAny_bind (wpAny_holding (wpAny_call_entry slot_list_sort ⟨_, here, rfl⟩ entry_list_sort (SrtO.list_sort_ord (s := { s1 with heap := s1.heap.push (seqObj "list" vs.toArray 0) }) O here (by rw [sizeLine_eq]; omega)
    (fun two => hS _ _ vs two pm here (fun c o e => ⟨fun z => ?_, Heap.get?_push_of_some _ (st c o e)⟩) _ rfl) fun out hs hb => ⟨_, rfl, ?_⟩) (args_list_sort _)))
  · have q := Heap.lt_size e
    rw [z] at q
    exact absurd (Nat.lt_of_lt_of_le q e3) (Nat.lt_irrefl _)
  · obtain ⟨c, hc⟩ := sortedHeap_at (vs := vs) (out := out.toArray) here
    refine wpAny_pure ⟨_, rfl, k _ s1.heap.objs.size out hs (hb.perm.trans pm) (fun b o e => ?_) e1 e2 ?_ ⟨c, hc⟩ e3⟩
    · have q := Heap.lt_size (st b o e)
      show (sortedHeap (s1.heap.push (seqObj "list" vs.toArray 0)) s1.heap.objs.size vs out.toArray).get? b = some o
      rw [sortedHeap_old (Nat.ne_of_lt q) (by rw [size_push']; exact Nat.lt_succ_of_lt q)]
      exact Heap.get?_push_of_some _ (st b o e)
    · cases q : s.heap.get? s1.heap.objs.size with
      | none => rfl
      | some o =>
        exact absurd (Nat.lt_of_lt_of_le (Heap.lt_size q) e3) (Nat.lt_irrefl _)
/-- objects beside -/
theorem grow_tb {h0 : Heap} {a : Addr} (M : Itm P w A h0 I key hs) (O : Obs P w A h0 I) : Grow P w A h0 a I key hs (fun h L => ∃ es ep t, Tb w key hs h a L es ep t) where
  new := fun h e => ⟨#[], 0, _, ⟨_, e, ⟨rfl, rfl, rfl⟩, rfl⟩, rfl, ⟨List.Pairwise.nil, rfl, rfl, .inl rfl, fun x hx => (by cases hx), fun i h j hi => (by simp at hi)⟩, List.nodup_nil, by
    show _ ∨ (!w.params.followText "set-order") = true
    cases w.params.followText "set-order"
    · exact .inr rfl
    · exact .inl rfl, by show 0 * 5 < 7 * 3; decide, by decide⟩
  keep := fun h h' L ⟨es, ep, t, ⟨o, ho, r⟩, b1, b2, b3, b4, b5, b6⟩ e => ⟨es, ep, t, ⟨o, e o ho, r⟩, b1, b2, b3, b4, b5, b6⟩
  hash := M.hash
  add := fun s E Q L x ⟨es, ep, t, B⟩ st hL hx few k => putIn B M O st hL hx few fun b h' L' es' ep' t' sb B' c1 c2 => k b h' L' sb ⟨es', ep', t', B'⟩ c1 c2
theorem Tb.gath {h : Heap} {a : Addr} {L : List Value} {es : Array (Int × Value)} {ep : Nat} {t : SetTable} (B : Tb w key hs h a L es ep t) : Gath w h a L := by
  obtain ⟨o, ho, ox, od⟩ := B.ob
  refine ⟨⟨es, ep, t, ⟨o, ho, ox.1, od⟩, B.fit, B.tab.ris, B.led, ?_⟩, B.few⟩
  rw [B.es, List.map_map]
  have e : ((fun x : Int × Value => x.2) ∘ fun v => (hs v, v)) = id := rfl
  rw [e, List.map_id]
end
def txt (v : Value) : Str := match v with
  | .str x _ => x
  | _ => ⟨#[]⟩
def IsTxt (v : Value) : Prop := ∃ x t, v = .str x t
/-- a set of texts -/
structure Tx (P : Program) (w : World) (h : Heap) (a : Addr) (L : List Value) : Prop where
  ex : ∃ o es ep t, h.get? a = some o ∧ o.ExactSet ∧ o.data = .set es ep t ∧ t.fits es.size = true ∧ Ris t.place.toList ∧ (w.params.followText "set-order" = true ∨ t.led = true) ∧ es.toList.Perm (L.map fun v => (hashStr w (txt v), v))
  nd : (L.map txt).Nodup
  ok : ∀ v ∈ L, IsTxt v
  few : L.length < 64
section
variable {P : Program} {w : World} {A : Around} {E : Value → Shared → Prop} {s : Shared}
theorem Tx.gath {h : Heap} {a : Addr} {L : List Value} (B : Tx P w h a L) : Gath w h a L := by
  obtain ⟨o, es, ep, t, h1, h2, h3, h4, h5, h6, h7⟩ := B.ex
  refine ⟨⟨es, ep, t, ⟨o, h1, h2.1, h3⟩, h4, h5, h6, ?_⟩, B.few⟩
  have q := h7.map (·.2)
  rw [List.map_map] at q
  have e : ((fun x : Int × Value => x.2) ∘ fun v => (hashStr w (txt v), v)) = id := rfl
  rw [e, List.map_id] at q
  exact q
theorem str_is (x : Str) (t : Tok) : (strKind P w).is x (.str x t) = true := by
  show Value.isStrOf x (.str x t) = true
  simp [Value.isStrOf, Value.isStr]
theorem str_mem {x : Str} {L : List Value} {l : List (Int × Value)} (ok : ∀ v ∈ L, IsTxt v) (h : l.Perm (L.map fun v => (hashStr w (txt v), v))) : (∃ e ∈ l, (strKind P w).is x e.2 = true) ↔ x ∈ L.map txt := by
  constructor
  · rintro ⟨e, m, i⟩
    obtain ⟨v, mv, ev⟩ := List.mem_map.mp (h.mem_iff.mp m)
    obtain ⟨y, t, rfl⟩ := ok v mv
    rw [← ev] at i
    have z := (strKind P w).inj _ _ _ i (str_is y t)
    rw [z]
    exact List.mem_map.mpr ⟨_, mv, rfl⟩
  · intro m
    obtain ⟨v, mv, ev⟩ := List.mem_map.mp m
    obtain ⟨y, t, rfl⟩ := ok v mv
    refine ⟨_, h.mem_iff.mpr (List.mem_map.mpr ⟨_, mv, rfl⟩), ?_⟩
    have e : y = x := ev
    rw [← e]
    exact str_is y t
theorem str_elems {L : List Value} {l : List (Int × Value)} (ok : ∀ v ∈ L, IsTxt v) (h : l.Perm (L.map fun v => (hashStr w (txt v), v))) : ElemsOf (strKind P w) l := fun e m => by
  obtain ⟨v, mv, ev⟩ := List.mem_map.mp (h.mem_iff.mp m)
  obtain ⟨y, t, rfl⟩ := ok v mv
  rw [← ev]
  exact ⟨⟨y, str_is y t, rfl⟩, rfl⟩
/-- what stands behind the search, when the text is new -/
theorem behind {a : Addr} {o : Obj} {es : Array (Int × Value)} {ep : Nat} {t : SetTable} {g : Bool → Sem Unit} (hg : ∀ (b : Bool) (s1 : Shared) (Q' : Unit → Shared → Prop), Q' () s1 → wpAny (model P w) A (g b) Q' E s1) (ho : s.heap.get? a = some o) (od : o.data = .set es ep t)
    {es1 : Array (Int × Value)} {t2 : SetTable} (few : es1.size < scanBound) (fit : t2.fits es1.size = true) (ris : Ris t2.place.toList) {wd : Bool} {R : Option Bool → Shared → Prop}
    (k : ∀ h' es' ep' t', Heap.SameBut a s.heap h' → h'.get? a = some { o with data := .set es' ep' t' } → es'.toList.Perm es1.toList → t'.fits es'.size = true → Ris t'.place.toList → t'.led = t2.led → R (some true) { s with heap := h' }) :
    wpAny (model P w) A (do
        storeSet a es1 t2
        if (!wd && t2.tooFull) = true then do
            g (relayAll t2 es1 (SetTable.grown es1.size)).2.2
            storeSet a (relayAll t2 es1 (SetTable.grown es1.size)).1 (relayAll t2 es1 (SetTable.grown es1.size)).2.1
            pure (some true)
          else pure (some true)) R E s := by
  refine wpAny_bind (wpAny_storeSet_of ho od ?_ (fits_of_scanBound few))
  have h1 := store_at (es' := es1) (t' := t2) ho od
  have b1 := Heap.SameBut.update s.heap a (Obj.putSet es1 t2)
  split
  · have p1 := relayAll_perm t2 es1 (SetTable.grown es1.size)
    have p2 := relayAll_fits t2 es1 (SetTable.grown es1.size)
    have p3 := relayAll_ris t2 es1 (SetTable.grown es1.size)
    have p4 := relayAll_led t2 es1 (SetTable.grown es1.size)
    generalize relayAll t2 es1 (SetTable.grown es1.size) = Z at p1 p2 p3 p4 ⊢
    obtain ⟨es2, t3, gave⟩ := Z
    dsimp only at p1 p2 p3 p4 ⊢
    have sz : es2.size = es1.size := p1.length_eq
    refine wpAny_bind (hg _ _ _ (wpAny_bind (wpAny_storeSet_of h1 rfl ?_ (fits_of_scanBound (by rw [sz]; exact few)))))
    have h2 := store_at (es' := es2) (t' := t3) h1 rfl
    exact wpAny_pure (k _ es2 _ t3 (b1.trans (Heap.SameBut.update ..)) h2 p1 p2 p3 p4)
  · exact wpAny_pure (k _ es1 _ t2 b1 h1 (List.Perm.refl _) fit ris rfl)
theorem putTx {a : Addr} {L : List Value} {x : Str} {tk : Tok} {Q : Bool → Shared → Prop} (B : Tx P w s.heap a L) (few : L.length + 1 < 64)
    (k : ∀ b h' L', Heap.SameBut a s.heap h' → Tx P w h' a L' → (x ∈ L.map txt → L' = L) → (x ∉ L.map txt → L'.Perm (.str x tk :: L)) → Q b { s with heap := h' }) : wpAny (model P w) A (setAddHashed a (.str x tk) (hashStr w x)) Q E s := by
  obtain ⟨o, es, ep, t, ho, ox, od, fit, ris, led, pm⟩ := B.ex
  have sz : es.size = L.length := by rw [← Array.length_toList, pm.length_eq, List.length_map]
  have bd : es.size < scanBound := by unfold scanBound; omega
  have el : ElemsOf (strKind P w) es.toList := str_elems B.ok pm
  have sc : (Value.str x tk).scannable = true := rfl
  unfold setAddHashed setAddHashedIn
  refine wpAny_holding (wpAny_bind (wpAny_setState_of ho od fit ?_))
  dsimp only
  rw [byScan_of sc bd el]
  simp only [↓reduceIte]
  unfold setAddByScan
  refine wpAny_bind (wpAny_bind (wpAny_rule (wpAny_bind (wpAny_setScan_of (knd := strKind P w) (k := x) (str_is x tk) ho od fit el ?_))))
  have mem := str_mem (P := P) (x := x) B.ok pm
  cases found : List.findIdx? (fun e => (strKind P w).is x e.2) es.toList with
  | some j =>
    dsimp only
    obtain ⟨hj, pj, _⟩ := List.findIdx?_eq_some_iff_getElem.mp found
    have isIn : x ∈ L.map txt := mem.mp ⟨_, List.getElem_mem hj, pj⟩
    exact wpAny_pure (wpAny_pure (k false s.heap L (Heap.SameBut.refl a s.heap) B (fun _ => rfl) fun z => absurd isIn z))
  | none =>
    dsimp only
    have new : x ∉ L.map txt := fun z => by
      obtain ⟨e, m, i⟩ := mem.mpr z
      have c := List.findIdx?_eq_none_iff.mp found e m
      rw [i] at c
      cases c
    have p1 := layNew_perm t es (hashStr w x) (.str x tk)
    have p2 := layNew_fits t es (hashStr w x) (.str x tk)
    have p3 := layNew_ris t es (hashStr w x) (.str x tk) ris
    have p4 := layNew_led t es (hashStr w x) (.str x tk)
    generalize layNew t es (hashStr w x) (.str x tk) = Z at p1 p2 p3 p4 ⊢
    obtain ⟨es1, t1, wd, gave⟩ := Z
    dsimp only at p1 p2 p3 p4 ⊢
    rw [Array.toList_push] at p1
    have q1 : es1.toList.Perm ((.str x tk :: L).map fun v => (hashStr w (txt v), v)) := (p1.trans (List.perm_append_singleton _ _)).trans (pm.cons _)
    have sz1 : es1.size = L.length + 1 := by rw [← Array.length_toList, q1.length_eq, List.length_map, List.length_cons]
    have bd1 : es1.size < scanBound := by unfold scanBound; omega
    have fin : ∀ h' es' ep' t', Heap.SameBut a s.heap h' → h'.get? a = some { o with data := .set es' ep' t' } → es'.toList.Perm es1.toList → t'.fits es'.size = true → Ris t'.place.toList → t'.led = t1.led → Q true { s with heap := h' } := fun h' es' ep' t' sb g1 g2 g3 g4 g5 =>
      k true h' (.str x tk :: L) sb ⟨⟨_, es', ep', t', g1, ⟨ox.1, ox.2.1, ox.2.2⟩, rfl, g3, g4, by rw [g5, p4]; exact led, g2.trans q1⟩, List.nodup_cons.mpr ⟨new, B.nd⟩, fun v hv => by
        rcases List.mem_cons.mp hv with z | z
        · exact ⟨x, tk, z⟩
        · exact B.ok v z, by rw [List.length_cons]; exact few⟩ (fun z => absurd z new) fun _ => List.Perm.refl _
    have say : ∀ (b : Bool) (s1 : Shared) (Q' : Unit → Shared → Prop), Q' () s1 → wpAny (model P w) A (match b with | true => rule "set.scan.the-table-gave-way" | false => pure ()) Q' E s1 := fun b s1 Q' q => by
      cases b with
      | true => exact wpAny_rule q
      | false => exact wpAny_pure q
    refine wpAny_bind (say _ _ _ ?_)
    split
    · refine wpAny_bind ?_
      rw [hashByValue_scannable 8 sc]
      refine wpAny_pure ?_
      refine behind (s := s) (fun b s1 Q' q => say b s1 Q' q) ho od bd1 (SetTable.fits_plain_off p2) p3 fun h' es' ep' t' sb g1 g2 g3 g4 g5 => ?_
      dsimp only
      exact wpAny_pure (fin h' es' ep' t' sb g1 g2 g3 g4 g5)
    · refine wpAny_bind (wpAny_pure ?_)
      simp only [↓reduceIte]
      refine behind (s := s) (fun b s1 Q' q => say b s1 Q' q) ho od bd1 p2 p3 fun h' es' ep' t' sb g1 g2 g3 g4 g5 => ?_
      dsimp only
      exact wpAny_pure (fin h' es' ep' t' sb g1 g2 g3 g4 g5)
/-- a set that takes texts -/
theorem grow_tx {h0 : Heap} {a : Addr} : Grow P w A h0 a IsTxt txt (fun v => hashStr w (txt v)) (fun h L => Tx P w h a L) where
  new := fun h e => ⟨⟨_, #[], 0, _, e, ⟨rfl, rfl, rfl⟩, rfl, rfl, List.Pairwise.nil, by
    show _ ∨ (!w.params.followText "set-order") = true
    cases w.params.followText "set-order"
    · exact .inr rfl
    · exact .inl rfl, List.Perm.refl _⟩, List.nodup_nil, fun v hv => (by cases hv), by decide⟩
  keep := fun h h' L B e => by
    obtain ⟨o, es, ep, t, ho, r⟩ := B.ex
    exact ⟨⟨o, es, ep, t, e o ho, r⟩, B.nd, B.ok, B.few⟩
  hash := fun x ix => by
    obtain ⟨y, t, rfl⟩ := ix
    exact ⟨1, fun s E Q st q => (strKind P w).pyHash (k := y) (str_is y t) q⟩
  add := fun s E Q L x B st hL hx few k => by
    obtain ⟨y, t, rfl⟩ := hx
    exact putTx B few k
end
end VI
namespace VI
open PySem PySem.Spec PyProof.Rows L2
def insU {α : Type} (lt : α → α → Bool) (x : α) : List α → List α
  | [] => [x]
  | y :: r => if lt x y = true then x :: y :: r else if lt y x = true then y :: insU lt x r else y :: r
def sortU {α : Type} (lt : α → α → Bool) : List α → List α
  | [] => []
  | x :: r => insU lt x (sortU lt r)
def ltS (x y : Str) : Bool := decide (x.cps.toList < y.cps.toList)
def ltL : List Str → List Str → Bool
  | [], [] => false
  | [], _ :: _ => true
  | _ :: _, [] => false
  | x :: r, y :: s => if x = y then ltL r s else ltS x y
/-- a strict order of all -/
structure Tot {α : Type} (lt : α → α → Bool) : Prop where
  irr : ∀ x, lt x x = false
  tri : ∀ x y, x ≠ y → lt x y = true ∨ lt y x = true
  trans : ∀ x y z, lt x y = true → lt y z = true → lt x z = true
theorem Tot.asym {α : Type} {lt : α → α → Bool} (T : Tot lt) {x y : α} (h : lt x y = true) : lt y x = false := by
  cases q : lt y x with
  | false => rfl
  | true =>
    have z := T.trans x y x h q
    rw [T.irr] at z
    cases z
theorem Tot.swo {α β : Type} {lt : α → α → Bool} (T : Tot lt) (f : β → α) : SrtO.Swo (fun u v => lt (f u) (f v)) := ⟨fun x y h => T.asym h, fun x y z h1 h2 => by
  cases q : lt (f z) (f x) with
  | false => rfl
  | true =>
    by_cases e : f x = f y
    · rw [e] at q
      rw [q] at h2
      cases h2
    · rcases T.tri _ _ e with g | g
      · have z := T.trans _ _ _ q g
        rw [z] at h2
        cases h2
      · rw [g] at h1
        cases h1⟩
theorem mem_insU {α : Type} {lt : α → α → Bool} (T : Tot lt) {x z : α} : ∀ {l : List α}, z ∈ insU lt x l ↔ z = x ∨ z ∈ l
  | [] => by simp [insU]
  | y :: r => by
    unfold insU
    by_cases h1 : lt x y = true
    · rw [if_pos h1, List.mem_cons]
    · rw [if_neg h1]
      by_cases h2 : lt y x = true
      · rw [if_pos h2, List.mem_cons, mem_insU T, List.mem_cons]
        constructor
        · rintro (h | h | h)
          · exact .inr (.inl h)
          · exact .inl h
          · exact .inr (.inr h)
        · rintro (h | h | h)
          · exact .inr (.inl h)
          · exact .inl h
          · exact .inr (.inr h)
      · rw [if_neg h2]
        have e : x = y := Classical.byContradiction fun ne => (T.tri x y ne).elim h1 h2
        rw [e, List.mem_cons]
        constructor
        · exact .inr
        · rintro (h | h)
          · exact .inl h
          · exact h
theorem mem_sortU {α : Type} {lt : α → α → Bool} (T : Tot lt) {z : α} : ∀ {l : List α}, z ∈ sortU lt l ↔ z ∈ l
  | [] => Iff.rfl
  | x :: r => by
    show z ∈ insU lt x (sortU lt r) ↔ _
    rw [mem_insU T, mem_sortU T, List.mem_cons]
theorem insU_asc {α : Type} {lt : α → α → Bool} (T : Tot lt) {x : α} : ∀ {l : List α}, l.Pairwise (fun u v => lt u v = true) → (insU lt x l).Pairwise (fun u v => lt u v = true)
  | [], _ => List.pairwise_singleton _ _
  | y :: r, h => by
    obtain ⟨a, b⟩ := List.pairwise_cons.mp h
    unfold insU
    by_cases h1 : lt x y = true
    · rw [if_pos h1]
      refine List.pairwise_cons.mpr ⟨fun z hz => ?_, h⟩
      rcases List.mem_cons.mp hz with e | m
      · rw [e]; exact h1
      · exact T.trans _ _ _ h1 (a z m)
    · rw [if_neg h1]
      by_cases h2 : lt y x = true
      · rw [if_pos h2]
        refine List.pairwise_cons.mpr ⟨fun z hz => ?_, insU_asc T b⟩
        rcases (mem_insU T).mp hz with e | m
        · rw [e]; exact h2
        · exact a z m
      · rw [if_neg h2]
        exact h
theorem sortU_asc {α : Type} {lt : α → α → Bool} (T : Tot lt) : ∀ l : List α, (sortU lt l).Pairwise (fun u v => lt u v = true)
  | [] => List.Pairwise.nil
  | x :: r => insU_asc T (sortU_asc T r)
theorem asc_same {α : Type} {lt : α → α → Bool} (T : Tot lt) : ∀ {l m : List α}, l.Pairwise (fun u v => lt u v = true) → m.Pairwise (fun u v => lt u v = true) → (∀ x, x ∈ l ↔ x ∈ m) → l = m
  | [], [], _, _, _ => rfl
  | [], y :: m, _, _, h => by have z := (h y).mpr List.mem_cons_self; cases z
  | x :: l, [], _, _, h => by have z := (h x).mp List.mem_cons_self; cases z
  | x :: l, y :: m, h1, h2, h => by
    obtain ⟨a1, b1⟩ := List.pairwise_cons.mp h1
    obtain ⟨a2, b2⟩ := List.pairwise_cons.mp h2
    have e : x = y := by
      rcases List.mem_cons.mp ((h x).mp List.mem_cons_self) with e | m1
      · exact e
      · rcases List.mem_cons.mp ((h y).mpr List.mem_cons_self) with e | m2
        · exact e.symm
        · have z := T.asym (a2 x m1)
          rw [a1 y m2] at z
          cases z
    subst e
    have no1 : x ∉ l := fun z => by have q := a1 x z; rw [T.irr] at q; cases q
    have no2 : x ∉ m := fun z => by have q := a2 x z; rw [T.irr] at q; cases q
    rw [asc_same T b1 b2 fun z => ⟨fun mz => ?_, fun mz => ?_⟩]
    · rcases List.mem_cons.mp ((h z).mp (List.mem_cons_of_mem _ mz)) with e | q
      · exact absurd (e ▸ mz) no1
      · exact q
    · rcases List.mem_cons.mp ((h z).mpr (List.mem_cons_of_mem _ mz)) with e | q
      · exact absurd (e ▸ mz) no2
      · exact q
/-- what is in order, each once, is what sortU gives -/
theorem sortU_eq {α : Type} {lt : α → α → Bool} (T : Tot lt) {l m : List α} (h1 : l.Pairwise (fun u v => lt v u = false)) (nd : l.Nodup) (h : ∀ x, x ∈ l ↔ x ∈ m) : l = sortU lt m := by
  refine asc_same T ?_ (sortU_asc T m) fun x => (h x).trans (mem_sortU T).symm
  refine (h1.and nd).imp fun {u v} q => ?_
  rcases T.tri u v q.2 with g | g
  · exact g
  · rw [q.1] at g
    cases g
theorem str_ext {x y : Str} (h : x.cps.toList = y.cps.toList) : x = y := by
  obtain ⟨a⟩ := x
  obtain ⟨b⟩ := y
  have e : a = b := Array.toList_inj.mp h
  rw [e]
theorem tot_S : Tot ltS := ⟨fun x => decide_eq_false (List.lt_irrefl _), fun x y ne => by
  unfold ltS
  rw [decide_eq_true_eq, decide_eq_true_eq]
  refine Classical.byContradiction fun no => ne (str_ext ?_)
  have h1 : ¬ x.cps.toList < y.cps.toList := fun z => no (.inl z)
  have h2 : ¬ y.cps.toList < x.cps.toList := fun z => no (.inr z)
  exact List.le_antisymm (List.not_lt.mp h2) (List.not_lt.mp h1), fun x y z h1 h2 => by
  unfold ltS at h1 h2 ⊢
  rw [decide_eq_true_eq] at h1 h2 ⊢
  exact List.lt_trans h1 h2⟩
theorem ltL_irr : ∀ x, ltL x x = false
  | [] => rfl
  | x :: r => by
    unfold ltL
    rw [if_pos rfl, ltL_irr r]
theorem ltL_tri : ∀ x y, x ≠ y → ltL x y = true ∨ ltL y x = true
  | [], [], h => absurd rfl h
  | [], _ :: _, _ => .inl rfl
  | _ :: _, [], _ => .inr rfl
  | x :: r, y :: s, h => by
    unfold ltL
    by_cases e : x = y
    · rw [if_pos e, if_pos e.symm]
      exact ltL_tri r s fun z => h (by rw [e, z])
    · rw [if_neg e, if_neg (Ne.symm e)]
      exact tot_S.tri x y e
theorem ltL_trans : ∀ x y z, ltL x y = true → ltL y z = true → ltL x z = true
  | [], _, [], _, h2 => by
    rename_i y h1
    cases y <;> simp [ltL] at h2 h1
  | [], _, _ :: _, _, _ => rfl
  | _ :: _, [], _, h1, _ => by simp [ltL] at h1
  | _ :: _, _ :: _, [], _, h2 => by simp [ltL] at h2
  | x :: r, y :: s, z :: t, h1, h2 => by
    unfold ltL at h1 h2 ⊢
    by_cases e1 : x = y
    · rw [if_pos e1] at h1
      subst e1
      by_cases e2 : x = z
      · rw [if_pos e2] at h2 ⊢
        exact ltL_trans r s t h1 h2
      · rw [if_neg e2] at h2 ⊢
        exact h2
    · rw [if_neg e1] at h1
      by_cases e2 : y = z
      · subst e2
        rw [if_neg e1]
        exact h1
      · rw [if_neg e2] at h2
        have h3 := tot_S.trans _ _ _ h1 h2
        by_cases e3 : x = z
        · rw [e3, tot_S.irr] at h3
          cases h3
        · rw [if_neg e3]
          exact h3
theorem tot_L : Tot ltL := ⟨ltL_irr, ltL_tri, ltL_trans⟩
def IsTT (P : Program) (w : World) (h : Heap) (v : Value) (k : List Str) : Prop := ∃ b, v = .ref b ∧ IsTupleKey (strKind P w) h k b
open Classical in
noncomputable def keyT (P : Program) (w : World) (h : Heap) (v : Value) : List Str := if q : ∃ k, IsTT P w h v k then q.choose else []
section
variable {P : Program} {w : World} {A : Around} {E : Value → Shared → Prop} {s : Shared} {h0 : Heap}
theorem keyT_of {v : Value} {k : List Str} (x : IsTT P w h0 v k) : keyT P w h0 v = k := by
  unfold keyT
  have q : ∃ k, IsTT P w h0 v k := ⟨k, x⟩
  rw [dif_pos q]
  obtain ⟨b, e, i⟩ := q.choose_spec
  obtain ⟨b', e', i'⟩ := x
  rw [e] at e'
  cases e'
  exact i.inj i'
theorem IsTT.stay {h : Heap} {v : Value} {k : List Str} (x : IsTT P w h0 v k) (st : Stay h0 h) : IsTT P w h v k := by
  obtain ⟨b, e, o, its, n, ho, r⟩ := x
  exact ⟨b, e, o, its, n, st b o ho, r⟩
theorem tt_itm (hu : A.units < cLine) : Itm P w A h0 (fun v => ∃ k, IsTT P w h0 v k) (keyT P w h0) (fun v => tupleKeyHash (strKind P w) (keyT P w h0 v)) where
  hash := fun x ⟨k, i⟩ => ⟨k.length + 1, fun s E Q st q => by
    rw [keyT_of i] at q
    obtain ⟨b, e, j⟩ := i.stay st
    subst e
    exact wpAny_pyHash_tuple hu j q⟩
  eq := fun x y ⟨k, i⟩ ⟨k', i'⟩ s E Q st q => by
    rw [keyT_of i, keyT_of i'] at q
    obtain ⟨b, e, j⟩ := i.stay st
    obtain ⟨b', e', j'⟩ := i'.stay st
    subst e e'
    exact wpAny_eqBool_tuple hu j j' q
  cong := fun x y _ _ e => by rw [e]
theorem strs_of {k : List Str} {vs : List Value} (h : ItemsAre (strKind P w) k vs) : ∀ v ∈ vs, ∃ x t, v = Value.str x t := by
  induction h with
  | nil => intro v hv; cases hv
  | @cons x v' ks vs h1 _ ih =>
    intro v hv
    rcases List.mem_cons.mp hv with e | hv
    · have h2 : Value.isStrOf x v' = true := h1
      subst e
      cases v <;> first | exact ⟨_, _, rfl⟩ | exact absurd h2 (by simp [Value.isStrOf, Value.isStr])
    · exact ih v hv
theorem tt_class {b : Addr} {k : List Str} {Q : Bool → Shared → Prop} (i : IsTupleKey (strKind P w) s.heap k b) (h : Q false s) : wpAny (model P w) A (ofAClassStatement 8 (.ref b)) Q E s := by
  have ty := i.typeIs
  obtain ⟨o, its, n, ho, _, od, all⟩ := i
  have texts := strs_of all
  unfold ofAClassStatement
  refine wpAny_bind (wpAny_typeOf ty ?_)
  have e : (("tuple" : String) == "tuple") = true := by decide
  simp only [e, if_true, Bool.not_true, Bool.false_eq_true, if_false]
  try refine wpAny_bind (wpAny_pure ?_)
  try simp only [Bool.not_true, Bool.false_eq_true, if_false]
  show wpAny _ _ (seqItems? (.ref b) >>= _) _ _ s
  refine wpAny_bind (wpAny_seqItems ho od ?_)
  dsimp only
  refine wpAny_bind ?_
  show wpAny _ _ (forIn its _ _) _ _ s
  rw [← Array.forIn_toList]
  refine wpAny_forIn_list _ (fun rest r s' => r.1 = none ∧ s' = s ∧ ∀ v ∈ rest, ∃ x t, v = Value.str x t) _ ?turn ?fin _ _ ⟨rfl, rfl, texts⟩
  case turn =>
    rintro v rest r s' ⟨hr, rfl, hall⟩
    obtain ⟨x, t, rfl⟩ := hall v List.mem_cons_self
    have q : ofAClassStatement 7 (.str x t) = pure false := rfl
    rw [q]
    refine wpAny_bind (wpAny_pure ?_)
    simp only [Bool.false_eq_true, if_false]
    exact wpAny_pure ⟨rfl, rfl, fun u hu => hall u (List.mem_cons_of_mem _ hu)⟩
  case fin =>
    rintro ⟨r1, r2⟩ s' ⟨hr, rfl, _⟩
    simp only at hr
    subst hr
    exact wpAny_pure h
theorem tt_obs : Obs P w A h0 (fun v => ∃ k, IsTT P w h0 v k) where
  ref := fun x ⟨k, b, e, _⟩ => ⟨b, e⟩
  seen := fun x ⟨k, i⟩ ys hy s E Q st q => by
    obtain ⟨b, e, j⟩ := i.stay st
    subst e
    unfold searchCouldBeSeen
    refine wpAny_bind ?_
    refine wpAny_forIn_list _ (fun rest r s' => r.1 = none ∧ s' = s ∧ ∀ y ∈ rest, ∃ k, IsTT P w h0 y k) _ ?turn ?fin _ _ ⟨rfl, rfl, hy⟩
    case turn =>
      rintro v rest r s' ⟨hr, rfl, hall⟩
      have rest' : ∀ y ∈ rest, ∃ k, IsTT P w h0 y k := fun u hu => hall u (List.mem_cons_of_mem _ hu)
      obtain ⟨k', i'⟩ := hall v List.mem_cons_self
      obtain ⟨c, e, j'⟩ := i'.stay st
      subst e
      dsimp only
      by_cases hv : (b == c || (carriedByValue (.ref b) && carriedByValue (.ref c))) = true
      · exact wp_if_pos hv (wpAny_pure ⟨rfl, rfl, rest'⟩)
      · refine wp_if_neg hv (wpAny_bind (wpAny_eqIsQuiet_tuple j ?_))
        simp only [Bool.not_true, Bool.false_eq_true, if_false]
        refine wpAny_bind (wpAny_eqIsQuiet_tuple j' ?_)
        simp only [Bool.not_true, Bool.false_eq_true, if_false]
        refine wpAny_bind (tt_class j ?_)
        simp only [Bool.false_eq_true, if_false]
        refine wpAny_bind (tt_class j' ?_)
        simp only [Bool.false_eq_true, if_false]
        exact wpAny_pure ⟨rfl, rfl, rest'⟩
    case fin =>
      rintro ⟨r1, r2⟩ s' ⟨hr, rfl, _⟩
      simp only at hr
      subst hr
      exact wpAny_pure q
  plain := fun x ⟨k, i⟩ s E Q st q => by
    obtain ⟨b, e, j⟩ := i.stay st
    subst e
    have ty := j.typeIs
    obtain ⟨o, its, n, ho, _, od, all⟩ := j
    have texts := strs_of all
    unfold hashByValue
    refine wpAny_bind (wpAny_specialOf ty F.slot_tuple_hash.lookup ?_)
    show wpAny _ _ (seqItems? (.ref b) >>= _) _ _ s
    refine wpAny_bind (wpAny_seqItems ho od ?_)
    refine wpAny_bind ?_
    show wpAny _ _ (forIn its _ _) _ _ s
    rw [← Array.forIn_toList]
    cases hl : its.toList with
    | nil =>
      rw [List.forIn_nil]
      exact wpAny_pure (wpAny_pure (q true))
    | cons v l =>
      rw [hl] at texts
      obtain ⟨x, t, rfl⟩ := texts v List.mem_cons_self
      rw [List.forIn_cons]
      have z : hashByValue 7 (.str x t) = pure false := rfl
      rw [z]
      refine wpAny_bind (wpAny_bind (wpAny_pure ?_))
      simp only [Bool.not_false, if_true]
      first
        | exact wpAny_pure (wpAny_pure (wpAny_pure (q false)))
        | exact wpAny_pure (wpAny_pure (q false))
        | exact wpAny_bind (wpAny_pure (wpAny_pure (wpAny_pure (q false))))
end
end VI
namespace VI
open PySem PySem.Spec PyProof.Rows L2
section
variable {P : Program} {w : World} {A : Around} {E : Value → Shared → Prop} {s : Shared} {h0 : Heap}
theorem txt_sortable {a : Addr} {vs : List Value} (h2 : 2 ≤ vs.length) (ok : ∀ v ∈ vs, IsTxt v) : SrtO.SortableO P w A s a vs (fun v u => ltS (txt v) (txt u)) := by
  intro h' keep
  refine ⟨oneType', fun Q E hq => PySem.W.kas_kind (T := .type "str") h2 (fun v hv => ?_) (by decide) (by rfl) hq, fun p q hp hq => ?_⟩
  · obtain ⟨x, t, rfl⟩ := ok v hv
    exact PySem.W.Looks.of_pure rfl
  · obtain ⟨x, t, e1⟩ := ok _ hp
    obtain ⟨y, u, e2⟩ := ok _ hq
    show wpAny (model P w) A (keyLt' oneType' p.1 q.1) (fun r s' => s' = _ ∧ r = ltS (txt p.1) (txt q.1)) _ _
    rw [e1, e2]
    exact PySem.W.kas_lt_str ⟨rfl, rfl⟩
/-- by their items -/
theorem items_lex {b : Bool} {Q : Bool → Shared → Prop} : ∀ {ks js : List Str} {xs ys : List Value} (i : Nat), ItemsAre (strKind P w) ks xs → ItemsAre (strKind P w) js ys → Q (ltL ks js) s → PySem.W.KatLex P w A b (decide (xs.length < ys.length)) Q (xs.zip ys) i s
  | _, _, _, _, i, .nil, .nil, h => h
  | _, _, _, _, i, .nil, .cons _ _, h => h
  | _, _, _, _, i, .cons _ _, .nil, h => h
  | k :: ks, j :: js, x :: xs, y :: ys, i, .cons h1 t1, .cons h2 t2, h => by
    obtain ⟨k', t, ex⟩ := strs_of (P := P) (w := w) (.cons h1 t1) x List.mem_cons_self
    obtain ⟨j', u, ey⟩ := strs_of (P := P) (w := w) (.cons h2 t2) y List.mem_cons_self
    subst ex ey
    have ek : k = k' := (strKind P w).inj _ _ _ h1 (str_is k' t)
    have ej : j = j' := (strKind P w).inj _ _ _ h2 (str_is j' u)
    subst ek ej
    refine PySem.W.kat_cons ((strKind P w).eqBool h1 h2 ?_)
    unfold ltL at h
    by_cases e : k = j
    · rw [if_pos e] at h
      rw [decide_eq_true e]
      have le : decide ((Value.str k t :: xs).length < (Value.str j u :: ys).length) = decide (xs.length < ys.length) := by simp
      rw [le]
      exact PySem.W.kat_yes (items_lex (i + 1) t1 t2 h)
    · rw [if_neg e] at h
      rw [decide_eq_false e]
      refine PySem.W.kat_no ?_
      cases hb : (b && i == 0) with
      | true => exact oneLt_str h
      | false => exact PySem.W.kat_one _ _ (PyProof.Rows.lt_str (x := k) (y := j) (Q := PySem.W.BoolBack Q) h)
/-- by tuple's own < -/
theorem ltL_cons {x y : Str} {r s : List Str} : ltL (x :: r) (y :: s) = if x = y then ltL r s else ltS x y := rfl
theorem lex_drop {e r : Nat → Bool} {k j : List Str} (he : ∀ i (x y : Str), k[i]? = some x → j[i]? = some y → e i = decide (x = y)) (hr : ∀ i (x y : Str), k[i]? = some x → j[i]? = some y → r i = ltS x y) :
    ∀ (m i : Nat), i + m = min k.length j.length → Ob.lexAt e r (decide (k.length < j.length)) i m = ltL (k.drop i) (j.drop i)
  | 0, i, h => by
    rw [Ob.lexAt_zero]
    rcases Nat.lt_or_ge k.length j.length with c | c
    · have e1 : i = k.length := by omega
      rw [decide_eq_true c, List.drop_eq_nil_of_le (by omega), List.drop_eq_getElem_cons (by omega)]
      rfl
    · rw [decide_eq_false (by omega), List.drop_eq_nil_of_le (as := j) (by omega)]
      cases k.drop i <;> rfl
  | m + 1, i, h => by
    have h1 : i < k.length := by omega
    have h2 : i < j.length := by omega
    rw [Ob.lexAt_succ, lex_drop he hr m (i + 1) (by omega), List.drop_eq_getElem_cons h1, List.drop_eq_getElem_cons h2]
    have a := he i _ _ (List.getElem?_eq_getElem h1) (List.getElem?_eq_getElem h2)
    have b := hr i _ _ (List.getElem?_eq_getElem h1) (List.getElem?_eq_getElem h2)
    rw [ltL_cons, a, b]
    by_cases c : k[i] = j[i]
    · rw [decide_eq_true c, if_pos rfl, if_pos c]
    · rw [decide_eq_false c, if_neg Bool.false_ne_true, if_neg c]
theorem items_at {k : List Str} {vs : List Value} (h : ItemsAre (strKind P w) k vs) : ∀ (i : Nat) (v : Value), vs[i]? = some v → ∃ x t, k[i]? = some x ∧ v = .str x t := by
  induction h with
  | nil => intro i v e; simp at e
  | @cons x v' ks vs h1 t1 ih =>
    intro i v e
    cases i with
    | zero =>
      rw [List.getElem?_cons_zero] at e
      cases e
      obtain ⟨y, t, rfl⟩ := strs_of (P := P) (w := w) (.cons h1 t1) v' List.mem_cons_self
      exact ⟨y, t, by rw [List.getElem?_cons_zero, (strKind P w).inj _ _ _ h1 (str_is y t)], rfl⟩
    | succ i =>
      rw [List.getElem?_cons_succ] at e ⊢
      exact ih i v e
theorem tt_call_lt {a b : Addr} {k j : List Str} {Q : Value → Shared → Prop} (h1 : IsTupleKey (strKind P w) s.heap k a) (h2 : IsTupleKey (strKind P w) s.heap j b) (h : Q (.bool (ltL k j)) s) : wpAny (model P w) A (call (.builtin "tuple.__lt__") [.ref a, .ref b]) Q E s := by
  have ty := h1.typeIs
  obtain ⟨⟨cls, dd, data, sl⟩, its, n, ho, oc, od, all⟩ := h1
  obtain ⟨⟨cls2, dd2, data2, sl2⟩, its2, n2, ho2, oc2, od2, all2⟩ := h2
  simp only at oc od oc2 od2
  subst oc od oc2 od2
  have l1 := all.length
  have l2 := all2.length
  have l1 : k.length = its.size := l1.trans (Array.length_toList ..)
  have l2 : j.length = its2.size := l2.trans (Array.length_toList ..)
  have g1 : ∀ i (hi : i < its.size), ∃ x t, k[i]? = some x ∧ its[i] = Value.str x t := fun i hi => items_at all i _ (by rw [Array.getElem?_toList]; exact Array.getElem?_eq_getElem hi)
  have g2 : ∀ i (hi : i < its2.size), ∃ x t, j[i]? = some x ∧ its2[i] = Value.str x t := fun i hi => items_at all2 i _ (by rw [Array.getElem?_toList]; exact Array.getElem?_eq_getElem hi)
  refine call_meets F.slot_tuple_lt ty F.entry_tuple_lt (F.args_tuple_lt_2 _ _) (Ob.tuple_ltAt a b its its2 n n2 dd dd2 sl sl2 (fun i => decide (k.getD i ⟨#[]⟩ = j.getD i ⟨#[]⟩)) (fun i => ltS (k.getD i ⟨#[]⟩) (j.getD i ⟨#[]⟩))) ⟨ho, ho2, fun i c1 c2 => ?_, fun i c1 c2 _ => ?_, ?_⟩
  · obtain ⟨x, t, e1, e2⟩ := g1 i c1
    obtain ⟨y, u, e3, e4⟩ := g2 i c2
    rw [e2, e4, List.getD_eq_getElem?_getD, List.getD_eq_getElem?_getD, e1, e3]
    have e5 : (x == y) = decide (x = y) := by
      by_cases c : x = y
      · rw [decide_eq_true c, c, beq_self_eq_true]
      · rw [decide_eq_false c, beq_eq_false_iff_ne.mpr c]
    show SeqAt.EqAt _ s (.str x t) (.str y u) (decide (x = y))
    rw [← e5]
    exact SeqAt.EqAt.str_str x t y u
  · obtain ⟨x, t, e1, e2⟩ := g1 i c1
    obtain ⟨y, u, e3, e4⟩ := g2 i c2
    rw [e2, e4, List.getD_eq_getElem?_getD, List.getD_eq_getElem?_getD, e1, e3]
    exact fun prog w' E' Q' q => PyProof.Rows.lt_str q
  · have z := lex_drop (k := k) (j := j) (e := fun i => decide (k.getD i ⟨#[]⟩ = j.getD i ⟨#[]⟩)) (r := fun i => ltS (k.getD i ⟨#[]⟩) (j.getD i ⟨#[]⟩)) (fun i x y e1 e2 => by
      show decide (k.getD i _ = j.getD i _) = _
      rw [List.getD_eq_getElem?_getD, List.getD_eq_getElem?_getD, e1, e2]
      rfl) (fun i x y e1 e2 => by
      show ltS (k.getD i _) (j.getD i _) = _
      rw [List.getD_eq_getElem?_getD, List.getD_eq_getElem?_getD, e1, e2]
      rfl) (min k.length j.length) 0 (by omega)
    rw [List.drop_zero, List.drop_zero, l1, l2] at z
    first
      | (show wants Q E _ _; rw [z]; exact h)
      | (rw [z]; exact h)
theorem tt_lt {c : Bool} {a b : Addr} {k j : List Str} {Q : Bool → Shared → Prop} (hu : A.units < cLine) (h1 : IsTupleKey (strKind P w) s.heap k a) (h2 : IsTupleKey (strKind P w) s.heap j b) (h : Q (ltL k j) s) : wpAny (model P w) A (oneLt' c (.ref a) (.ref b)) Q E s := by
  cases c with
  | true =>
    rw [oneLt'_eq]
    simp only [if_true]
    refine wpAny_bind (wpAny_cRoomFor hu ?_)
    refine wpAny_bind (wpAny_callSpecialIfBound?_slot h1.typeIs F.slot_tuple_lt (tt_call_lt h1 h2 ?_))
    exact wpAny_truthy_bool h
  | false =>
    refine PySem.W.kat_one _ _ ?_
    show wpAny _ _ (richCompare .Lt (.ref a) (.ref b)) _ _ _
    exact wpAny_richCompare_same_room (op := .Lt) h1.typeIs h2.typeIs F.slot_tuple_lt (tt_call_lt h1 h2 ⟨(fun z => nomatch z), h⟩) hu
/-- the first item, where there is one -/
theorem first_of {v : Value} {k : List Str} {Q : Option Value → Shared → Prop} (i : IsTT P w s.heap v k) (h : ∀ f : Option Value, f.isSome = !k.isEmpty → (∀ x, f = some x → ∃ y t, x = Value.str y t) → Q f s) : wpAny (model P w) A (firstOfTuple' v) Q E s := by
  obtain ⟨b, e, j⟩ := i
  subst e
  have ty := j.typeIs
  obtain ⟨o, its, n, ho, oc, od, all⟩ := j
  have texts := strs_of all
  have len := all.length
  rw [PySem.W.kas_first_eq]
  refine wpAny_bind (wpAny_typeOf ty ?_)
  refine wp_if_neg (by decide) ?_
  try refine wpAny_bind (wpAny_pure ?_)
  refine wpAny_bind (listItems_at ho od (wpAny_pure ?_))
  refine h _ ?_ fun x e => texts x (List.mem_of_getElem? (by rw [Array.getElem?_toList]; exact e))
  rw [← Array.getElem?_toList]
  cases k with
  | nil =>
    have z : its.toList = [] := List.eq_nil_of_length_eq_zero (by rw [← len]; rfl)
    rw [z]
    rfl
  | cons x k =>
    cases hl : its.toList with
    | nil => rw [hl] at len; cases len
    | cons v l => rfl
theorem firsts_of' : ∀ (vs : List Value) {Q : List (Option Value) → Shared → Prop}, (∀ v ∈ vs, ∃ k, IsTT P w s.heap v k) →
    (∀ fs : List (Option Value), fs.map (·.isSome) = vs.map (fun v => !(keyT P w s.heap v).isEmpty) → Q fs s) → wpAny (model P w) A (vs.mapM firstOfTuple') Q E s
  | [], Q, _, h => by rw [List.mapM_nil]; exact wpAny_pure (h [] rfl)
  | v :: vs, Q, hv, h => by
    obtain ⟨k, i⟩ := hv v List.mem_cons_self
    rw [List.mapM_cons]
    refine wpAny_bind (first_of i fun f e _ => wpAny_bind (firsts_of' vs (fun u m => hv u (List.mem_cons_of_mem _ m)) fun fs hl => wpAny_pure (h (f :: fs) ?_)))
    rw [List.map_cons, List.map_cons, hl, e, keyT_of i]
theorem keyT_stay {h : Heap} {v : Value} (st : Stay h0 h) (i : ∃ k, IsTT P w h0 v k) : keyT P w h v = keyT P w h0 v := by
  obtain ⟨k, i⟩ := i
  rw [keyT_of i, keyT_of (i.stay st)]
theorem one_type {vs : List Value} {T : Value} {Q : Option Value → Shared → Prop} (hT : ∀ v ∈ vs, ∀ Q' : Value → Shared → Prop, Q' T s → wpAny (model P w) A (typeOf v) Q' E s) (e : (T == T) = true) (h0 : 0 < vs.length) (h : Q (some T) s) : wpAny (model P w) A (oneTypeOnly' vs.toArray) Q E s := by
  rw [oneTypeOnly'_eq, List.mapM_toArray, map_eq_pure_bind]
  refine wpAny_bind (wpAny_bind (PySem.W.kas_mapM (r := T) _ (fun v hv Q' hq => hT v hv Q' hq) (wpAny_pure ?_)))
  have all : ((vs.map fun _ => T).toArray.all fun x => x == T) = true := by
    simp only [List.all_toArray, List.all_map, List.all_eq_true]
    intro _ _
    exact e
  obtain ⟨v, r, ev⟩ : ∃ v r, vs = v :: r := by
    match vs, h0 with
    | v :: r, _ => exact ⟨v, r, rfl⟩
  subst ev
  have z : ((v :: r).map fun _ => T).toArray[0]? = some T := by simp
  rw [z]
  simp only [all, if_true]
  exact wpAny_pure h
theorem tt_sortable {a : Addr} {vs : List Value} (hu : A.units < cLine) (h2 : 2 ≤ vs.length) (st : ∀ b o, h0.get? b = some o → b ≠ a ∧ s.heap.get? b = some o) (ok : ∀ v ∈ vs, ∃ k, IsTT P w h0 v k) : SrtO.SortableO P w A s a vs (fun v u => ltL (keyT P w h0 v) (keyT P w h0 u)) := by
  intro h' keep
  have st' : Stay h0 h' := fun b o e => keep b o (st b o e).1 (st b o e).2
  have ok' : ∀ v ∈ vs, ∃ k, IsTT P w h' v k := fun v hv => let ⟨k, i⟩ := ok v hv; ⟨k, i.stay st'⟩
  have cmp1 : ∀ c : Bool, ∀ p q : Keyed, p.1 ∈ vs → q.1 ∈ vs → wpAny (model P w) A (oneLt' c p.1 q.1) (fun r s' => s' = { s with heap := h' } ∧ r = ltL (keyT P w h0 p.1) (keyT P w h0 q.1)) (fun _ _ => False) { s with heap := h' } := fun c p q hp hq => by
    obtain ⟨k, i⟩ := ok _ hp
    obtain ⟨j, i'⟩ := ok _ hq
    rw [keyT_of i, keyT_of i']
    obtain ⟨b, e, x⟩ := i.stay st'
    obtain ⟨b', e', x'⟩ := i'.stay st'
    rw [e, e']
    exact tt_lt (s := { s with heap := h' }) hu x x' ⟨rfl, rfl⟩
  have cmp2 : ∀ c : Bool, ∀ p q : Keyed, p.1 ∈ vs → q.1 ∈ vs → wpAny (model P w) A (keyLt' (tuples' c) p.1 q.1) (fun r s' => s' = { s with heap := h' } ∧ r = ltL (keyT P w h0 p.1) (keyT P w h0 q.1)) (fun _ _ => False) { s with heap := h' } := fun c p q hp hq => by
    obtain ⟨k, i⟩ := ok _ hp
    obtain ⟨j, i'⟩ := ok _ hq
    rw [keyT_of i, keyT_of i']
    obtain ⟨b, e, o, its, n, ho, oc, od, all⟩ := i.stay st'
    obtain ⟨b', e', o', its', n', ho', oc', od', all'⟩ := i'.stay st'
    rw [e, e']
    refine PySem.W.kat_lt (s := { s with heap := h' }) ho od ho' od' ?_
    have z := items_lex (A := A) (s := { s with heap := h' }) (b := c) (Q := fun r s' => s' = { s with heap := h' } ∧ r = ltL k j) 0 all all' ⟨rfl, rfl⟩
    rw [Array.length_toList, Array.length_toList] at z
    exact z
  have types : ∀ v ∈ vs, ∀ Q' : Value → Shared → Prop, Q' (.type "tuple") { s with heap := h' } → ∀ E, wpAny (model P w) A (typeOf v) Q' E { s with heap := h' } := fun v hv Q' hq E => by
    obtain ⟨k, b, e, x⟩ := ok' v hv
    subst e
    exact wpAny_typeOf (s := { s with heap := h' }) x.typeIs hq
  -- what the kind will be hangs on the items alone
  by_cases full : ∀ v ∈ vs, keyT P w h0 v ≠ []
  · obtain ⟨fs, f1, f2, f3⟩ : ∃ fs, PySem.W.KatTups h' vs fs ∧ fs.length = vs.length ∧ ∀ f ∈ fs, ∃ y t, f = Value.str y t := by
      have go : ∀ us : List Value, (∀ v ∈ us, ∃ k, IsTT P w h0 v k ∧ k ≠ []) → ∃ fs, PySem.W.KatTups h' us fs ∧ fs.length = us.length ∧ ∀ f ∈ fs, ∃ y t, f = Value.str y t := by
        intro us
        induction us with
        | nil => intro _; exact ⟨[], PySem.W.KatTups.nil, rfl, fun f m => by cases m⟩
        | cons v us ih =>
          intro hv
          obtain ⟨fs, g1, g2, g3⟩ := ih fun u m => hv u (List.mem_cons_of_mem _ m)
          obtain ⟨k, i, ne⟩ := hv v List.mem_cons_self
          obtain ⟨b, e, o, its, n, ho, oc, od, all⟩ := i.stay st'
          subst e
          have texts := strs_of all
          have len := all.length
          cases hl : its.toList with
          | nil =>
            rw [hl] at len
            exact absurd (List.eq_nil_of_length_eq_zero len) ne
          | cons x l =>
            have hx : its[0]? = some x := by rw [← Array.getElem?_toList, hl]; rfl
            refine ⟨x :: fs, PySem.W.KatTups.cons ho oc od hx g1, by rw [List.length_cons, List.length_cons, g2], fun f mf => ?_⟩
            rcases List.mem_cons.mp mf with z | z
            · rw [z]; exact texts x (by rw [hl]; exact List.mem_cons_self)
            · exact g3 f z
      exact go vs fun v hv => let ⟨k, i⟩ := ok v hv; ⟨k, i, by rw [← keyT_of i]; exact full v hv⟩
    refine ⟨tuples' true, fun Q E hq => PySem.W.kat_kind (s := { s with heap := h' }) (T := .type "str") f1 (by omega) (fun f mf => ?_) (by rfl) ?_, fun p q hp hq => cmp2 true p q hp hq⟩
    · obtain ⟨y, t, rfl⟩ := f3 f mf
      exact PySem.W.Looks.of_pure rfl
    · have e : (Value.type "str" != Value.type "tuple") = true := by decide
      rw [e]
      exact hq
  · -- some tuple is empty
    obtain ⟨u0, m0, e0⟩ : ∃ v ∈ vs, keyT P w h0 v = [] := Classical.byContradiction fun no => full fun v hv e => no ⟨v, hv, e⟩
    obtain ⟨v0, r0, ev⟩ : ∃ v r, vs = v :: r := by
      match vs, h2 with
      | v :: r, _ => exact ⟨v, r, rfl⟩
    have ks : (vs.map fun v => !(keyT P w h' v).isEmpty) = vs.map fun v => !(keyT P w h0 v).isEmpty := List.map_congr_left fun v hv => by rw [keyT_stay st' (ok v hv)]
    have notAll : ∀ fs : List (Option Value), fs.map (·.isSome) = (vs.map fun v => !(keyT P w h' v).isEmpty) → (fs.toArray.all fun x => x.isSome) = false := fun fs hf => by
      rw [ks] at hf
      have m : false ∈ fs.map (·.isSome) := by
        rw [hf]
        exact List.mem_map.mpr ⟨u0, m0, by rw [e0]; rfl⟩
      obtain ⟨f, mf, ef⟩ := List.mem_map.mp m
      simp only [List.all_toArray]
      exact List.all_eq_false.mpr ⟨f, mf, by rw [ef]; decide⟩
    have firstIs : ∀ fs : List (Option Value), fs.map (·.isSome) = (vs.map fun v => !(keyT P w h' v).isEmpty) → (fs.toArray[0]?.bind id).isSome = !(keyT P w h0 v0).isEmpty := fun fs hf => by
      rw [ks, ev] at hf
      cases fs with
      | nil => cases hf
      | cons f fs =>
        rw [List.map_cons, List.map_cons] at hf
        have z := (List.cons.inj hf).1
        rw [← z]
        simp
    by_cases c : keyT P w h0 v0 = []
    · refine ⟨oneType', fun Q E hq => ?_, fun p q hp hq => cmp1 true p q hp hq⟩
      rw [kat_kind_eq, List.mapM_toArray, map_eq_pure_bind]
      refine wpAny_bind (wpAny_bind (firsts_of' (s := { s with heap := h' }) vs ok' fun fs hf => wpAny_pure ?_))
      refine wp_if_neg (by rw [notAll fs hf]; decide) ?_
      try refine wpAny_bind (wpAny_pure ?_)
      refine wp_if_neg (by rw [firstIs fs hf, c]; decide) ?_
      try refine wpAny_bind (wpAny_pure ?_)
      refine wpAny_bind (one_type (s := { s with heap := h' }) (fun v hv Q' hq' => types v hv Q' hq' _) (by rfl) (by omega) ?_)
      exact wpAny_pure hq
    · refine ⟨general', fun Q E hq => ?_, fun p q hp hq => cmp1 false p q hp hq⟩
      rw [kat_kind_eq, List.mapM_toArray, map_eq_pure_bind]
      refine wpAny_bind (wpAny_bind (firsts_of' (s := { s with heap := h' }) vs ok' fun fs hf => wpAny_pure ?_))
      refine wp_if_neg (by rw [notAll fs hf]; decide) ?_
      try refine wpAny_bind (wpAny_pure ?_)
      have ne : (keyT P w h0 v0).isEmpty = false := by
        cases q : keyT P w h0 v0 with
        | nil => exact absurd q c
        | cons a b => rfl
      refine wp_if_pos (by rw [firstIs fs hf, ne]; rfl) ?_
      exact wpAny_pure hq
end
end VI
namespace VI
open PySem PySem.Spec PyProof.Rows L2
theorem took_keys {κ : Type} [DecidableEq κ] {key : Value → κ} {vs L out : List Value} (t : Took key vs L) (p : out.Perm L) (x : κ) : x ∈ out.map key ↔ x ∈ vs.map key := by
  rw [(p.map key).mem_iff]
  constructor
  · intro m
    obtain ⟨v, mv, e⟩ := List.mem_map.mp m
    exact List.mem_map.mpr ⟨v, t.sub v mv, e⟩
  · intro m
    obtain ⟨v, mv, e⟩ := List.mem_map.mp m
    rw [← e]
    exact t.all v mv
theorem vals_txt : ∀ {ks : List Str} {us : List Value}, Vals (ks.map V.str) us → us.map txt = ks ∧ ∀ v ∈ us, IsTxt v
  | [], _, .nil => ⟨rfl, fun v hv => by cases hv⟩
  | k :: ks, _, .cons r t => by
    obtain ⟨tk, rfl⟩ := r
    obtain ⟨h1, h2⟩ := vals_txt t
    refine ⟨by rw [List.map_cons, h1]; rfl, fun v hv => ?_⟩
    rcases List.mem_cons.mp hv with e | m
    · exact ⟨k, tk, e⟩
    · exact h2 v m
theorem txt_vals : ∀ {us : List Value}, (∀ v ∈ us, IsTxt v) → Vals ((us.map txt).map V.str) us
  | [], _ => .nil
  | u :: us, h => by
    obtain ⟨x, t, rfl⟩ := h u List.mem_cons_self
    exact .cons ⟨t, rfl⟩ (txt_vals fun v hv => h v (List.mem_cons_of_mem _ hv))
theorem vals_tt : ∀ {bs : List (Addr × List Str)} {us : List Value}, Vals (bs.map fun b => V.ref b.1) us → us = bs.map fun b => Value.ref b.1
  | [], _, .nil => rfl
  | b :: bs, _, .cons r t => by
    cases r
    rw [vals_tt t]
    rfl
theorem tt_vals : ∀ (bs : List (Addr × List Str)), Vals (bs.map fun b => V.ref b.1) (bs.map fun b => Value.ref b.1)
  | [] => .nil
  | b :: bs => .cons rfl (tt_vals bs)
theorem lift_tt {bs : List (Addr × List Str)} : ∀ out : List Value, (∀ v ∈ out, v ∈ bs.map fun b => Value.ref b.1) → ∃ cs : List (Addr × List Str), out = cs.map (fun b => Value.ref b.1) ∧ ∀ c ∈ cs, c ∈ bs
  | [], _ => ⟨[], rfl, fun c h => by cases h⟩
  | v :: out, h => by
    obtain ⟨b, mb, e⟩ := List.mem_map.mp (h v List.mem_cons_self)
    obtain ⟨cs, e2, h2⟩ := lift_tt out fun u hu => h u (List.mem_cons_of_mem _ hu)
    refine ⟨b :: cs, by rw [List.map_cons, e, e2], fun c hc => ?_⟩
    rcases List.mem_cons.mp hc with z | z
    · rw [z]; exact mb
    · exact h2 c z
theorem items_strs {P : Program} {w : World} : ∀ {k : List Str} {us : List Value}, Vals (k.map V.str) us → ItemsAre (strKind P w) k us
  | [], _, .nil => .nil
  | n :: k, _, .cons r t => by
    obtain ⟨tk, rfl⟩ := r
    exact .cons (str_is n tk) (items_strs t)
def tSS (K : PySem.W.Frag) (ta : TE) : TE := fun σ H Q => ta σ H fun x H1 => ∃ (l : Addr) (xs : List V), x = V.ref l ∧ (SqL K H1 l xs ∨ SqT K H1 l xs) ∧ xs.length < 64 ∧
  ((∃ ks : List Str, xs = ks.map V.str ∧ ∀ p, H1 p = none → Q (.ref p) (upd H1 p (.lst ((sortU ltS ks).map V.str)))) ∨
   (∃ bs : List (Addr × List Str), xs = bs.map (fun b => V.ref b.1) ∧ (∀ b ∈ bs, SqT K H1 b.1 (b.2.map V.str)) ∧
      ∀ (p : Addr) (cs : List (Addr × List Str)), H1 p = none → cs.map (·.2) = sortU ltL (bs.map (·.2)) → (∀ c ∈ cs, c ∈ bs) → Q (.ref p) (upd H1 p (.lst (cs.map fun b => V.ref b.1)))))
section
variable {X : Cx} {pins : List (Addr × Obj)} {σ : L2.St} {H : Hp} {s : Shared}
theorem Inv_tt (I : Inv X pins σ H s) {b : Addr} {k : List Str} (h : SqT X.K H b (k.map V.str)) : IsTT X.prog X.w s.heap (.ref b) k := by
  obtain ⟨its, r, ⟨o, ho, hc, n, hd⟩, _⟩ := I.tuple h
  exact ⟨b, rfl, o, its.toArray, n, ho, hc, hd, by simpa using items_strs r⟩
theorem pe_ss {a : Expr} {ta : TE} {p p2 q pos : Pos} (hc : X.calm = true) (hu : X.A.units + 65 < cLine) (hg : Gl X "sorted") (hm : X.mg "sorted" = none) (hg2 : Gl X "set") (hm2 : X.mg "set" = none) (ha : PE X a ta)
    (na : starEach [a] X.env = (false, eval a X.env) :: starEach [] X.env := by rfl) : PE X (.Call (.Name "sorted" p) [.Call (.Name "set" p2) [a] [] q] [] pos) (tSS X.K ta) := by
  refine ⟨fun pins s σ H Q I h => ?_⟩
  refine Call_ (ld_blt I hg hm PyProof.Rows.boot_sorted ?_)
  refine PyProof.Rows.callWith_builtin1 (PyProof.Rows.args_cons ?_ rfl) rfl rfl
  refine Call_ (ld_blt I hg2 hm2 PyProof.Rows.boot_set ?_)
  refine PyProof.Rows.callWith_type1 (PyProof.Rows.args_cons (thn (ha.run pins s σ H _ I h) fun v s1 ⟨x, H1, I1, r1, q1⟩ => PyProof.Rows.args_nil ?_) na) na rfl
  obtain ⟨l, xs, rfl, hseq, few, q1⟩ := q1
  cases r1
  obtain ⟨its, r, hl⟩ : ∃ its : List Value, Vals xs its ∧ (s1.heap.IsList l its.toArray ∨ s1.heap.IsTuple l its.toArray) := by
    rcases hseq with z | z
    · obtain ⟨its, r, pl, _⟩ := I1.list z
      exact ⟨its, r, .inl pl.isList⟩
    · obtain ⟨its, r, pl, _⟩ := I1.tuple z
      exact ⟨its, r, .inr pl⟩
  have len : its.length = xs.length := r.length.symm
  have hd := I1.ok.hd hc
  -- the end, alike for both
  have fin : ∀ (s3 : Shared) (h' : Heap) (tk : Nat) (d : Addr) (out : List Value) (ys : List V), Stay s1.heap h' → Stay h' s3.heap → s3.gens = s1.gens → s3.os = s1.os → h'.get? d = none → (∃ n, s3.heap.get? d = some (seqObj "list" out.toArray n)) → h'.objs.size ≤ d → Vals ys out → ys.length ≤ sizeLine →
      (∀ p, H1 p = none → Q (.ref p) (upd H1 p (.lst ys))) → ∃ x H', Inv X pins σ H' s3 ∧ RelV x (.ref d) ∧ Q x H' := fun s3 h' tk d out ys st1 st2 eg eo hn hp hsz hv hly hq => by
    obtain ⟨n, hp⟩ := hp
    have I2 : Inv X pins σ H1 { s1 with heap := h', toks := tk } := I1.kept fun b o e => st1 b o e
    have fr : H1 d = none := I2.hok.fresh hsz
    refine ⟨.ref d, upd H1 d (.lst ys), ?_, rfl, hq d fr⟩
    refine Inv.call' (ch := []) I2 eo (Un.laid st2 hsz fr) (I2.hok.laid st2 hsz ⟨hly, out, n, hv, ?_⟩) (by rw [eg]; exact I2.bare) (fun _ z => nomatch z)
    exact hp
  rcases q1 with ⟨ks, ex, q1⟩ | ⟨bs, ex, ht, q1⟩
  · subst ex
    obtain ⟨k1, k2⟩ := vals_txt r
    refine set_seq (key := txt) (hs := fun v => hashStr X.w (txt v)) (I := IsTxt) (its := its.toArray) hd hl grow_tx (by simpa using k2) (by rw [List.size_toArray, len]; exact few) fun h' tk L B tk2 st => ?_
    refine PyProof.Rows.args_nil ?_
    refine sorted_gath (s := { s1 with heap := h', toks := tk }) (tot_S.swo txt) hd B.gath (fun h1 b vs two pm hb kp s2 e2 => ?_) fun s3 d out hs pm st2 eg eo hn hp hsz => ?_
    · subst e2
      exact txt_sortable two fun v hv => B.ok v (pm.mem_iff.mp hv)
    · have ok : ∀ v ∈ out, IsTxt v := fun v hv => B.ok v (pm.mem_iff.mp hv)
      have e : out.map txt = sortU ltS ks := sortU_eq tot_S (List.pairwise_map.mpr hs) ((pm.map txt).nodup_iff.mpr B.nd) fun x => by
        rw [took_keys tk2 pm x, k1]
      have hv := txt_vals ok
      rw [e] at hv
      have lo : out.length < 64 := by rw [pm.length_eq]; exact B.few
      exact fin s3 h' tk d out _ st st2 eg eo hn hp hsz hv (by rw [hv.length, sizeLine_eq]; omega) q1
  · subst ex
    have ei := vals_tt r
    subst ei
    have ok : ∀ b ∈ bs, IsTT X.prog X.w s1.heap (.ref b.1) b.2 := fun b hb => Inv_tt I1 (ht b hb)
    have ok' : ∀ v ∈ (bs.map fun b => Value.ref b.1), ∃ k, IsTT X.prog X.w s1.heap v k := fun v hv => by
      obtain ⟨b, hb, e⟩ := List.mem_map.mp hv
      rw [← e]
      exact ⟨_, ok b hb⟩
    refine set_seq (key := keyT X.prog X.w s1.heap) (hs := fun v => tupleKeyHash (strKind X.prog X.w) (keyT X.prog X.w s1.heap v)) (its := (bs.map fun b => Value.ref b.1).toArray) hd hl
      (grow_tb (tt_itm (by show X.A.units + 3 < cLine; omega)) tt_obs) (by simpa using ok') (by rw [List.size_toArray, len]; exact few) fun h' tk L ⟨es, ep, t, B⟩ tk2 st => ?_
    refine PyProof.Rows.args_nil ?_
    have sub : ∀ v ∈ L, v ∈ bs.map fun b => Value.ref b.1 := fun v hv => by simpa using tk2.sub v hv
    refine sorted_gath (s := { s1 with heap := h', toks := tk }) (tot_L.swo (keyT X.prog X.w s1.heap)) hd B.gath (fun h1 b vs two pm hb kp s2 e2 => ?_) fun s3 d out hs pm st2 eg eo hn hp hsz => ?_
    · subst e2
      exact tt_sortable (by show X.A.units + 2 < cLine; omega) two (fun c o e => kp c o (st c o e)) fun v hv => ok' v (sub v (pm.mem_iff.mp hv))
    · obtain ⟨cs, e1, e2⟩ := lift_tt out fun v hv => sub v (pm.mem_iff.mp hv)
      subst e1
      have ek : (cs.map fun b => Value.ref b.1).map (keyT X.prog X.w s1.heap) = cs.map (·.2) := by
        rw [List.map_map]
        exact List.map_congr_left fun c hc => keyT_of (ok c (e2 c hc))
      have ek2 : (bs.map fun b => Value.ref b.1).map (keyT X.prog X.w s1.heap) = bs.map (·.2) := by
        rw [List.map_map]
        exact List.map_congr_left fun c hc => keyT_of (ok c hc)
      have e : cs.map (·.2) = sortU ltL (bs.map (·.2)) := by
        rw [← ek]
        refine sortU_eq tot_L (List.pairwise_map.mpr hs) ((pm.map _).nodup_iff.mpr B.nd) fun x => ?_
        rw [took_keys tk2 pm x, ← ek2]
      have lo : (cs.map fun b => Value.ref b.1).length < 64 := by rw [pm.length_eq]; exact B.few
      rw [List.length_map] at lo
      exact fin s3 h' tk d _ _ st st2 eg eo hn hp hsz (tt_vals cs) (by rw [List.length_map, sizeLine_eq]; omega) fun p hp2 => q1 p cs hp2 e e2
end
end VI
namespace VI
open PySem PySem.Spec PyProof.Rows L2
def tupsOf : List D → Option (List (List Str))
  | [] => some []
  | .tuple ds :: r => match strsOf ds with
    | some x => (tupsOf r).map (x :: ·)
    | none => none
  | _ :: _ => none
def tupD (x : List Str) : D := .tuple (x.map .str)
theorem tupsOf_eq : ∀ {ds : List D} {xs : List (List Str)}, tupsOf ds = some xs → ds = xs.map tupD
  | [], xs, h => by cases h; rfl
  | d :: ds, xs, h => by
    unfold tupsOf at h
    split at h
    · rename_i e2
      exact absurd e2 (by simp)
    · rename_i e1 ds' r e2
      cases e2
      split at h
      · rename_i x hx
        cases q : tupsOf ds with
        | none => rw [q] at h; cases h
        | some ys =>
          rw [q] at h
          cases h
          rw [List.map_cons, ← tupsOf_eq q]
          show _ = PyData.tuple (x.map .str) :: ds
          rw [← strsOf_eq hx]
      · cases h
    · cases h
theorem tupsOf_map : ∀ xs : List (List Str), tupsOf (xs.map tupD) = some xs
  | [] => rfl
  | x :: r => by
    rw [List.map_cons]
    show (match strsOf (x.map .str) with | some x => (tupsOf (r.map tupD)).map (x :: ·) | none => none) = _
    rw [strsOf_map, tupsOf_map r]
    rfl
def ssG (ds : List D) : Res EV := if ds.length < 64 then (match strsOf ds with
  | some xs => .ok (.own ((sortU ltS xs).map .str))
  | none => match tupsOf ds with
    | some xs => .ok (.own ((sortU ltL xs).map tupD))
    | none => .bad) else .bad
def ssM (m : ME) : ME := fun ρ φ => (m ρ φ).bind fun r => match r.1.toD with
  | .list ds => (ssG ds).bind fun e => .ok (e, r.2)
  | .tuple ds => (ssG ds).bind fun e => .ok (e, r.2)
  | _ => .bad
section
variable {p : Pr} {G : Hp}
theorem rep_tups : ∀ {xs : List (List Str)} {vs : List V}, RepAll p G (xs.map tupD) vs → ∃ bs : List (Addr × List Str), bs.map (·.2) = xs ∧ vs = bs.map (fun b => V.ref b.1) ∧ ∀ b ∈ bs, TupN p.K G b.1 (b.2.map V.str)
  | [], _, h => by cases h; exact ⟨[], rfl, rfl, fun b m => by cases m⟩
  | x :: xs, _, h => by
    obtain ⟨v, r, rfl, ⟨a, ys, rfl, h1, h2⟩, h3⟩ := h
    obtain ⟨bs, e1, e2, e3⟩ := rep_tups h3
    rw [h2.strs] at h1
    refine ⟨(a, x) :: bs, by rw [List.map_cons, e1], by rw [List.map_cons, e2], fun b m => ?_⟩
    rcases List.mem_cons.mp m with z | z
    · rw [z]; exact h1
    · exact e3 b z
theorem tups_rep : ∀ {cs : List (Addr × List Str)}, (∀ c ∈ cs, TupN p.K G c.1 (c.2.map V.str)) → RepAll p G ((cs.map (·.2)).map tupD) (cs.map fun b => V.ref b.1)
  | [], _ => rfl
  | c :: cs, h => ⟨_, _, rfl, ⟨c.1, _, rfl, h c List.mem_cons_self, RepAll.of_strs _⟩, tups_rep fun d m => h d (List.mem_cons_of_mem _ m)⟩
end
section
variable {X : Cx} {q : Pk} {pos p1 p2 p3 : Pos} {e : Expr} {me : ME}
theorem de_ss (hc : X.calm = true) (hu : X.A.units + 65 < cLine) (hg1 : Gl X "sorted") (hm1 : X.mg "sorted" = none) (hg2 : Gl X "set") (hm2 : X.mg "set" = none) (he : DE X q e me)
    (na : starEach [e] X.env = (false, eval e X.env) :: starEach [] X.env := by rfl) :
    DE X q (.Call (.Name "sorted" p1) [.Call (.Name "set" p2) [e] [] p3] [] pos) (ssM me) := (pe_ss hc hu hg1 hm1 hg2 hm2 he na).imp fun σ H Q w => by
  obtain ⟨P, ρ, φ, e, φ', a, h, k⟩ := w
  obtain ⟨⟨e1, φ1⟩, h1, h⟩ := Res.bind_ok h
  dsimp only at h
  refine part a h1 fun v H1 a1 u1 r1 => ?_
  have rr := r1.rep a.live
  have go : ∀ (l : Addr) (ds : List D) (xs : List V), (SqL (q.at X.K).K H1 l xs ∨ SqT (q.at X.K).K H1 l xs) → RepAll (q.at X.K) (hide P H1) ds xs → (ssG ds).bind (fun e => Res.ok (e, φ1)) = .ok (e, φ') →
      ∃ (l' : Addr) (xs : List V), V.ref l = V.ref l' ∧ (SqL X.K H1 l' xs ∨ SqT X.K H1 l' xs) ∧ xs.length < 64 ∧
  ((∃ ks : List Str, xs = ks.map V.str ∧ ∀ p, H1 p = none → Q (.ref p) (upd H1 p (.lst ((sortU ltS ks).map V.str)))) ∨
   (∃ bs : List (Addr × List Str), xs = bs.map (fun b => V.ref b.1) ∧ (∀ b ∈ bs, SqT X.K H1 b.1 (b.2.map V.str)) ∧
      ∀ (p : Addr) (cs : List (Addr × List Str)), H1 p = none → cs.map (·.2) = sortU ltL (bs.map (·.2)) → (∀ c ∈ cs, c ∈ bs) → Q (.ref p) (upd H1 p (.lst (cs.map fun b => V.ref b.1))))) := fun l ds xs hs hr hh => by
    obtain ⟨e2, g, hh⟩ := Res.bind_ok hh
    cases hh
    unfold ssG at g
    split at g
    · rename_i few
      refine ⟨l, xs, rfl, hs, by rw [hr.len]; exact few, ?_⟩
      split at g
      · rename_i ks hk
        cases g
        rw [strsOf_eq hk] at hr
        refine .inl ⟨ks, hr.strs, fun n nn => k _ _ (u1.trans (Ext.new nn).up) (a1.fo.ext (hide_ext (Ext.new nn))) (rep_newL (RepAll.of_strs (sortU ltS ks)) u1 nn)⟩
      · split at g
        · rename_i ks hk
          cases g
          rw [tupsOf_eq hk] at hr
          obtain ⟨bs, b1, b2, b3⟩ := rep_tups hr
          refine .inr ⟨bs, b2, fun b m => (TupN.at (b3 b m) fun c o _ z => (hide_of z).2).sq, fun n cs nn ec sub => ?_⟩
          have rep := tups_rep (p := q.at X.K) (G := hide P H1) (cs := cs) fun c m => b3 c (sub c m)
          rw [ec, b1] at rep
          exact k _ _ (u1.trans (Ext.new nn).up) (a1.fo.ext (hide_ext (Ext.new nn))) (rep_newL rep u1 nn)
        · cases g
    · cases g
  split at h
  · rename_i ds ed
    rw [ed] at rr
    obtain ⟨l, xs, rfl, g1, g2⟩ := rr
    exact go l ds xs (.inl (SqL.of (hide_of g1).2)) g2 h
  · rename_i ds ed
    rw [ed] at rr
    obtain ⟨l, xs, rfl, g1, g2⟩ := rr
    exact go l ds xs (.inr (TupN.at g1 fun c o _ z => (hide_of z).2).sq) g2 h
  · cases h
end
end VI
namespace VI
open PySem PySem.Spec PyProof.Rows L2
/-- the feed is made of a script -/
def spFeed (K : PySem.W.Frag) (k2 k3 k4 : Str) (T : List (Addr × Str)) : Sp := fun vs H Q _ => ∃ (a : Addr) (ns : List Int), vs = [.ref a] ∧ SqL K H a (ns.map V.int) ∧ ns.length ≤ 63 ∧
  ∀ (fa ca : Addr) (H' : Hp), Ext H H' → FO ⟨K, fa, ca, k2, k3, k4, T, none⟩ ⟨ns, 0, 0, 0⟩ H' → Q (.ref fa) H'
def rInt1 : List V → Hp → VK → Prop := fun xs H Q => (∃ i, xs = [.int i] ∧ Q (.int i) H) ∨ ∃ k, xs = [.bl k] ∧ Q (.int (if k then 1 else 0)) H
theorem cr_int1 {X : Cx} : CallR X (.type "int") rInt1 := call_int1
def tFeed (K : PySem.W.Frag) (k2 k3 k4 : Str) : L2.TS := tRet (tDisp [(tC (.str "cells"), tLc (iList K (L2.tSl (rSlL K) (tVar 0) tNoPart (tPart (tC (.int 63))))) (gName 1) tYes (tCB rInt1 (tCons (tVar 1) tNil)) [1]),
  (tC (.str k2), tC (.int 0)), (tC (.str k3), tC (.int 0)), (tC (.str k4), tC (.int 0))])
theorem cut_63 {ns : List Int} (h : ns.length ≤ 63) : cutV (ns.map V.int) none (some 63) = ns.map V.int := by
  unfold cutV
  rw [HT.sIx_none, show HT.sIx (ns.map V.int).length (ns.map V.int).length (some 63) = min 63 (ns.map V.int).length from HT.sIx_nat _ _ 63, List.drop_zero, Nat.sub_zero]
  exact List.take_of_length_le (by rw [List.length_map]; omega)
theorem feed_run {K : PySem.W.Frag} {k2 k3 k4 : Str} {T : List (Addr × Str)} {D : Ends} {H : Hp} {vs : List V} {E : XK} {N : List Str} (hN : N.length = 2) (ne : ("cells" : Str) ≠ k2 ∧ ("cells" : Str) ≠ k3 ∧ ("cells" : Str) ≠ k4 ∧ k2 ≠ k3 ∧ k2 ≠ k4 ∧ k3 ≠ k4) (h : spFeed K k2 k3 k4 T vs H D.rt E) :
    tFeed K k2 k3 k4 D (L2.start N vs) H := by
  obtain ⟨a, ns, rfl, hs, hl, q⟩ := h
  have es : L2.start N [V.ref a] = [some (.ref a), none] := by
    unfold L2.start
    rw [hN]
    rfl
  rw [es]
  intro p hp
  have x0 : Ext H (upd H p (.dK [])) := Ext.new hp
  have hs0 : SqL K (upd H p (.dK [])) a (ns.map V.int) := Same.seq (fun b o e => x0.all b o e) hs
  refine ⟨.ref a, rfl, 63, rfl, a, ns.map V.int, rfl, hs0, fun c nc => ?_⟩
  rw [cut_63 hl]
  have x1 : Ext (upd H p (.dK [])) (upd (upd H p (.dK [])) c (.lst (ns.map V.int))) := Ext.new nc
  have pc : p ≠ c := fun z => by rw [z, upd_same] at nc; cases nc
  generalize hH1 : upd (upd H p (.dK [])) c (.lst (ns.map V.int)) = H1 at x1 ⊢
  have c1 : H1 c = some (.lst (ns.map V.int)) := by rw [← hH1, upd_same]
  have p1 : H1 p = some (.dK []) := by rw [← hH1, upd_ne pc, upd_same]
  refine ⟨c, rfl, ⟨_, .inl (.inl c1)⟩, fun d nd => ?_⟩
  have x2 : Ext H1 (upd H1 d (.lst [])) := Ext.new nd
  have cd : c ≠ d := ne_of_none c1 nd
  have pd : p ≠ d := ne_of_none p1 nd
  refine lc_list (xs := ns.map V.int) (fun i H' => (∀ b o, H1 b = some o → H' b = some o) ∧ H' d = some (.lst ((ns.take i).map V.int))) ⟨x2.all, upd_same⟩ (fun i H' _ w => .inl (.inl (w.1 c _ c1))) (fun i x H' hi w => ?_) fun H' w => ?_
  · obtain ⟨w1, w2⟩ := w
    rw [List.getElem?_map] at hi
    cases hn : ns[i]? with
    | none => rw [hn] at hi; cases hi
    | some n =>
      rw [hn] at hi
      cases hi
      have hi2 : i < ns.length := (List.getElem?_eq_some_iff.mp hn).1
      refine ⟨rfl, .int n, rfl, .inl ⟨n, rfl, _, w2, by rw [List.length_map, List.length_take, sizeLine_eq]; omega, fun b o e => ?_, ?_⟩⟩
      · rw [upd_ne (ne_of_none e nd)]
        exact w1 b o e
      · rw [upd_same, take_next hn, List.map_append]
        rfl
  · obtain ⟨w1, w2⟩ := w
    rw [List.take_of_length_le (by rw [List.length_map]; exact Nat.le_refl _)] at w2
    refine ⟨w1 p _ p1, [(.inr "cells", .ref d), (.inr k2, .int 0), (.inr k3, .int 0), (.inr k4, .int 0)], rfl, (by show 4 ≤ 15; decide), ?_⟩
    have xe : Ext H (upd H' p (.dK (mergeK [] [(.inr "cells", .ref d), (.inr k2, .int 0), (.inr k3, .int 0), (.inr k4, .int 0)]))) := ⟨fun b o e => by
      rw [upd_ne (ne_of_none e hp)]
      exact w1 b o (x1.all b o (x0.all b o e))⟩
    obtain ⟨n1, n2, n3, n4, n5, n6⟩ := ne
    have em : mergeK [] [(.inr "cells", V.ref d), (.inr k2, V.int 0), (.inr k3, V.int 0), (.inr k4, V.int 0)] = [(.inr "cells", V.ref d), (.inr k2, V.int 0), (.inr k3, V.int 0), (.inr k4, V.int 0)] := by
      simp [mergeK, putK, n1, n2, n3, n4, n5, n6]
    rw [em] at xe ⊢
    exact q p d _ xe ⟨upd_same, by rw [upd_ne (Ne.symm pd)]; exact w2, ExO.no rfl⟩
def spLaw (K : PySem.W.Frag) (T : List (Addr × Str)) : Sp := fun vs H Q _ => ∃ (a : Addr) (ns : List Int), LamX.Tabs T H ∧ vs = [.ref a] ∧ SqL K H a (ns.map V.int) ∧ ns.length ≤ 63 ∧ ∀ H', Q (.bl true) H'
def lawS (n : Nat) : EnvS := none :: some (.dat (.dict [])) :: List.replicate (n - 2) none
theorem stR_law {K : PySem.W.Frag} {k2 k3 k4 : Str} {T : List (Addr × Str)} {H : Hp} {fa ca : Addr} {φ : FS} {N : List Str} {v : V} (tb : LamX.Tabs T H) (f : FO ⟨K, fa, ca, k2, k3, k4, T, none⟩ φ H) (hn : 2 ≤ N.length) :
    StR ⟨K, fa, ca, k2, k3, k4, T, none⟩ H (fun _ => False) H (lawS N.length) φ ((L2.start N [v]).set 1 (some (.ref fa))) := by
  have at1 : ∀ (i : Nat) (x : EV), (lawS N.length)[i]? = some (some x) → i = 1 ∧ x = .dat (.dict []) := fun i x h => by
    unfold lawS at h
    match i, h with
    | 0, h => rw [List.getElem?_cons_zero] at h; cases h
    | 1, h => rw [List.getElem?_cons_succ, List.getElem?_cons_zero] at h; cases h; exact ⟨rfl, rfl⟩
    | i + 2, h =>
      rw [List.getElem?_cons_succ, List.getElem?_cons_succ, List.getElem?_replicate] at h
      split at h <;> cases h
  have noown : ∀ i a, ¬ OwnS (lawS N.length) ((L2.start N [v]).set 1 (some (.ref fa))) i a := fun i a ⟨⟨es, h⟩, _⟩ => by
    obtain ⟨_, e⟩ := at1 _ _ h
    cases e
  have hid : Hid (fun _ => False) (lawS N.length) ((L2.start N [v]).set 1 (some (.ref fa))) = fun _ => False := by
    funext b
    exact propext ⟨fun z => z.elim id fun ⟨i, h⟩ => (noown i b h).elim, .inl⟩
  have hh : hide (fun _ => False) H = H := funext fun b => hide_eq fun z => z
  have len : (L2.start N [v]).length = N.length := by
    unfold L2.start
    rw [List.length_append, List.length_map, List.length_replicate, List.length_singleton]
    omega
  refine ⟨⟨?_, fun a h => h.elim, Up.refl H, fun i d h => ?_, fun i es h => ?_, fun i j a h => (noown i a h).elim⟩, by rw [hid, hh]; exact f, tb⟩
  · rw [List.length_set, len]
    unfold lawS
    rw [List.length_cons, List.length_cons, List.length_replicate]
    omega
  · obtain ⟨rfl, e⟩ := at1 _ _ h
    cases e
    exact ⟨.ref fa, by rw [List.getElem?_set_self (by rw [len]; omega)], rfl⟩
  · obtain ⟨_, e⟩ := at1 _ _ h
    cases e
/-- the law's def: its feed, then what its text says over data -/
theorem fn_law {P : Program} {w : World} {K : PySem.W.Frag} {mg : Str → Option Value} {base : Heap} {k : Nat} {x qual scr : Str} {st st0 : Stmt} {rest : List Stmt} {f : Addr} {fd : FuncData} {N : List Str} {k2 k3 k4 : Str} {T : List (Addr × Str)} {mb : MS}
    (F : Fun K x qual st f fd) (S : FnScope N [scr] (defScope st)) (hn : 2 ≤ N.length) (hb : defBody st = st0 :: rest)
    (h0 : ∀ (cdv : Value) (A : Around) (outer : List Env) (s : Shared) (H : Hp) (E : XK), fd.code = cdv → A.guards = some [] → Room k (A.deeper (envOfC qual (defScope st) s.heap.objs.size f cdv)) →
      PS (cxOf CX0 P w K mg base N qual (defScope st) f cdv A outer s H E) st0 (fun D σ H => ∃ v, σ[0]? = some (some v) ∧ spFeed K k2 k3 k4 T [v] H (fun v H1 => D.nx (σ.set 1 (some v)) H1) E0))
    (h1 : ∀ (fa ca : Addr) (cdv : Value) (A : Around) (outer : List Env) (s : Shared) (H : Hp) (E : XK), fd.code = cdv → A.guards = some [] → Room k (A.deeper (envOfC qual (defScope st) s.heap.objs.size f cdv)) →
      DSs (cxOf CX0 P w K mg base N qual (defScope st) f cdv A outer s H E).nox ⟨fa, ca, k2, k3, k4, T, none⟩ rest mb)
    (ok : ∀ ns : List Int, ns.length ≤ 63 → ∃ ρ φ, mb (lawS N.length) ⟨ns, 0, 0, 0⟩ = .ok (.ret (.dat (.bool true)), ρ, φ)) :
    FnG P w K mg base CX0 (k + 1) f fd [scr] (spLaw K T) := by
  refine fnG_of F S (fun vs H Q E h => ?_) fun cdv A outer s H vs Q E hcv hg hr h => ?_
  · obtain ⟨a, ns, _, rfl, _⟩ := h
    rfl
  obtain ⟨a, ns, tb0, rfl, hs, hl, q⟩ := h
  have rest' : PSs (cxOf CX0 P w K mg base N qual (defScope st) f cdv A outer s H E) rest (fun D σ H1 => ∃ fa ca, tS ⟨K, fa, ca, k2, k3, k4, T, none⟩ mb D σ H1) := ⟨fun pins s1 σ H1 D I ⟨fa, ca, z⟩ => (h1 fa ca cdv A outer s H E hcv hg hr).nox.run pins s1 σ H1 D I z⟩
  refine ⟨_, by rw [hb]; exact pss_cons (h0 cdv A outer s H E hcv hg hr) rest', ?_⟩
  refine ⟨.ref a, start_val (N := N) (vs := [V.ref a]) rfl, a, ns, rfl, hs, hl, fun fa ca H' x fo => ?_⟩
  obtain ⟨ρ, φ, e⟩ := ok ns hl
  refine ⟨fa, ca, H', fun _ => False, lawS N.length, ⟨ns, 0, 0, 0⟩, _, stR_law (tb0.ext x.all) fo hn, e, ?_⟩
  intro v H2 _ _ r
  cases r
  exact q H2
end VI
namespace VI
open PySem PySem.Spec PyProof.Rows L2
/-- what the script's object may be at the law's call: tracked and frozen, or one of the module's own -/
structure Scr (P : Program) (w : World) (K : PySem.W.Frag) (h : Heap) (a : Addr) (vs : List Value) (ns : List Int) (H : Hp) : Prop where
  ok : HOk P w H h
  seq : SqL K H a (ns.map V.int)
  one : ∀ b, H b = none ∨ (b = a ∧ H b = some (.frz { cls := .type "list", data := .seq vs.toArray } (.lst (ns.map V.int))) ∧ K.lookup b = none)
theorem scr_of {P : Program} {w : World} {K : PySem.W.Frag} {h : Heap} {a : Addr} {vs : List Value} {ns : List Int} (X : K.In h) (ha : h.get? a = some { cls := .type "list", data := .seq vs.toArray }) (hi : IntsAre vs ns) (hl : ns.length ≤ sizeLine) : ∃ H, Scr P w K h a vs ns H := by
  have rv := vals_ints hi
  cases q : K.lookup a with
  | some o =>
    have e := X a o q
    rw [ha] at e
    cases e
    exact ⟨fun _ => none, ⟨fun b u z => (by cases (show (none : Option HO) = some u from z)), .inr ⟨_, vs.toArray, _, q, rfl, rfl, rfl, by rw [List.size_toArray, hi.length]; exact hl, by simpa using rv⟩, fun b => .inl rfl⟩⟩
  | none =>
    refine ⟨upd (fun _ => none) a (.frz { cls := .type "list", data := .seq vs.toArray } (.lst (ns.map V.int))), ⟨fun b u z => ?_, .inl (.inr ⟨_, upd_same⟩), fun b => ?_⟩⟩
    · by_cases hb : b = a
      · subst hb
        rw [upd_same] at z
        cases z
        exact ⟨ha, by rw [List.length_map]; exact hl, vs, _, rv, ha⟩
      · rw [upd_ne hb] at z
        cases z
    · by_cases hb : b = a
      · subst hb
        exact .inr ⟨rfl, upd_same, q⟩
      · exact .inl (upd_ne hb)
section
variable {P : Program} {w : World} {K : PySem.W.Frag} {mg mb : Str → Option Value} {s : Shared} {a : Addr} {vs : List Value} {ns : List Int} {H : Hp}
/-- under it the caller stands right -/
theorem Scr.env (S : Scr P w K s.heap a vs ns H) (ha : s.heap.get? a = some { cls := .type "list", data := .seq vs.toArray }) (X : K.In s.heap) (g : s.heap.Ns mainGlobals mg) (b : s.heap.Ns builtinsNs mb) (bb : ∀ x : Str, x ≠ "__name__" → mb x = bootBuiltins x)
    (lim : s.heap.NoLimit) (hg : s.gens = #[]) : K.In (hidT s.heap H) ∧ (hidT s.heap H).Ns mainGlobals mg ∧ Env0 P w K mg (hidT s.heap H) callerA [] s H := by
  have in' : K.In (hidT s.heap H) := fun c o e => by
    rcases S.one c with z | ⟨_, _, z⟩
    · exact hidT_get (X c o e) z
    · rw [z] at e
      cases e
  have ns' : ∀ {c : Addr} {m : Str → Option Value}, s.heap.Ns c m → (hidT s.heap H).Ns c m := fun {c m} ⟨o, es, ep, e, d, r⟩ => by
    refine ⟨o, es, ep, ?_, d, r⟩
    rcases S.one c with z | ⟨e2, _, _⟩
    · exact hidT_get e z
    · subst e2
      rw [ha] at e
      cases e
      cases (show Data.seq vs.toArray _ = Data.dict es ep from d)
  obtain ⟨mc, l1, l2⟩ := lim
  exact ⟨in', ns' g, ⟨rfl, ⟨in', ns' g, ⟨mb, ns' b, bb⟩, ⟨mc, ns' l1, l2⟩⟩, fun c o e => of_hidT e, Nat.le_of_eq (hidT_size _ _), trivial, fun c m => (by cases (show c ∈ ([] : List Addr) from m)), S.ok, .of_eq hg⟩⟩
theorem law_runs {k : Nat} {fa : Addr} {fd : FuncData} {x : Str} (S : Scr P w K s.heap a vs ns H) (ha : s.heap.get? a = some { cls := .type "list", data := .seq vs.toArray }) (X : K.In s.heap) (g : s.heap.Ns mainGlobals mg) (b : s.heap.Ns builtinsNs mb) (bb : ∀ x : Str, x ≠ "__name__" → mb x = bootBuiltins x)
    (lim : s.heap.NoLimit) (hg : s.gens = #[]) (hr : Room k callerA) (hl : ns.length ≤ 63) (F : ∀ base : Heap, K.In base → base.Ns mainGlobals mg → FnG P w K mg base CX0 k fa fd [x] (spLaw K [])) (bind : ∀ (s : Shared) (u : Value), BindsTo s fd ⟨[u], []⟩ [(x, u)]) :
    codeAny (model P w) callerA (.call (.ref fa) ⟨[.ref a], []⟩) (fun r s' => r = .ok (.ret (.bool true)) ∧ OldK s.heap s'.heap ∧ s'.os = s.os ∧ AllBare s'.gens) s := by
  obtain ⟨in', ns', e0⟩ := S.env (P := P) (w := w) ha X g b bb lim hg
  refine codeAny_mono ((F _ in' ns').go callerA [] s H ⟨[.ref a], []⟩ [.ref a] [.ref a] (fun v _ => v = .bl true) (fun _ _ _ => False) rfl hr e0 (bind s (.ref a)) (.cons rfl .nil) ⟨a, ns, fun p hp => (by cases hp), rfl, S.seq, hl, fun _ => rfl⟩) fun r s' h => ?_
  match r, h with
  | .error e, h => exact False.elim h
  | .ok .next, h => exact False.elim h
  | .ok .brk, h => exact False.elim h
  | .ok .cont, h => exact False.elim h
  | .ok (.ret u), h =>
    obtain ⟨v, H', os, bare, un, ok', rv, ev⟩ := h
    have ev' : v = .bl true := ev
    subst ev'
    obtain rfl : u = Value.bool true := rv
    refine ⟨rfl, OldK.of_keep fun c o e => ?_, os, bare⟩
    rcases S.one c with z | ⟨_, z, _⟩
    · exact un.keep c o e z (fun m => by cases (show c ∈ ([] : List Addr) from m)) (by simp)
    · have z2 := un.frzs c _ _ z
      obtain ⟨e1, _⟩ := S.ok c _ z
      obtain ⟨e2, _⟩ := ok' c _ z2
      rw [e] at e1
      cases e1
      exact e2
end
/-- the goal behind k_head -/
theorem walkG {l : PySem.W.OpenLaw} {k : Nat} {q : Program} {loose : List Str} {XP : (Str → Option Value) → Heap → Prop} {YP : World → Heap → Prop} {d : DefRec} {K : Params → PySem.W.Frag} {x : Str}
    (hn : l.most = some 63) (hdf : d.params.defaults = []) (hr : Room k callerA) (hY : ∀ (w : World) (h : Heap), YP w h → (K w.params).In h)
    (F : ∀ (w : World) (mg : Str → Option Value) (fa : Addr) (h : Heap), (K w.params).In h → h.Ns mainGlobals mg → mg d.name = some (.ref fa) →
      ∃ fd : FuncData, (∀ (s : Shared) (u : Value), BindsTo s fd ⟨[u], []⟩ [(x, u)]) ∧ ∀ base : Heap, (K w.params).In base → base.Ns mainGlobals mg → FnG l.prog w (K w.params) mg base CX0 k fa fd [x] (spLaw (K w.params) [])) :
    PySem.W.WalkO q loose XP YP l.row.toRowW d [] (fun f vs => PySem.call f vs) := by
  refine Att.attach_call hn hdf fun w s₀ s₁ mg mb fa o pm cd doc a vs ns G Y ho hd hcd hmg hobj hints hlen hg => ?_
  have X := hY w _ Y
  obtain ⟨fd, hb, hF⟩ := F w mg fa _ X G.T.g hmg
  obtain ⟨H, S⟩ := scr_of (P := l.prog) (w := w) X hobj hints (by rw [sizeLine_eq]; omega)
  exact law_runs S hobj X G.T.g G.T.b G.T.builtins G.T.nolimit hg hr hlen hF hb
end VI
namespace VI
open PySem PySem.Spec PyProof.Rows L2
def FunAt (K : PySem.W.Frag) (x : Str) (st : Stmt) : Prop := ∃ (f : Addr) (oc : Value) (od an : Option Addr) (osl : Array (Option Value)) (kV doc pm cdv ct : Value), PySem.W.nsIn K mainGlobals x = some (some (.ref f)) ∧
  K.lookup f = some ⟨oc, od, .func (PySem.W.fnOf x x (defArgs st) (defBody st) (defScope st) .none kV doc pm an cdv ct), osl⟩ ∧ PySem.W.codeIn K cdv x = true ∧ PySem.W.keepIn K (.ref f) = true
theorem funAt {K : PySem.W.Frag} {x : Str} {st : Stmt} {f : Addr} {oc : Value} {od an : Option Addr} {osl : Array (Option Value)} {kV doc pm cdv ct : Value} (a : PySem.W.nsIn K mainGlobals x = some (some (.ref f)))
    (l : K.lookup f = some ⟨oc, od, .func (PySem.W.fnOf x x (defArgs st) (defBody st) (defScope st) .none kV doc pm an cdv ct), osl⟩) (c : PySem.W.codeIn K cdv x = true) (k : PySem.W.keepIn K (.ref f) = true) : FunAt K x st := ⟨f, oc, od, an, osl, kV, doc, pm, cdv, ct, a, l, c, k⟩
theorem FunAt.get {K : PySem.W.Frag} {x : Str} {st : Stmt} {h : Heap} {mg : Str → Option Value} (F : FunAt K x st) (X : K.In h) (G : h.Ns mainGlobals mg) : ∃ (f : Addr) (fd : FuncData), mg x = some (.ref f) ∧ Fun K x x st f fd := by
  obtain ⟨f, oc, od, an, osl, kV, doc, pm, cdv, ct, a, l, c, k⟩ := F
  exact ⟨f, _, PySem.W.mg_of X G a, fun_mk l c k⟩
end VI
namespace VI
open PySem PySem.Spec PyProof.Rows L2
def DIc {α : Type} (X : Cx) (q : Pk) (tg iter : Expr) (R : RI α) (m : MI α) : Prop :=
  ∃ wi, PI X tg iter wi ∧ ∀ (σ : L2.St) (H : Hp) (C : It → Hp → Prop), (∃ P ρ φ as φ', At (q.at X.K) P H ρ φ σ ∧ m ρ φ = .ok (as, φ') ∧
    ∀ J H', Up (q.at X.K).T H H' → FO (q.at X.K) φ' (hide P H') → (∀ P2 H2, ItD R P2 H2 as J) → C J H') → wi σ H C
def forC {α : Type} (vs : List Nat) (mi : MI α) (set : α → EnvS → Option EnvS) (mb : MS) : MS := fun ρ φ => (mi (soft vs ρ) φ).bind fun r => forGo set mb r.1 ρ r.2
section
variable {X : Cx} {q : Pk} {tg iter e e2 : Expr} {body : List Stmt} {pos p : Pos} {α : Type} {R : RI α} {mi : MI α} {set : α → EnvS → Option EnvS} {mb : MS} {ma mc : ME}
theorem dic_rng1 (hg : Gl X "range") (hm : X.mg "range" = none) (ha : DE X q e ma) (hs : starEach [e] X.env = (false, eval e X.env) :: starEach [] X.env) : DIc X q tg (.Call (.Name "range" p) [e] [] pos) (R1 (q.at X.K)) (rng1I ma) := by
  refine ⟨_, pi_range1 hg hm (pa_cons ha pa_nil hs) hs, fun σ H C w => ?_⟩
  obtain ⟨P, ρ, φ, as, φ', a, hm, k⟩ := w
  obtain ⟨⟨e1, φ1⟩, h1, hm⟩ := Res.bind_ok hm
  dsimp only at hm
  split at hm
  · rename_i he
    split at hm
    · rename_i hb
      cases hm
      refine part a h1 fun v H1 a1 u1 r1 => ?_
      have r2 := r1.rep a.live
      rw [he] at r2
      cases r2
      exact ⟨_, rfl, by omega, by omega, k _ H1 u1 a1.fo fun _ _ => itd_rng⟩
    · cases hm
  · cases hm
theorem dic_rng2 (hg : Gl X "range") (hm : X.mg "range" = none) (ha : DE X q e ma) (hb : DE X q e2 mc) (hs : starEach [e, e2] X.env = (false, eval e X.env) :: starEach [e2] X.env) (hs2 : starEach [e2] X.env = (false, eval e2 X.env) :: starEach [] X.env) :
    DIc X q tg (.Call (.Name "range" p) [e, e2] [] pos) (R1 (q.at X.K)) (rng2I ma mc) := by
  refine ⟨_, pi_range2 hg hm (pa_cons ha (pa_cons hb pa_nil hs2) hs) (hs.trans (by rw [hs2]; rfl)) hs2, fun σ H C w => ?_⟩
  obtain ⟨P, ρ, φ, as, φ', a, hm, k⟩ := w
  obtain ⟨⟨e1, φ1⟩, h1, hm⟩ := Res.bind_ok hm
  obtain ⟨⟨e2, φ2⟩, h2, hm⟩ := Res.bind_ok hm
  dsimp only at hm
  split at hm
  · rename_i he he2
    split at hm
    · rename_i hb
      cases hm
      refine part a h1 fun v H1 a1 u1 r1 => part a1 h2 fun v2 H2 a2 u2 r2 => ?_
      have r1 := r1.rep a.live
      have r2 := r2.rep a1.live
      rw [he] at r1
      rw [he2] at r2
      cases r1
      cases r2
      exact ⟨_, _, rfl, ⟨by omega, by omega, by omega, by omega⟩, k _ H2 (u1.trans u2) a2.fo fun _ _ => itd_rng⟩
    · cases hm
  · cases hm
theorem ds_forC (vs : List Nat) (hp : PassesOwn (model X.prog X.w) X.A X.env X.xe) (hc : X.calm = true) (hi : DIc X q tg iter R mi) (hg : DGS X (q.at X.K) tg R set) (hb : DSs X q body mb) (hs : ∀ x, foldedSetIterable iter X.env x = pure x) :
    DS X q (.For tg iter body [] pos) (forC vs mi set mb) := by
  obtain ⟨wi, h1, h2⟩ := hi
  obtain ⟨g, h3, h4⟩ := hg
  refine ps_imp (ps_for hp hc h1 h3 hb hs) fun D σ H z => ?_
  obtain ⟨H0, P0, ρ, φ, r, S, h, k⟩ := z
  obtain ⟨⟨as, φ1⟩, e1, h⟩ := Res.bind_ok h
  dsimp only at h
  refine h2 σ H _ ⟨_, _, _, as, φ1, S.moment vs, e1, fun J H1 u1 f1 it => ?_⟩
  have S1 : StR (q.at X.K) H0 P0 H1 ρ φ1 σ := S.upTo u1 (f1.see S.fo.nfa.1 S.fo.nca.1 (S.fo.e.up (hide_up u1)))
  have s1 : Seen (Hid P0 ρ σ) H (Hid P0 ρ σ) H1 := seen_up u1
  refine ⟨fun i m σc Hc => m = as.length - i ∧ i ≤ as.length ∧ ∃ ρc φc, StR (q.at X.K) H0 P0 Hc ρc φc σc ∧ Seen (Hid P0 ρ σ) H1 (Hid P0 ρc σc) Hc ∧ forGo set mb (as.drop i) ρc φc = .ok r,
    ⟨as.length, by omega, Nat.zero_le _, ρ, φ1, S1, fun _ _ _ z => z, by rw [List.drop_zero]; exact h⟩, ?_⟩
  rintro i m σc Hc ⟨rfl, hi, ρc, φc, Sc, sc, hgo⟩
  obtain ⟨go, stop⟩ := it (Hid P0 ρc σc) Hc i Hc (Hid P0 ρc σc) fun _ _ _ z => z
  by_cases hlt : i < as.length
  · obtain ⟨go1, go2⟩ := go as[i] (List.getElem?_eq_getElem hlt)
    rw [List.drop_eq_getElem_cons hlt] at hgo
    unfold forGo at hgo
    split at hgo
    · cases hgo
    · rename_i ρ1 hset
      obtain ⟨⟨fl, ρ2, φ2⟩, h3, hgo⟩ := Res.bind_ok hgo
      dsimp only at hgo
      refine .inr ⟨go1, fun σn Hn => ∃ ρc φc, StR (q.at X.K) H0 P0 Hn ρc φc σn ∧ Seen (Hid P0 ρ σ) H1 (Hid P0 ρc σn) Hn ∧ forGo set mb (as.drop (i + 1)) ρc φc = .ok r,
        fun σn Hn hn => ⟨as.length - (i + 1), by omega, rfl, hlt, hn⟩, fun x H2 hy => ?_⟩
      obtain ⟨x2, rx⟩ := go2 x H2 hy
      have S2 : StR (q.at X.K) H0 P0 H2 ρc φc σc := Sc.upTo x2.up (Sc.fo.ext (hide_ext x2))
      refine h4 H0 P0 H2 ρc φc σc as[i] x ρ1 _ S2 rx hset fun σ3 S3 s3 => ?_
      have s4 := (sc.trans (seen_ex x2)).trans s3
      refine ⟨H0, P0, ρ1, φc, (fl, ρ2, φ2), S3, h3, ?_⟩
      cases fl with
      | nx => exact fun σ5 H5 S5 s5 => ⟨ρ2, φ2, S5, s4.trans s5, hgo⟩
      | ct => exact fun σ5 H5 S5 s5 => ⟨ρ2, φ2, S5, s4.trans s5, hgo⟩
      | bk =>
        cases hgo
        exact fun σ5 H5 S5 s5 => k σ5 H5 S5 ((s1.trans s4).trans s5)
      | ret e =>
        cases hgo
        exact fun v H5 u5 f5 r5 => k v H5 u5 f5 r5
  · have ei : i = as.length := by omega
    subst ei
    rw [List.drop_length] at hgo
    cases hgo
    exact .inl ⟨stop (Nat.le_refl _), k σc Hc Sc (s1.trans sc)⟩
end
end VI
namespace VI
open PySem PySem.Spec PyProof.Rows L2
def noneB : D → Bool
  | .none => true
  | _ => false
def isG (neg : Bool) : D → D → Res EV
  | d, .none => rb (neg ^^ noneB d)
  | _, _ => .bad
def bandG : D → D → Res EV
  | .int i, .int j => if 0 ≤ i ∧ j = 1 then .ok (.dat (.int (i % 2))) else .bad
  | _, _ => .bad
section
variable {X : Cx} {q : Pk}
theorem non_rep {p : Pr} {G : Hp} {d : D} {v : V} (r : Rep p G d v) : decide (v = .non) = noneB d := by
  cases d with
  | none => cases r; rfl
  | bool b => cases r; rfl
  | int i => cases r; rfl
  | str x => cases r; rfl
  | list ds => obtain ⟨a, xs, rfl, _⟩ := r; rfl
  | tuple ds => obtain ⟨a, xs, rfl, _⟩ := r; rfl
  | dict kv =>
    cases kv with
    | nil => cases r; rfl
    | cons y kv => obtain ⟨x, _, rfl⟩ := r; rfl
theorem og_is : OpG X q (compareOp .Is) (isG false) := by
  refine ⟨_, op_isN, ?_⟩
  intro P H x y d1 d2 e Q l r1 r2 h k
  unfold isG rb at h
  split at h
  · cases h; cases r2
    refine ⟨rfl, k _ H (Ext.refl H) ?_⟩
    rw [non_rep r1, Bool.false_xor]
    rfl
  · cases h
theorem og_isnot : OpG X q (compareOp .IsNot) (isG true) := by
  refine ⟨_, op_notN, ?_⟩
  intro P H x y d1 d2 e Q l r1 r2 h k
  unfold isG rb at h
  split at h
  · cases h; cases r2
    refine ⟨rfl, k _ H (Ext.refl H) ?_⟩
    rw [non_rep r1, Bool.true_xor]
    rfl
  · cases h
theorem og_band : OpG X q (binaryOp .BitAnd) bandG := by
  refine ⟨_, op_odd, ?_⟩
  intro P H x y d1 d2 e Q l r1 r2 h k
  unfold bandG at h
  split at h
  · split at h
    · rename_i hz
      cases h; cases r1; cases r2
      obtain ⟨n, en⟩ := Int.eq_ofNat_of_zero_le hz.1
      refine ⟨n, by rw [en], by rw [hz.2], k _ H (Ext.refl H) ?_⟩
      rw [en]
      rfl
    · cases h
  · cases h
end
end VI
namespace VI
open PySem PySem.Spec PyProof.Rows L2
open AutoSeq1 (wpAny_loadPart')
set_option maxHeartbeats 1000000 in
theorem meets_enum1 {v : Value} {o : Obj} {H : Heap → Prop} (B : Begins v o H) :
    Meets (Builtin.«enumerate.__new__» ⟨[.type "enumerate", v], []⟩) (fun _ R s => H s.heap ∧
      R (.ok (.ret (.ref (s.heap.push o).objs.size))) { s with heap := (s.heap.push o).push { cls := .type "enumerate", data := .fields #[.none, .bool false, .ref s.heap.objs.size, rawInt 0, .none, .none] } }) :=
  .of_wp fun prog w A R s h => by
    obtain ⟨hp, g, d, tk, os⟩ := s; obtain ⟨h1, h⟩ := h
    have hsub := sub_enumerate
    have q1 : ∀ {A' : Around} {E : Value → Shared → Prop} {Q : Value → Shared → Prop}, Q (.ref hp.objs.size) ⟨hp.push o, g, d, tk, os⟩ → wpAny (model prog w) A' (pyIter v) Q E ⟨hp, g, d, tk, os⟩ :=
      fun q => B.iter prog w _ _ ⟨hp, g, d, tk, os⟩ _ h1 q
    wp_walk using q1
    refine wpAny_stack_any fun st => wpAny_pure ?_
    split
    · rename_i c _ _ _ _ _
      cases (c == Value.type "enumerate")
      · wp_walk using q1
        exact ⟨_, rfl, h⟩
      · wp_walk using q1
        exact ⟨_, rfl, h⟩
    · wp_walk using q1
      exact ⟨_, rfl, h⟩
section
variable {prog : Program} {w : World} {A : Around} {E : Value → Shared → Prop} {s : Shared}
theorem call_enum1 {v : Value} {o : Obj} {H : Heap → Prop} {Q : Value → Shared → Prop} (B : Begins v o H) (h1 : H s.heap)
    (h : ∀ h', IsEnum h' (s.heap.objs.size + 1) s.heap.objs.size 0 .none → h'.get? s.heap.objs.size = some o → h'.objs.size = s.heap.objs.size + 2 →
      (∀ b o, s.heap.get? b = some o → h'.get? b = some o) → Q (.ref (s.heap.objs.size + 1)) { s with heap := h' }) :
    wpAny (model prog w) A (call (.type "enumerate") [v]) Q E s := by
  refine callType_new PySem.F.called_enumerate (by decide) (PySem.F.typeCall_enumerate_1 _) (PySem.F.newCall_enumerate_1 _) (fun obj => PySem.F.args_object_init_2 obj _) PySem.F.entry_enumerate_new
    (meets_enum1 B) ⟨h1, ?_⟩
  have hz : (s.heap.push o).objs.size = s.heap.objs.size + 1 := Heap.size_push ..
  show _ ∧ _
  rw [hz]
  have he : IsEnum ((s.heap.push o).push { cls := .type "enumerate", data := .fields #[.none, .bool false, .ref s.heap.objs.size, rawInt 0, .none, .none] }) (s.heap.objs.size + 1) s.heap.objs.size 0 .none := by
    have := Heap.get?_push_size (s.heap.push o) (o := { cls := .type "enumerate", data := .fields #[.none, .bool false, .ref s.heap.objs.size, rawInt 0, .none, .none] }) rfl
    rw [hz] at this; exact this
  refine ⟨⟨_, he, rfl⟩, h _ he (Heap.get?_push_of_some _ (Heap.get?_push_size _ B.free)) (by rw [Heap.size_push, hz]) fun b o x => Heap.get?_push_of_some _ (Heap.get?_push_of_some _ x)⟩
end
/-- the tuple at a as it stands at each turn, each item in a new pair -/
def IteT (K : PySem.W.Frag) (a : Addr) : It :=
  ⟨fun i H => ∃ (xs : List V) (x : V), SqT K H a xs ∧ xs[i]? = some x, fun i H v H' => ∃ T x, v = .ref T ∧ H T = none ∧ H' = upd H T (.tup [.int (i : Nat), x]) ∧ ∀ xs, SqT K H a xs → xs[i]? = some x, fun i H => ∃ xs : List V, SqT K H a xs ∧ xs.length ≤ i⟩
theorem turn_enumT {P : Program} {w : World} {K : PySem.W.Frag} {elts : List Expr} {kk : Nat} {tpos : Pos} (a e it : Addr) :
    Turn P w K (.Tuple elts kk tpos) (IteT K a) [e, it] e (fun i h => (∃ old, IsEnum h e it ((i : Nat) : Int) old) ∧ h.IsTupleIter it a i ∧ e ≠ it) where
  mem := by simp
  obj := fun i h st b hb => by
    obtain ⟨⟨old, he⟩, ⟨o, ho, hc, hd⟩, _⟩ := st
    have e' : b = e ∨ b = it := by simpa using hb
    rcases e' with z | z
    · rw [z]; exact ⟨_, he, fun v q => nomatch q⟩
    · rw [z]; exact ⟨o, ho, fun v q => by rw [hd] at q; cases q⟩
  keep := fun i h h' st k => let ⟨⟨old, he⟩, hi, hne⟩ := st; ⟨⟨old, k e (by simp) _ he⟩, hi.at fun o q => k it (by simp) o q, hne⟩
  item := by
    intro X hP hw hK hc i pins s σ H E I hf st hg
    subst hP hw hK
    obtain ⟨⟨old, he⟩, hit, hne⟩ := st
    obtain ⟨xs, x, hq, hx⟩ := hg
    obtain ⟨its, rv, p, hz⟩ := I.tuple hq
    obtain ⟨u, hu, ru⟩ := rv.get hx
    have pT : s.heap.IsTuple a its.toArray := p
    have hel : e < s.heap.objs.size := Heap.lt_size he
    have hil : it < s.heap.objs.size := by obtain ⟨_, q, _⟩ := hit; exact Heap.lt_size q
    have hea : e ≠ a := fun z => by
      obtain ⟨o, ho, hcl, _⟩ := p
      rw [← z] at ho
      rw [show s.heap.get? e = _ from he] at ho
      cases ho
      exact absurd (show Value.type "enumerate" = .type "tuple" from hcl) (by decide)
    have hia : a ≠ it := fun z => by
      obtain ⟨o, ho, hcl, _⟩ := p
      obtain ⟨o2, ho2, hc2, _⟩ := hit
      rw [z, ho2] at ho
      cases ho
      rw [hc2] at hcl
      exact absurd hcl (by decide)
    have D := PySem.Draws.tuple (prog := X.prog) (w := X.w) (A := X.A.in1) (I.ok.hd hc) it a hia its.toArray
    have hlt : i < its.toArray.size := by
      obtain ⟨q, _⟩ := List.getElem?_eq_some_iff.mp hu
      simpa using q
    refine PySem.wpAny_pyNext_enum_itemC D he ⟨hit, pT⟩ hlt hne (by simp; exact ⟨hne, hea⟩) fun x' h' tk hP ho hst hT hsz hk => ?_
    obtain ⟨hit', pT'⟩ := hst
    have ex : x' = u := by
      have h2 : its.toArray[i]? = some x' := hP
      have h3 : its[i]? = some x' := by simpa using h2
      rw [hu] at h3
      exact (Option.some.inj h3).symm
    subst ex
    refine ⟨_, rfl, wpAny_letOwnedTupleGo_enum (s := { s with heap := h', toks := tk + 1 }) ho fun h'' he' sb => ?_⟩
    have hT2 : h''.get? s.heap.objs.size = some { cls := .type "tuple", data := .seq #[.int i tk, x'] } := (sb.2 _ (Nat.ne_of_gt hel)).trans hT
    have new : ObjOk X.prog X.w (upd H s.heap.objs.size (.tup [.int (i : Nat), x])) h'' s.heap.objs.size (.tup [.int (i : Nat), x]) :=
      ⟨by show 2 ≤ sizeLine; decide, [.int i tk, x'], .cons ⟨_, rfl⟩ (.cons ru .nil), ⟨_, hT2, rfl, _, rfl⟩⟩
    have I1 : Inv X pins σ (upd H s.heap.objs.size (.tup [.int (i : Nat), x])) { s with heap := h'', toks := tk + 1 } :=
      I.turnedNew (ch := [e, it]) (fun b ob hb q => (sb.2 b (fun z => hb (by simp [z]))).trans (hk b ob (fun z => hb (by simp [z])) (fun z => hb (by simp [z])) q)) hf (Nat.le_refl _) new
    refine ⟨.ref s.heap.objs.size, _, I1, rfl, ⟨_, x, rfl, I.hok.fresh (Nat.le_refl _), rfl, fun ys hy => by rw [I.tuple_inj hy hq]; exact hx⟩, ⟨⟨x', ?_⟩, hit'.at fun o q => (sb.2 it (Ne.symm hne)).trans q, hne⟩, fun b hb => ?_⟩
    · have e1 : ((i + 1 : Nat) : Int) = (i : Int) + 1 := by omega
      rw [e1]; exact he'
    · have hb' : b < s.heap.objs.size := by
        have e' : b = e ∨ b = it := by simpa using hb
        rcases e' with z | z
        · rw [z]; exact hel
        · rw [z]; exact hil
      rw [upd_ne (Nat.ne_of_lt hb')]
      exact (hf b hb).1
  done := by
    intro X hP hw hK hc i pins s σ H E I hf st hg
    subst hP hw hK
    obtain ⟨⟨old, he⟩, hit, hne⟩ := st
    obtain ⟨xs, hq, hx⟩ := hg
    obtain ⟨its, rv, p, hz⟩ := I.tuple hq
    have pT : s.heap.IsTuple a its.toArray := p
    obtain ⟨f0, f1, f2, f3, f4, f5⟩ := hf it (by simp)
    have hl := rv.length
    have hia : a ≠ it := fun z => by
      obtain ⟨o, ho, hcl, _⟩ := p
      obtain ⟨o2, ho2, hc2, _⟩ := hit
      rw [z, ho2] at ho
      cases ho
      rw [hc2] at hcl
      exact absurd hcl (by decide)
    have D : PySem.Draws X.prog X.w X.A.in1 it [it, a] i (fun _ _ => False) (fun j h => j = i ∧ h.IsTupleIter it a i ∧ h.IsTuple a its.toArray) := {
      live := fun _ _ st => let ⟨o, ho, _⟩ := st.2.1; ⟨o, ho⟩
      frame := fun _ _ _ st hk => ⟨st.1, st.2.1.at fun o e => hk it (by simp) o e, st.2.2.at fun o e => hk a (by simp) o e⟩
      item := fun j s Q E hj st _ => absurd st.1 (Nat.ne_of_lt hj)
      done := fun s Q E st hE => PySem.wpAny_nextOf_tuple_end (I.ok.hd hc) st.2.1 st.2.2 (by simp; omega) hE }
    exact PySem.wpAny_pyNext_enum_endD D he ⟨rfl, hit, pT⟩ fun h' eb => ⟨rfl, I.turned (t' := s.toks) (fun b o hb q => eb b o hb q) f0 f1 f3 f4 f5⟩
  self := fun A i s Q E st h => let ⟨⟨_, he⟩, _⟩ := st; wpAny_pyIter_enum he h
def iEnumT (K : PySem.W.Frag) (ta : TA) : TI := fun σ H R => ta σ H fun vs H1 => ∃ a xs, vs = [.ref a] ∧ SqT K H1 a xs ∧ R (IteT K a) H1
theorem pi_enumT {X : Cx} {e : Expr} {ta : TA} {p pos tpos : Pos} {elts : List Expr} {kk : Nat} (hg : Gl X "enumerate") (hm : X.mg "enumerate" = none) (ha : PA X [e] ta) (hs : starEach [e] X.env = [(false, eval e X.env)] := by rfl) :
    PI X (.Tuple elts kk tpos) (.Call (.Name "enumerate" p) [e] [] pos) (iEnumT X.K ta) := by
  refine ⟨fun pins s σ H R I h => ?_⟩
  refine Call_ (ld_blt I hg hm boot_enumerate (PyProof.Rows.callWith_type1 (thn (ha.run pos pins s σ H _ I h) fun us s1 ⟨vs, H1, I1, r1, q1⟩ => ?_) hs rfl))
  obtain ⟨a, xs, ex, hq, q⟩ := q1
  subst ex
  cases r1 with
  | cons r rr =>
    cases rr
    cases r
    obtain ⟨its, rv, p', hz⟩ := I1.tuple hq
    have pT : s1.heap.IsTuple a its.toArray := p'
    refine call_enum1 (PySem.begins_tuple a its.toArray) pT fun h' he hit hsz hk => wpAny_pyIter_enum he ?_
    have I2 : Inv X pins σ H1 { s1 with heap := h' } := I1.kept (t' := s1.toks) hk
    refine ⟨s1.heap.objs.size + 1, [s1.heap.objs.size + 1, s1.heap.objs.size], _, _, H1, rfl, I2, turn_enumT a (s1.heap.objs.size + 1) s1.heap.objs.size, ⟨⟨.none, he⟩, ⟨_, hit, rfl, rfl⟩, Nat.succ_ne_self _⟩, fun b hb => ?_, q⟩
    have e' : b = s1.heap.objs.size + 1 ∨ b = s1.heap.objs.size := by simpa using hb
    have hle : s1.heap.objs.size ≤ b := by
      rcases e' with z | z
      · rw [z]; exact Nat.le_add_right _ _
      · rw [z]; exact Nat.le_refl _
    exact I1.fpOk hle (I1.hok.fresh hle)
def enumI (m : ME) : MI (D × D) := fun ρ φ => (m ρ φ).bind fun r => match r.1.toD with
  | .list ds => .ok ((((List.range ds.length).map fun (i : Nat) => PyData.int (i : Int))).zip ds, r.2)
  | .tuple ds => .ok ((((List.range ds.length).map fun (i : Nat) => PyData.int (i : Int))).zip ds, r.2)
  | _ => .bad
theorem num_get {ds : List D} {i : Nat} {z : D × D} (h : ((((List.range ds.length).map fun (i : Nat) => PyData.int (i : Int))).zip ds)[i]? = some z) : z.1 = .int (i : Int) ∧ ds[i]? = some z.2 := by
  obtain ⟨h1, h2⟩ := zip_get h
  refine ⟨?_, h2⟩
  rw [List.getElem?_map] at h1
  cases q : (List.range ds.length)[i]? with
  | none => rw [q] at h1; cases h1
  | some j =>
    rw [q] at h1
    have hj : j = i := by
      obtain ⟨hl, e⟩ := List.getElem?_eq_some_iff.mp q
      rw [List.getElem_range] at e
      exact e.symm
    have h3 : PyData.int (j : Int) = z.1 := Option.some.inj h1
    rw [← h3, hj]
theorem num_len (ds : List D) : ((((List.range ds.length).map fun (i : Nat) => PyData.int (i : Int))).zip ds).length = ds.length := by
  rw [List.length_zip, List.length_map, List.length_range, Nat.min_self]
section
variable {X : Cx} {q : Pk} {e : Expr} {pos p tpos : Pos} {m : ME}
theorem di_enum {elts : List Expr} {kk : Nat} (hg : Gl X "enumerate") (hm : X.mg "enumerate" = none) (ha : DE X q e m) (hs : starEach [e] X.env = (false, eval e X.env) :: starEach [] X.env) :
    DI X q (.Tuple elts kk tpos) (.Call (.Name "enumerate" p) [e] [] pos) (R2 (q.at X.K)) (enumI m) := by
  refine ⟨_, pi_or (pi_enum hg hm (pa_cons ha pa_nil hs) hs) (pi_enumT hg hm (pa_cons ha pa_nil hs) hs), fun σ H C w => ?_⟩
  obtain ⟨P, ρ, φ, as, φ', a, hm, k⟩ := w
  obtain ⟨⟨e1, φ1⟩, h1, hm⟩ := Res.bind_ok hm
  dsimp only at hm
  split at hm
  · rename_i ds he
    cases hm
    refine .inl (part a h1 fun v H1 a1 u1 r1 => ?_)
    have r1 := r1.rep a.live
    rw [he] at r1
    obtain ⟨c, xs, rfl, g1, g2⟩ := r1
    refine ⟨c, xs, rfl, SqL.of (hide_of g1).2, k _ H1 u1 a1.fo fun i H3 P' u => ⟨fun z hz => ?_, fun hl => ?_⟩⟩
    · obtain ⟨z1, z2⟩ := num_get hz
      obtain ⟨v1, e1, q1⟩ := g2.get z2
      have g7 : H3 c = some (.lst xs) := (hide_of (u _ _ sq_lst g1)).2
      refine ⟨⟨xs, v1, SqL.of g7, e1⟩, fun x H4 w => ?_⟩
      obtain ⟨T, x1, rfl, nT, rfl, w1⟩ := w
      have f1 := (w1 xs (SqL.of g7)).symm.trans e1
      cases f1
      refine ⟨Ext.new nT, T, _, _, rfl, SqT.of upd_same, ?_, Rep.up (hide_ex (Ext.new nT)) (Rep.up u q1)⟩
      rw [z1]
      rfl
    · refine ⟨xs, SqL.of (hide_of (u _ _ sq_lst g1)).2, ?_⟩
      rw [num_len] at hl
      rw [g2.len]
      exact hl
  · rename_i ds he
    cases hm
    refine .inr (part a h1 fun v H1 a1 u1 r1 => ?_)
    have r1 := r1.rep a.live
    rw [he] at r1
    obtain ⟨c, xs, rfl, g1, g2⟩ := r1
    have sh := fun (G : Hp) (P : Addr → Prop) (b : Addr) (o : HO) (_ : Sq o) (z : hide P G b = some o) => (hide_of z).2
    refine ⟨c, xs, rfl, (TupN.at g1 (sh _ _)).sq, k _ H1 u1 a1.fo fun i H3 P' u => ⟨fun z hz => ?_, fun hl => ?_⟩⟩
    · obtain ⟨z1, z2⟩ := num_get hz
      obtain ⟨v1, e1, q1⟩ := g2.get z2
      have g7 := (TupN.at (TupN.at g1 u) (sh _ _)).sq
      refine ⟨⟨xs, v1, g7, e1⟩, fun x H4 w => ?_⟩
      obtain ⟨T, x1, rfl, nT, rfl, w1⟩ := w
      have f1 := (w1 xs g7).symm.trans e1
      cases f1
      refine ⟨Ext.new nT, T, _, _, rfl, SqT.of upd_same, ?_, Rep.up (hide_ex (Ext.new nT)) (Rep.up u q1)⟩
      rw [z1]
      rfl
    · refine ⟨xs, (TupN.at (TupN.at g1 u) (sh _ _)).sq, ?_⟩
      rw [num_len] at hl
      rw [g2.len]
      exact hl
  · cases hm
end
end VI
namespace VI
open PySem PySem.Spec PyProof.Rows L2
/-- the clauses' turns: the outer's items, behind each all of the inner's -/
def lcGo2 {α β : Type} (own1 : List Nat) (set : α → Env' → Option Env') (mt : MT) (mi1 : MI β) (set1 : β → Env' → Option Env') (mt1 : MT) (me : ME) (ρ0 : Env') : List α → FS → Res (List D × FS)
  | [], φ => .ok ([], φ)
  | a :: as, φ => match set a ρ0 with
    | none => .bad
    | some ρ1 => (mt ρ1 φ).bind fun r => if r.1 = true then (mi1 ρ1 r.2).bind fun r1 => if r1.1.length ≤ 1000 then (lcGo set1 mt1 me (wipeD ρ1 own1) r1.1 r1.2).bind fun r2 => (lcGo2 own1 set mt mi1 set1 mt1 me ρ0 as r2.2).bind fun r3 => .ok (r2.1 ++ r3.1, r3.2) else .bad
      else lcGo2 own1 set mt mi1 set1 mt1 me ρ0 as r.2
def lcM2 {α β : Type} (own own1 : List Nat) (mi : MI α) (set : α → Env' → Option Env') (mt : MT) (mi1 : MI β) (set1 : β → Env' → Option Env') (mt1 : MT) (me : ME) : ME := fun ρ φ =>
  (mi ρ φ).bind fun r => if r.1.length ≤ 1000 then (lcGo2 own1 set mt mi1 set1 mt1 me (wipeD ρ own) r.1 r.2).bind fun r2 => .ok (.own r2.1, r2.2) else .bad
theorem wipe_wipe (σ : L2.St) (own : List Nat) : wipe (wipe σ own) own = wipe σ own := by
  apply List.ext_getElem?
  intro j
  by_cases hj : j ∈ own
  · by_cases hl : j < σ.length
    · rw [wipe_get hj (by rw [wipe_length]; exact hl), wipe_get hj hl]
    · rw [List.getElem?_eq_none (by rw [wipe_length, wipe_length]; omega), List.getElem?_eq_none (by rw [wipe_length]; omega)]
  · rw [wipe_out hj]
theorem wish_lc2 {α β : Type} {p : Pr} {wi wi1 : TI} {R : RI α} {R' : RI β} {mi : MI α} {mi1 : MI β} {g g1 : TG} {set : α → Env' → Option Env'} {set1 : β → Env' → Option Env'} {vs vs1 own : List Nat} {mt mt1 : MT} {me : ME}
    (hi : ∀ (σ : L2.St) (H : Hp) (C : It → Hp → Prop), (∃ P ρ φ as φ', At p P H ρ φ σ ∧ mi ρ φ = .ok (as, φ') ∧ ∀ J H', Up p.T H H' → FO p φ' (hide P H') → ItD R P H' as J → C J H') → wi σ H C)
    (hi1 : ∀ (σ : L2.St) (H : Hp) (C : It → Hp → Prop), (∃ P ρ φ as φ', At p P H ρ φ σ ∧ mi1 ρ φ = .ok (as, φ') ∧ ∀ J H', Up p.T H H' → FO p φ' (hide P H') → ItD R' P H' as J → C J H') → wi1 σ H C)
    (hg : ∀ (P : Addr → Prop) (H : Hp) (ρ : Env') (σ : L2.St) (a : α) (v : V) (ρ' : Env') (Q : L2.St → Hp → Prop), EnvR p (hide P H) ρ σ → R P H a v → set a ρ = some ρ' →
      (∀ σ', EnvR p (hide P H) ρ' σ' → Chg vs σ σ' → (∀ i, i ∉ vs → ρ'[i]? = ρ[i]?) → Q σ' H) → g v σ H Q) (hvs : ∀ i ∈ vs, i ∈ own)
    (hg1 : ∀ (P : Addr → Prop) (H : Hp) (ρ : Env') (σ : L2.St) (a : β) (v : V) (ρ' : Env') (Q : L2.St → Hp → Prop), EnvR p (hide P H) ρ σ → R' P H a v → set1 a ρ = some ρ' →
      (∀ σ', EnvR p (hide P H) ρ' σ' → Chg vs1 σ σ' → (∀ i, i ∉ vs1 → ρ'[i]? = ρ[i]?) → Q σ' H) → g1 v σ H Q)
    (σ : L2.St) (H : Hp) (Q : VK) (w : tD p (lcM2 own vs1 mi set mt mi1 set1 mt1 me) σ H Q) : tLc2 wi g (tDT p mt) wi1 g1 (tDT p mt1) (tD p me) own vs1 σ H Q := by
  obtain ⟨P, ρ, φ, e, φ', a, h, k⟩ := w
  obtain ⟨⟨as, φ1⟩, h1, h⟩ := Res.bind_ok h
  dsimp only at h
  split at h
  · rename_i hz
    obtain ⟨⟨fin, φ2⟩, h2, h⟩ := Res.bind_ok h
    cases h
    refine hi σ H _ ⟨P, ρ, φ, as, φ1, a, h1, fun J H1 u1 f1 it => ?_⟩
    intro d nd
    have a1 := a.next u1 f1
    have up0 : Up p.T H1 (upd H1 d (.lst [])) := (Ext.new nd).up
    have newer : ∀ b, And1 P d b → P b ∨ H1 b = none := fun b hb => hb.imp id fun z => by rw [z]; exact nd
    have lives : ∀ Hc, Up p.T H1 Hc → (∃ xs, Hc d = some (.lst xs)) → Live (And1 P d) Hc := fun Hc uc hd b hb => by
      rcases hb with hb | hb
      · exact (a1.live.up uc) b hb
      · obtain ⟨xs, hd⟩ := hd
        rw [hb, hd]; intro z; cases z
    -- the list that is made grows by one
    have grow : ∀ (H3 H4 : Hp) (accD : List D) (accV : List V) (e4 : EV) (v4 : V) (φ4 : FS) (ρ3 : Env') (σ3 : L2.St), Up p.T H1 H3 → H3 d = some (.lst accV) → RepAll p (hide (And1 P d) H3) accD accV → Up p.T H3 H4 → At p (And1 P d) H4 ρ3 φ4 σ3 → RepE p (And1 P d) H3 H4 e4 v4 → Live (And1 P d) H3 →
        Up p.T H1 (upd H4 d (.lst (accV ++ [v4]))) ∧ RepAll p (hide (And1 P d) (upd H4 d (.lst (accV ++ [v4])))) (accD ++ [e4.toD]) (accV ++ [v4]) ∧ FO p φ4 (hide (And1 P d) (upd H4 d (.lst (accV ++ [v4])))) := fun H3 H4 accD accV e4 v4 φ4 ρ3 σ3 uu hd3 ra3 u4 a4 r4 l3 => by
      refine ⟨⟨fun b o s q1 => ?_, fun b q1 => ?_, fun t => tabs_lst ((uu.trans u4).tab t) (u4.sq _ _ sq_lst hd3)⟩, ?_, ?_⟩
      · have hb : b ≠ d := fun z => by rw [z, nd] at q1; cases q1
        rw [upd_ne hb]
        exact (uu.trans u4).sq b o s q1
      · have hb : b ≠ d := fun z => by rw [z, upd_same] at q1; cases q1
        rw [upd_ne hb] at q1
        exact (uu.trans u4).no b q1
      · rw [hide_upd (.inr rfl)]
        exact RepAll.app (RepAll.up (hide_up u4) ra3) (RepAll.one (r4.rep l3))
      · rw [hide_upd (.inr rfl)]
        exact a4.fo
    refine ⟨fun i m Hc => m = as.length - i ∧ i ≤ as.length ∧ ∃ φc accD accV rest, Up p.T H1 Hc ∧ Hc d = some (.lst accV) ∧ RepAll p (hide (And1 P d) Hc) accD accV ∧ FO p φc (hide (And1 P d) Hc) ∧
      lcGo2 vs1 set mt mi1 set1 mt1 me (wipeD ρ own) (as.drop i) φc = .ok (rest, φ2) ∧ accD ++ rest = fin ∧ accD.length ≤ 1000 * i, ⟨as.length, ?_⟩, ?_⟩
    · refine ⟨by omega, Nat.zero_le _, φ1, [], [], fin, up0, upd_same, rfl, ?_, by rw [List.drop_zero]; exact h2, rfl, Nat.zero_le _⟩
      rw [hide_upd (.inr rfl)]
      have fa : p.fa ≠ d := fun z => by have q1 := (hide_of f1.d).2; rw [z, nd] at q1; cases q1
      have ca : p.ca ≠ d := fun z => by have q1 := (hide_of f1.c).2; rw [z, nd] at q1; cases q1
      have vis : ∀ b, b ≠ d → ∀ o, hide P H1 b = some o → hide (And1 P d) H1 b = some o := fun b hb o q1 => by
        obtain ⟨q2, q3⟩ := hide_of q1
        rw [hide_eq fun z => z.elim q2 hb]
        exact q3
      exact ⟨vis _ fa _ f1.d, vis _ ca _ f1.c, f1.e.up fun b o _ z => vis b (fun y => by have q1 := (hide_of z).2; rw [y, nd] at q1; cases q1) o z⟩
    · rintro i m Hc ⟨rfl, hi', φc, accD, accV, rest, uc, hd, ra, fc, hgo, hfin, hlen⟩
      have live := lives Hc uc ⟨_, hd⟩
      obtain ⟨go, stop⟩ := it i Hc (And1 P d) (later uc newer)
      by_cases hlt : i < as.length
      · have ei : as[i]? = some as[i] := List.getElem?_eq_getElem hlt
        obtain ⟨go1, go2⟩ := go as[i] ei
        rw [List.drop_eq_getElem_cons hlt] at hgo
        unfold lcGo2 at hgo
        split at hgo
        · cases hgo
        · rename_i ρ1 hset
          obtain ⟨⟨b, φ3⟩, h3, hgo⟩ := Res.bind_ok hgo
          dsimp only at hgo
          refine .inr ⟨go1, fun Hn => ∃ φc accD accV rest, Up p.T H1 Hn ∧ Hn d = some (.lst accV) ∧ RepAll p (hide (And1 P d) Hn) accD accV ∧ FO p φc (hide (And1 P d) Hn) ∧
            lcGo2 vs1 set mt mi1 set1 mt1 me (wipeD ρ own) (as.drop (i + 1)) φc = .ok (rest, φ2) ∧ accD ++ rest = fin ∧ accD.length ≤ 1000 * (i + 1), fun Hn hn => ⟨as.length - (i + 1), by omega, rfl, hlt, hn⟩, fun x H2 hy => ?_⟩
          obtain ⟨x2, rx⟩ := go2 x H2 hy
          have env : EnvR p (hide (And1 P d) H2) (wipeD ρ own) (wipe σ own) := (a1.env.up (later (uc.trans x2.up) newer)).wipe own
          refine hg (And1 P d) H2 (wipeD ρ own) (wipe σ own) as[i] x ρ1 _ env rx hset fun σ2 env2 chg _ => ?_
          refine ⟨(chg.wipe hvs).trans (wipe_wipe σ own), ?_⟩
          have a2 : At p (And1 P d) H2 ρ1 φc σ2 := ⟨live.ex x2, env2, fc.ext (hide_ext x2), x2.up.tab (uc.tab a1.tb)⟩
          refine partT a2 h3 fun H3 a3 u3 => ?_
          have hd2 := x2.all _ _ hd
          have hd3 : H3 d = some (.lst accV) := u3.sq _ _ trivial hd2
          have ra3 := RepAll.up (hide_up (x2.up.trans u3)) ra
          have uc3 := (uc.trans x2.up).trans u3
          cases b with
          | false =>
            rw [if_neg Bool.false_ne_true]
            rw [if_neg Bool.false_ne_true] at hgo
            exact ⟨φ3, accD, accV, rest, uc3, hd3, ra3, a3.fo, hgo, hfin, by omega⟩
          | true =>
            rw [if_pos rfl]
            rw [if_pos rfl] at hgo
            obtain ⟨⟨bs, φ4⟩, h4, hgo⟩ := Res.bind_ok hgo
            dsimp only at hgo
            split at hgo
            · rename_i hzb
              obtain ⟨⟨ins, φ5⟩, h5, hgo⟩ := Res.bind_ok hgo
              obtain ⟨⟨r6, φ6⟩, h6, hgo⟩ := Res.bind_ok hgo
              cases hgo
              refine hi1 σ2 H3 _ ⟨And1 P d, ρ1, φ3, bs, φ4, a3, h4, fun J1 H4 u4 f4 it1 => ?_⟩
              have a4 := a3.next u4 f4
              have hd4 : H4 d = some (.lst accV) := u4.sq _ _ trivial hd3
              have ra4 := RepAll.up (hide_up u4) ra3
              have uc4 := uc3.trans u4
              refine ⟨fun j m Hc => m = bs.length - j ∧ j ≤ bs.length ∧ ∃ φc accD accV rest, Up p.T H1 Hc ∧ (∀ b o, Sq o → hide (And1 P d) H4 b = some o → hide (And1 P d) Hc b = some o) ∧ Hc d = some (.lst accV) ∧ RepAll p (hide (And1 P d) Hc) accD accV ∧ FO p φc (hide (And1 P d) Hc) ∧
                lcGo set1 mt1 me (wipeD ρ1 vs1) (bs.drop j) φc = .ok (rest, φ5) ∧ accD ++ rest ++ r6 = fin ∧ accD.length ≤ 1000 * i + j, ⟨bs.length, by omega, Nat.zero_le _, φ4, accD, accV, ins, uc4, fun _ _ _ z => z, hd4, ra4, a4.fo, by rw [List.drop_zero]; exact h5, by rw [List.append_assoc]; exact hfin, by omega⟩, ?_⟩
              rintro j m Hc ⟨rfl, hj', φc, accD, accV, rest, uc5, sn, hd5, ra5, fc5, hgo5, hfin5, hlen5⟩
              have live5 := lives Hc uc5 ⟨_, hd5⟩
              obtain ⟨go', stop'⟩ := it1 j Hc (And1 P d) sn
              by_cases hlt1 : j < bs.length
              · have ej : bs[j]? = some bs[j] := List.getElem?_eq_getElem hlt1
                obtain ⟨go1', go2'⟩ := go' bs[j] ej
                rw [List.drop_eq_getElem_cons hlt1] at hgo5
                unfold lcGo at hgo5
                split at hgo5
                · cases hgo5
                · rename_i ρ3 hset1
                  obtain ⟨⟨b1, φ7⟩, h7, hgo5⟩ := Res.bind_ok hgo5
                  dsimp only at hgo5
                  refine .inr ⟨go1', fun Hn => ∃ φc accD accV rest, Up p.T H1 Hn ∧ (∀ b o, Sq o → hide (And1 P d) H4 b = some o → hide (And1 P d) Hn b = some o) ∧ Hn d = some (.lst accV) ∧ RepAll p (hide (And1 P d) Hn) accD accV ∧ FO p φc (hide (And1 P d) Hn) ∧
                    lcGo set1 mt1 me (wipeD ρ1 vs1) (bs.drop (j + 1)) φc = .ok (rest, φ5) ∧ accD ++ rest ++ r6 = fin ∧ accD.length ≤ 1000 * i + (j + 1), fun Hn hn => ⟨bs.length - (j + 1), by omega, rfl, hlt1, hn⟩, fun x H5 hy => ?_⟩
                  obtain ⟨x5, rx5⟩ := go2' x H5 hy
                  have sn5 : ∀ b o, Sq o → hide (And1 P d) H4 b = some o → hide (And1 P d) H5 b = some o := fun b o s z => hide_ex x5 b o s (sn b o s z)
                  have env5 : EnvR p (hide (And1 P d) H5) (wipeD ρ1 vs1) (wipe σ2 vs1) := (a4.env.up sn5).wipe vs1
                  refine hg1 (And1 P d) H5 (wipeD ρ1 vs1) (wipe σ2 vs1) bs[j] x ρ3 _ env5 rx5 hset1 fun σ3 env6 chg1 _ => ?_
                  refine ⟨(chg1.wipe fun _ z => z).trans (wipe_wipe σ2 vs1), ?_⟩
                  have a5 : At p (And1 P d) H5 ρ3 φc σ3 := ⟨live5.ex x5, env6, fc5.ext (hide_ext x5), x5.up.tab (uc5.tab a1.tb)⟩
                  refine partT a5 h7 fun H6 a6 u6 => ?_
                  have hd6 : H6 d = some (.lst accV) := u6.sq _ _ trivial (x5.all _ _ hd5)
                  have ra6 := RepAll.up (hide_up (x5.up.trans u6)) ra5
                  have uc6 := (uc5.trans x5.up).trans u6
                  have sn6 : ∀ b o, Sq o → hide (And1 P d) H4 b = some o → hide (And1 P d) H6 b = some o := fun b o s z => hide_up u6 b o s (sn5 b o s z)
                  cases b1 with
                  | false =>
                    rw [if_neg Bool.false_ne_true]
                    rw [if_neg Bool.false_ne_true] at hgo5
                    exact ⟨φ7, accD, accV, rest, uc6, sn6, hd6, ra6, a6.fo, hgo5, hfin5, by omega⟩
                  | true =>
                    rw [if_pos rfl]
                    rw [if_pos rfl] at hgo5
                    obtain ⟨⟨e8, φ8⟩, h8, hgo5⟩ := Res.bind_ok hgo5
                    obtain ⟨⟨r9, φ9⟩, h9, hgo5⟩ := Res.bind_ok hgo5
                    cases hgo5
                    refine part a6 h8 fun v8 H8 a8 u8 r8 => ?_
                    have hd8 : H8 d = some (.lst accV) := u8.sq _ _ trivial hd6
                    obtain ⟨w1, w2, w3⟩ := grow H6 H8 accD accV e8 v8 φ8 ρ3 σ3 uc6 hd6 ra6 u8 a8 r8 a6.live
                    refine ⟨accV, hd8, by rw [ra6.len, sizeLine_eq]; omega, φ8, accD ++ [e8.toD], accV ++ [v8], r9, w1, fun b o s z => ?_, upd_same, w2, w3, h9, by rw [List.append_assoc, List.append_assoc] at *; exact hfin5, by rw [List.length_append, List.length_singleton]; omega⟩
                    rw [hide_upd (.inr rfl)]
                    exact hide_up u8 b o s (sn6 b o s z)
              · have ej : j = bs.length := by omega
                subst ej
                rw [List.drop_length] at hgo5
                cases hgo5
                rw [List.append_nil] at hfin5
                exact .inl ⟨stop' (Nat.le_refl _), φ5, accD, accV, r6, uc5, hd5, ra5, fc5, h6, hfin5, by omega⟩
            · cases hgo
      · have ei : i = as.length := by omega
        subst ei
        rw [List.drop_length] at hgo
        cases hgo
        rw [List.append_nil] at hfin
        subst hfin
        refine .inl ⟨stop (Nat.le_refl _), k _ Hc (u1.trans uc) ?_ ⟨d, accV, rfl, u1.no _ nd, hd, ra⟩⟩
        have vis : ∀ b o, hide (And1 P d) Hc b = some o → hide P Hc b = some o := fun b o q1 => by
          obtain ⟨q2, q3⟩ := hide_of q1
          rw [hide_eq fun z => q2 (.inl z)]
          exact q3
        exact ⟨vis _ _ fc.d, vis _ _ fc.c, fc.e.up fun b o _ z => vis b o z⟩
  · cases h
section
variable {X : Cx} {q : Pk} {elt tg iter tg1 iter1 : Expr} {ifs ifs1 : List Expr} {scope : Scope} {own : List (Str × Nat)} {pos : Pos} {α β : Type} {R : RI α} {R' : RI β} {mi : MI α} {mi1 : MI β} {set : α → Env' → Option Env'} {set1 : β → Env' → Option Env'} {vs vs1 : List Nat} {mt mt1 : MT} {me : ME}
/-- a walk within a comprehension's block -/
def HIn (X : Cx) (q : Pk) (scope : Scope) (tg1 iter1 : Expr) (R' : RI β) (mi1 : MI β) : Prop :=
  ∃ wi1 : TI, (∀ (s : Shared) (H : Hp) (C : Addr) (cl : List (Str × Addr)) (fp : List Addr), PI (X.blk s H scope (compEnvC scope cl C X.env) fp) tg1 iter1 wi1) ∧
    ∀ (σ : L2.St) (H : Hp) (C : It → Hp → Prop), (∃ P ρ φ as φ', At (q.at X.K) P H ρ φ σ ∧ mi1 ρ φ = .ok (as, φ') ∧ ∀ J H', Up (q.at X.K).T H H' → FO (q.at X.K) φ' (hide P H') → ItD R' P H' as J → C J H') → wi1 σ H C
theorem hi_seq {m : ME} {e : Expr} (h : ∀ (s : Shared) (H : Hp) (C : Addr) (cl : List (Str × Addr)) (fp : List Addr), DE (X.blk s H scope (compEnvC scope cl C X.env) fp) q e m) : HIn X q scope tg1 e (R1 (q.at X.K)) (seqI m) := by
  refine ⟨fun σ H R => ((iList X.K (tD (q.at X.K) m) σ H R ∨ iTup X.K (tD (q.at X.K) m) σ H R) ∨ iStr (tD (q.at X.K) m) σ H R), fun s H C cl fp => pi_or (pi_or (pi_list (tg := tg1) (h s H C cl fp)) (pi_tup (h s H C cl fp))) (pi_str (h s H C cl fp)), fun σ H C w => ?_⟩
  obtain ⟨P, ρ, φ, as, φ', a, hm, k⟩ := w
  obtain ⟨⟨e1, φ1⟩, h1, hm⟩ := Res.bind_ok hm
  dsimp only at hm
  generalize he : e1.toD = d at hm
  have go : ∀ v H1, At (q.at X.K) P H1 ρ φ1 σ → Up (q.at X.K).T H H1 → RepE (q.at X.K) P H H1 e1 v → Rep (q.at X.K) (hide P H1) d v := fun v H1 a1 u1 r1 => he ▸ r1.rep a.live
  cases d with
  | list ds =>
    cases hm
    refine .inl (.inl (part a h1 fun v H1 a1 u1 r1 => ?_))
    obtain ⟨c, xs, rfl, g1, g2⟩ := go v H1 a1 u1 r1
    exact ⟨c, rfl, ⟨xs, SqL.of (hide_of g1).2⟩, k _ H1 u1 a1.fo (itd_list (p := q.at X.K) g1 g2)⟩
  | tuple ds =>
    cases hm
    refine .inl (.inr (part a h1 fun v H1 a1 u1 r1 => ?_))
    obtain ⟨c, xs, rfl, g1, g2⟩ := go v H1 a1 u1 r1
    have g3 := TupN.at g1 fun b o _ z => (hide_of z).2
    exact ⟨c, rfl, ⟨xs, g3.sq⟩, k _ H1 u1 a1.fo (itd_tup (p := q.at X.K) g1 g2)⟩
  | str x =>
    cases hm
    refine .inr (part a h1 fun v H1 a1 u1 r1 => ?_)
    cases go v H1 a1 u1 r1
    exact ⟨x, rfl, k _ H1 u1 a1.fo itd_str⟩
  | none => cases hm
  | bool b => cases hm
  | int i => cases hm
  | dict kv => cases hm
theorem de_lc2 (hc : X.calm = true) (hN : X.N.Nodup) (hi : DI X q tg iter R mi) (ok : BlkOk X.N X.env.scope scope own) (hvs : ∀ i ∈ vs, i ∈ own.map (·.2)) (hv1 : ∀ i ∈ vs1, i ∈ own.map (·.2))
    (hg : ∃ g : TG, (∀ (s : Shared) (H : Hp) (C : Addr) (cl : List (Str × Addr)) (fp : List Addr), PG (X.blk s H scope (compEnvC scope cl C X.env) fp) tg g) ∧
      ∀ (P : Addr → Prop) (H : Hp) (ρ : Env') (σ : L2.St) (a : α) (v : V) (ρ' : Env') (Q : L2.St → Hp → Prop), EnvR (q.at X.K) (hide P H) ρ σ → R P H a v → set a ρ = some ρ' →
        (∀ σ', EnvR (q.at X.K) (hide P H) ρ' σ' → Chg vs σ σ' → (∀ i, i ∉ vs → ρ'[i]? = ρ[i]?) → Q σ' H) → g v σ H Q)
    (ht : ∀ (s : Shared) (H : Hp) (C : Addr) (cl : List (Str × Addr)) (fp : List Addr), DTs (X.blk s H scope (compEnvC scope cl C X.env) fp) q ifs mt)
    (hi1 : HIn X q scope tg1 iter1 R' mi1)
    (hg1 : ∃ g : TG, (∀ (s : Shared) (H : Hp) (C : Addr) (cl : List (Str × Addr)) (fp : List Addr), PG (X.blk s H scope (compEnvC scope cl C X.env) fp) tg1 g) ∧
      ∀ (P : Addr → Prop) (H : Hp) (ρ : Env') (σ : L2.St) (a : β) (v : V) (ρ' : Env') (Q : L2.St → Hp → Prop), EnvR (q.at X.K) (hide P H) ρ σ → R' P H a v → set1 a ρ = some ρ' →
        (∀ σ', EnvR (q.at X.K) (hide P H) ρ' σ' → Chg vs1 σ σ' → (∀ i, i ∉ vs1 → ρ'[i]? = ρ[i]?) → Q σ' H) → g v σ H Q)
    (ht1 : ∀ (s : Shared) (H : Hp) (C : Addr) (cl : List (Str × Addr)) (fp : List Addr), DTs (X.blk s H scope (compEnvC scope cl C X.env) fp) q ifs1 mt1)
    (he : ∀ (s : Shared) (H : Hp) (C : Addr) (cl : List (Str × Addr)) (fp : List Addr), DE (X.blk s H scope (compEnvC scope cl C X.env) fp) q elt me) (hs : ∀ x, foldedSetIterable iter X.env x = pure x) (hs1 : ∀ env x, foldedSetIterable iter1 env x = pure x) :
    DE X q (.ListComp elt [⟨tg, iter, ifs, 0⟩, ⟨tg1, iter1, ifs1, 0⟩] scope pos) (lcM2 (own.map (·.2)) vs1 mi set mt mi1 set1 mt1 me) := by
  obtain ⟨wi, h1, h2⟩ := hi
  obtain ⟨g, h3, h4⟩ := hg
  obtain ⟨wi1, h5, h6⟩ := hi1
  obtain ⟨g1, h7, h8⟩ := hg1
  exact (pe_lc2 (tt := tDT (q.at X.K) mt) (tt1 := tDT (q.at X.K) mt1) (te := tD (q.at X.K) me) hc hN h1 ok hv1 h3 ht h5 h7 ht1 he hs hs1).imp (wish_lc2 h2 h6 h4 hvs h8)
theorem ds_lcD2 {i : Nat} {y : Str} {py spos : Pos} (us : List Nat) (hc : X.calm = true) (hN : X.N.Nodup) (hy : X.N[i]? = some y) (hyl : X.env.scope.names.lookup y = some .local) (hsw : swapsWith (.ListComp elt [⟨tg, iter, ifs, 0⟩, ⟨tg1, iter1, ifs1, 0⟩] scope pos) (some (.Name y py)) spos.line X.env = pure true)
    (hi : DI X q tg iter R mi) (ok : BlkOk X.N X.env.scope scope own) (hvs : ∀ i ∈ vs, i ∈ own.map (·.2)) (hv1 : ∀ i ∈ vs1, i ∈ own.map (·.2))
    (hg : ∃ g : TG, (∀ (s : Shared) (H : Hp) (C : Addr) (cl : List (Str × Addr)) (fp : List Addr), PG (X.blk s H scope (compEnvC scope cl C X.env) fp) tg g) ∧
      ∀ (P : Addr → Prop) (H : Hp) (ρ : Env') (σ : L2.St) (a : α) (v : V) (ρ' : Env') (Q : L2.St → Hp → Prop), EnvR (q.at X.K) (hide P H) ρ σ → R P H a v → set a ρ = some ρ' →
        (∀ σ', EnvR (q.at X.K) (hide P H) ρ' σ' → Chg vs σ σ' → (∀ i, i ∉ vs → ρ'[i]? = ρ[i]?) → Q σ' H) → g v σ H Q)
    (ht : ∀ (s : Shared) (H : Hp) (C : Addr) (cl : List (Str × Addr)) (fp : List Addr), DTs (X.blk s H scope (compEnvC scope cl C X.env) fp) q ifs mt)
    (hi1 : HIn X q scope tg1 iter1 R' mi1)
    (hg1 : ∃ g : TG, (∀ (s : Shared) (H : Hp) (C : Addr) (cl : List (Str × Addr)) (fp : List Addr), PG (X.blk s H scope (compEnvC scope cl C X.env) fp) tg1 g) ∧
      ∀ (P : Addr → Prop) (H : Hp) (ρ : Env') (σ : L2.St) (a : β) (v : V) (ρ' : Env') (Q : L2.St → Hp → Prop), EnvR (q.at X.K) (hide P H) ρ σ → R' P H a v → set1 a ρ = some ρ' →
        (∀ σ', EnvR (q.at X.K) (hide P H) ρ' σ' → Chg vs1 σ σ' → (∀ i, i ∉ vs1 → ρ'[i]? = ρ[i]?) → Q σ' H) → g v σ H Q)
    (ht1 : ∀ (s : Shared) (H : Hp) (C : Addr) (cl : List (Str × Addr)) (fp : List Addr), DTs (X.blk s H scope (compEnvC scope cl C X.env) fp) q ifs1 mt1)
    (he : ∀ (s : Shared) (H : Hp) (C : Addr) (cl : List (Str × Addr)) (fp : List Addr), DE (X.blk s H scope (compEnvC scope cl C X.env) fp) q elt me) (hs : ∀ x, foldedSetIterable iter X.env x = pure x) (hs1 : ∀ env x, foldedSetIterable iter1 env x = pure x) :
    DS X q (.Assign [.Name y py] (.ListComp elt [⟨tg, iter, ifs, 0⟩, ⟨tg1, iter1, ifs1, 0⟩] scope pos) spos) (asgD us i (lcM2 (own.map (·.2)) vs1 mi set mt mi1 set1 mt1 me)) := by
  obtain ⟨wi, h1, h2⟩ := hi
  obtain ⟨g, h3, h4⟩ := hg
  obtain ⟨wi1, h5, h6⟩ := hi1
  obtain ⟨g1, h7, h8⟩ := hg1
  exact ds_asgD_of us (ps_setLc2 (tt := tDT (q.at X.K) mt) (tt1 := tDT (q.at X.K) mt1) (te := tD (q.at X.K) me) hc hN hy hyl hsw h1 ok hv1 h3 ht h5 h7 ht1 he hs hs1) (wish_lc2 h2 h6 h4 hvs h8)
end
end VI
namespace VI
open PySem PySem.Spec PyProof.Rows L2
/-- what is raised here is none of ours -/
def noE {α : Type} : Res α → Res α
  | .ok a => .ok a
  | _ => .bad
theorem noE_ok {α : Type} {r : Res α} {a : α} (h : noE r = .ok a) : r = .ok a := by
  cases r with
  | ok b => exact h
  | exc c xs φ => cases h
  | bad => cases h
theorem noE_cases {α : Type} (r : Res α) : (∃ a, r = .ok a ∧ noE r = .ok a) ∨ noE r = .bad := by
  cases r with
  | ok a => exact .inl ⟨a, rfl, rfl⟩
  | exc c xs φ => exact .inr rfl
  | bad => exact .inr rfl
def noS (m : MS) : MS := fun ρ φ => noE (m ρ φ)
def noT (m : MT) : MT := fun ρ φ => noE (m ρ φ)
/-- the classes of what is raised: where they stand, their fields -/
abbrev XTab := Str → Option (Addr × List Str)
/-- this is raised: of the class, its fields the data -/
def XR (p : Pr) (XT : XTab) (G H : Hp) (c : Str) (xs : List D) (cls : Value) (d : Option Addr) : Prop :=
  ∃ (C dd : Addr) (ns : List Str) (fs : List (Str × V)) (vs : List V), XT c = some (C, ns) ∧ cls = .ref C ∧ d = some dd ∧ G dd = some (.xd fs) ∧ RepAll p G xs vs ∧ vs.length = ns.length ∧
    ∀ (i : Nat) (n : Str) (v : V), ns[i]? = some n → vs[i]? = some v → fs.lookup n = some v
section
variable {p : Pr} {XT : XTab}
theorem XR.see {G G' H : Hp} {c : Str} {xs : List D} {cls : Value} {d : Option Addr} (x : XR p XT G H c xs cls d) (u : ∀ a o, Sq o → G a = some o → G' a = some o) : XR p XT G' H c xs cls d := by
  obtain ⟨C, dd, ns, fs, vs, h1, h2, h3, h4, h5, h6⟩ := x
  exact ⟨C, dd, ns, fs, vs, h1, h2, h3, u _ _ trivial h4, RepAll.up u h5, h6⟩
end
/-- the ends of a run: what is raised, too -/
def EndX (p : Pr) (XT : XTab) (W : XK) (H0 : Hp) (P0 : Addr → Prop) (D : Ends) (P : Addr → Prop) (H : Hp) : Res (Fl × EnvS × FS) → Prop
  | .ok r => EndOk p H0 P0 D P H r
  | .exc c xs φ' => ∀ cls d H', Up p.T H0 H' → FO p φ' (hide P0 H') → XR p XT (hide P0 H') H' c xs cls d → W cls d H'
  | .bad => False
def tSX (p : Pr) (XT : XTab) (W : XK) (m : MS) : L2.TS := fun D σ H => ∃ H0 P0 ρ φ, StR p H0 P0 H ρ φ σ ∧ EndX p XT W H0 P0 D (Hid P0 ρ σ) H (m ρ φ)
def DSX (X : Cx) (q : Pk) (XT : XTab) (W : XK) (st : Stmt) (m : MS) : Prop := PS X st (tSX (q.at X.K) XT W m)
def DSXs (X : Cx) (q : Pk) (XT : XTab) (W : XK) (st : List Stmt) (m : MS) : Prop := PSs X st (tSX (q.at X.K) XT W m)
theorem EndX.seen {p : Pr} {XT : XTab} {W : XK} {H0 : Hp} {P0 : Addr → Prop} {D : Ends} {P P1 : Addr → Prop} {H H1 : Hp} {r : Res (Fl × EnvS × FS)} (h : EndX p XT W H0 P0 D P H r) (s : Seen P H P1 H1) : EndX p XT W H0 P0 D P1 H1 r := by
  cases r with
  | ok r => exact EndOk.seen h s
  | exc c xs φ => exact h
  | bad => exact h
section
variable {X : Cx} {q : Pk} {XT : XTab} {W : XK} {st : Stmt} {rest : List Stmt} {m m1 m2 : MS} {pos : Pos}
/-- a statement that raises nothing -/
theorem dsx_of (h : DS X q st m) : DSX X q XT W st (noS m) := ps_imp h fun D σ H w => by
  obtain ⟨H0, P0, ρ, φ, S, k⟩ := w
  rcases noE_cases (m ρ φ) with ⟨r, h1, h2⟩ | h2
  · unfold noS at k
    rw [h2] at k
    exact ⟨H0, P0, ρ, φ, r, S, h1, k⟩
  · unfold noS at k
    rw [h2] at k
    exact k.elim
theorem dssx_nil : DSXs X q XT W [] nxM := pss_imp pss_nil fun D σ H w => by
  obtain ⟨H0, P0, ρ, φ, S, k⟩ := w
  exact (show EndOk (q.at X.K) H0 P0 D (Hid P0 ρ σ) H (.nx, ρ, φ) from k) σ H S fun _ _ _ z => z
theorem dssx_one (h : DSX X q XT W st m) : DSXs X q XT W [st] m := pss_one h
theorem dssx_cons (h1 : DSX X q XT W st m1) (h2 : DSXs X q XT W rest m2) : DSXs X q XT W (st :: rest) (seqM m1 m2) := pss_imp (pss_cons h1 h2) fun D σ H w => by
  obtain ⟨H0, P0, ρ, φ, S, k⟩ := w
  refine ⟨H0, P0, ρ, φ, S, ?_⟩
  unfold seqM at k
  cases e : m1 ρ φ with
  | ok r =>
    obtain ⟨fl, ρ1, φ1⟩ := r
    rw [e] at k
    cases fl with
    | nx => exact fun σ1 H1 S1 s1 => ⟨H0, P0, ρ1, φ1, S1, EndX.seen k s1⟩
    | bk => exact k
    | ct => exact k
    | ret e => exact k
  | exc c xs φ' =>
    rw [e] at k
    exact k
  | bad =>
    rw [e] at k
    exact k
variable {c e : Expr} {a b : List Stmt} {mt : MT} {ma mb : MS} {me : ME}
theorem dsx_if (vs : List Nat) (hc : DT X q c mt) (ha : DSXs X q XT W a ma) (hb : DSXs X q XT W b mb) : DSX X q XT W (.If c a b pos) (ifS vs (noT mt) ma mb) := ps_imp (ps_if hc ha hb) fun D σ H w => by
  obtain ⟨H0, P0, ρ, φ, S, k⟩ := w
  unfold ifS noT at k
  rcases noE_cases (mt (soft vs ρ) φ) with ⟨⟨c1, φ1⟩, h1, h2⟩ | h2
  · rw [h2] at k
    refine ⟨_, _, _, c1, φ1, S.moment vs, h1, fun H1 u1 f1 => ?_⟩
    have S1 : StR (q.at X.K) H0 P0 H1 ρ φ1 σ := S.upTo u1 (f1.see S.fo.nfa.1 S.fo.nca.1 (S.fo.e.up (hide_up u1)))
    cases c1 with
    | true => exact ⟨H0, P0, ρ, φ1, S1, EndX.seen k (seen_up u1)⟩
    | false => exact ⟨H0, P0, ρ, φ1, S1, EndX.seen k (seen_up u1)⟩
  · rw [h2] at k
    exact k.elim
def tDX (p : Pr) (XT : XTab) (W : XK) (m : ME) : TE := fun σ H Q => ∃ P ρ φ, At p P H ρ φ σ ∧ match m ρ φ with
  | .ok r => ∀ v H', Up p.T H H' → FO p r.2 (hide P H') → RepE p P H H' r.1 v → Q v H'
  | .exc c xs φ' => ∀ cls d H', Up p.T H H' → FO p φ' (hide P H') → XR p XT (hide P H') H' c xs cls d → W cls d H'
  | .bad => False
def DEX (X : Cx) (q : Pk) (XT : XTab) (W : XK) (e : Expr) (m : ME) : Prop := PE X e (tDX (q.at X.K) XT W m)
/-- what is raised in an expression leaves the statement -/
theorem StR.raised {p : Pr} {H0 H H' : Hp} {P0 : Addr → Prop} {ρ : EnvS} {φ φ' : FS} {σ : L2.St} {cls : Value} {d : Option Addr} {c : Str} {xs : List D} (S : StR p H0 P0 H ρ φ σ) (vs : List Nat) (u : Up p.T H H') (f : FO p φ' (hide (Hid P0 (settle vs ρ) σ) H'))
    (x : XR p XT (hide (Hid P0 (settle vs ρ) σ) H') H' c xs cls d) : Up p.T H0 H' ∧ FO p φ' (hide P0 H') ∧ XR p XT (hide P0 H') H' c xs cls d :=
  ⟨S.sl.up.trans u, f.less fun b z => .inl z, x.see fun a o _ z => hide_less (fun b w => .inl w) a o z⟩
/-- x = e -/
theorem dsx_setD_of {i : Nat} {te : TE} (vs : List Nat) (h : PS X st (tAsg te (gName i))) (w : ∀ σ H Q, tDX (q.at X.K) XT W me σ H Q → te σ H Q) : DSX X q XT W st (asgD vs i me) := ps_imp h fun D σ H z => by
  obtain ⟨H0, P0, ρ, φ, S, k⟩ := z
  refine w σ H _ ⟨_, _, φ, S.moment vs, ?_⟩
  unfold asgD at k
  cases e : me (soft vs ρ) φ with
  | ok r =>
    obtain ⟨e1, φ1⟩ := r
    rw [e] at k
    intro v H1 u1 f1 r1
    have k : EndX (q.at X.K) XT W H0 P0 D (Hid P0 ρ σ) H (if i < ρ.length then Res.ok (Fl.nx, (aft vs e1 ρ).set i (some (.dat e1.toD)), φ1) else .bad) := k
    split at k
    · obtain ⟨f2, r2, S2⟩ := S.behind u1 f1 r1
      have r3 : RepE (q.at X.K) _ H H1 (.dat e1.toD) v := r2.rep S2.sl.liveH
      exact (show EndOk (q.at X.K) H0 P0 D (Hid P0 ρ σ) H (.nx, (aft vs e1 ρ).set i (some (.dat e1.toD)), φ1) from k) _ _ (S2.set u1 f2 r3) ((seen_less aft_less).trans (seen_set u1 r3))
    · exact k.elim
  | exc c xs φ' =>
    rw [e] at k
    intro cls d H' u f x
    obtain ⟨u', f', x'⟩ := S.raised vs u f x
    exact k cls d H' u' f' x'
  | bad =>
    rw [e] at k
    exact k
theorem dsx_setD {i : Nat} {x : Str} {pos' : Pos} (vs : List Nat) (he : DEX X q XT W e me) (hN : X.N.Nodup) (hi : X.N[i]? = some x) (hx : Loc X.env.scope x) (hs : swapsWith e (some (.Name x pos')) pos.line X.env = pure false)
    (hf : X.fn x = true ∨ X.env.scope.names.lookup x = some .local) : DSX X q XT W (.Assign [.Name x pos'] e pos) (asgD vs i me) :=
  dsx_setD_of vs (ps_set hN hi hx he hs hf) fun _ _ _ z => z
/-- e, dropped -/
theorem dsx_drop (vs : List Nat) (he : DEX X q XT W e me) (hs : swapsWith e none pos.line X.env = pure false) : DSX X q XT W (.Expr e pos) (dropM vs me) := ps_imp (ps_expr he hs) fun D σ H z => by
  obtain ⟨H0, P0, ρ, φ, S, k⟩ := z
  refine ⟨_, _, φ, S.moment vs, ?_⟩
  unfold dropM at k
  cases e : me (soft vs ρ) φ with
  | ok r =>
    obtain ⟨e1, φ1⟩ := r
    rw [e] at k
    intro v H1 u1 f1 r1
    exact (show EndOk (q.at X.K) H0 P0 D (Hid P0 ρ σ) H (.nx, ρ, φ1) from k) _ _ (S.upTo u1 (f1.see S.fo.nfa.1 S.fo.nca.1 (S.fo.e.up (hide_up u1)))) (seen_up u1)
  | exc c xs φ' =>
    rw [e] at k
    intro cls d H' u f x
    obtain ⟨u', f', x'⟩ := S.raised vs u f x
    exact k cls d H' u' f' x'
  | bad =>
    rw [e] at k
    exact k
/-- return e -/
theorem dsx_ret (vs : List Nat) (he : DEX X q XT W e me) : DSX X q XT W (.Return (some e) pos) (retM vs me) := ps_imp (ps_ret he) fun D σ H z => by
  obtain ⟨H0, P0, ρ, φ, S, k⟩ := z
  refine ⟨_, _, φ, S.moment vs, ?_⟩
  unfold retM at k
  cases e : me (soft vs ρ) φ with
  | ok r =>
    obtain ⟨e1, φ1⟩ := r
    rw [e] at k
    intro v H1 u1 f1 r1
    exact (show EndOk (q.at X.K) H0 P0 D (Hid P0 ρ σ) H (.ret e1, ρ, φ1) from k) v H1 (S.sl.up.trans u1) (f1.less fun b z => .inl z) ((r1.less fun b z => .inl z).old S.sl.up)
  | exc c xs φ' =>
    rw [e] at k
    intro cls d H' u f x
    obtain ⟨u', f', x'⟩ := S.raised vs u f x
    exact k cls d H' u' f' x'
  | bad =>
    rw [e] at k
    exact k
/-- an expression that raises nothing -/
def noX (m : ME) : ME := fun ρ φ => noE (m ρ φ)
theorem dex_of (h : DE X q e me) : DEX X q XT W e (noX me) := h.imp fun σ H Q w => by
  obtain ⟨P, ρ, φ, a, k⟩ := w
  unfold noX at k
  rcases noE_cases (me ρ φ) with ⟨⟨e1, φ1⟩, h1, h2⟩ | h2
  · rw [h2] at k
    exact ⟨P, ρ, φ, e1, φ1, a, h1, k⟩
  · rw [h2] at k
    exact k.elim
end
end VI
namespace VI
open PySem PySem.Spec PyProof.Rows L2
/-- a def's promise, what it raises with it -/
def spX (K : PySem.W.Frag) (k2 k3 k4 : Str) (T : List (Addr × Str)) (XT : XTab) (n : Nat) (m : MF) : Sp := fun vs H Q E => ∃ (fa ca : Addr) (ex : Option Ex) (P : Addr → Prop) (φ : FS) (ds : List D), LamX.Tabs T H ∧ ds.length = n ∧ Live P H ∧ FO ⟨K, fa, ca, k2, k3, k4, T, ex⟩ φ (hide P H) ∧
  RepAll ⟨K, fa, ca, k2, k3, k4, T, ex⟩ (hide P H) ds vs ∧ match m ds φ with
    | .ok r => ∀ v H', Up T H H' → FO ⟨K, fa, ca, k2, k3, k4, T, ex⟩ r.2 (hide P H') → RepE ⟨K, fa, ca, k2, k3, k4, T, ex⟩ P H H' r.1 v → Q v H'
    | .exc c xs φ' => ∀ cls d H', Up T H H' → FO ⟨K, fa, ca, k2, k3, k4, T, ex⟩ φ' (hide P H') → XR ⟨K, fa, ca, k2, k3, k4, T, ex⟩ XT (hide P H') H' c xs cls d → E cls d H'
    | .bad => False
theorem spX_len {K : PySem.W.Frag} {k2 k3 k4 : Str} {T : List (Addr × Str)} {XT : XTab} {n : Nat} {m : MF} : ∀ vs H Q E, spX K k2 k3 k4 T XT n m vs H Q E → vs.length = n := fun vs H Q E h => by
  obtain ⟨fa, ca, ex, P, φ, ds, _, h1, _, _, h2, _⟩ := h
  exact h2.len.trans h1
/-- a def that may raise keeps what its body says over data -/
theorem fn_X {P : Program} {w : World} {K : PySem.W.Frag} {mg : Str → Option Value} {base : Heap} {k : Nat} {x qual : Str} {st : Stmt} {f : Addr} {fd : FuncData} {N ps : List Str} {k2 k3 k4 : Str} {T : List (Addr × Str)} {XT : XTab} {mb : MS} {n : Nat}
    (F : Fun K x qual st f fd) (S : FnScope N ps (defScope st)) (hn : ps.length = n)
    (body : ∀ (fa ca : Addr) (ex : Option Ex) (cdv : Value) (A : Around) (outer : List Env) (s : Shared) (H : Hp) (E : XK), fd.code = cdv → A.guards = some [] → Room k (A.deeper (envOfC qual (defScope st) s.heap.objs.size f cdv)) →
      Takes (cxOf (L2.CX P w) P w K mg base N qual (defScope st) f cdv A outer s H E) (fun cls d _ H' => E cls d H') →
      DSXs (cxOf (L2.CX P w) P w K mg base N qual (defScope st) f cdv A outer s H E) ⟨fa, ca, k2, k3, k4, T, ex⟩ XT E (defBody st) mb) :
    FnG P w K mg base (L2.CX P w) (k + 1) f fd ps (spX K k2 k3 k4 T XT n (fnM N.length mb)) := by
  refine fnG_of F S (fun vs H Q E h => (spX_len vs H Q E h).trans hn.symm) fun cdv A outer s H vs Q E hcv hg hr h => ?_
  obtain ⟨fa, ca, ex, P1, φ, ds, tb0, hl, l, fo, ra, kk⟩ := h
  refine ⟨_, body fa ca ex cdv A outer s H E hcv hg hr (takes_of rfl rfl rfl rfl), ?_⟩
  have hN : vs.length ≤ N.length := by
    have h1 : vs.length = ps.length := by rw [ra.len, hl, hn]
    have h2 := congrArg List.length S.pre
    rw [List.length_take] at h2
    omega
  have S0 : StR ⟨K, fa, ca, k2, k3, k4, T, ex⟩ H P1 H (startS N.length ds) φ (L2.start N vs) := stR_start tb0 l fo ra hN
  refine ⟨H, P1, startS N.length ds, φ, S0, ?_⟩
  unfold fnM at kk
  cases e : mb (startS N.length ds) φ with
  | ok r =>
    obtain ⟨fl, ρ1, φ1⟩ := r
    rw [e] at kk
    cases fl with
    | ret e1 => exact fun v H' u f r => kk v H' u f r
    | nx => exact fun σ' H' S' _ => kk .non H' S'.sl.up (S'.fo.less fun b z => .inl z) rfl
    | bk => exact kk.elim
    | ct => exact kk.elim
  | exc c xs φ' =>
    rw [e] at kk
    exact kk
  | bad =>
    rw [e] at kk
    exact kk
section
variable {X : Cx} {q : Pk} {XT : XTab} {W : XK} {k n : Nat} {f : Addr} {fd : FuncData} {ps ks : List Str} {x : Str} {p pos : Pos} {a b e : Expr} {es : List Expr} {kws : List Keyword} {ms : MA} {m : MF} {ma mb : ME}
/-- f(e, ..) where it may raise; the arguments raise nothing -/
def appX (n : Nat) (m : MF) (ms : MA) : ME := fun ρ φ => (noE (ms ρ φ)).bind fun r => if r.1.length = n then m r.1 r.2 else .bad
theorem dex_call (F : FnG X.prog X.w X.K X.mg X.base (L2.CX X.prog X.w) k f fd ps (spX X.K q.k2 q.k3 q.k4 q.T XT n m)) (hG : X.A.guards = some []) (hr : Room k X.A) (hg : Gl X x) (hm : X.mg x = some (.ref f)) (hk : PySem.W.keepIn X.K (.ref f) = true) (hb : Binds X.K fd ps [])
    (hx : Passes (L2.CX X.prog X.w) X W) (ha : DA X q (e :: es) ms) (hdb : (x == ("__debug__" : Str)) = false := by decide) (he : starEach (e :: es) X.env = (false, eval e X.env) :: starEach es X.env := by rfl) (hpl : (backTo pos (starEach es X.env)).any (·.1) = false := by rfl) :
    DEX X q XT W (.Call (.Name x p) (e :: es) [] pos) (appX n m ms) := (pe_callG F hG hr hg hm hk hb hx ha hdb he hpl).imp fun σ H Q w => by
  obtain ⟨P, ρ, φ, a, kk⟩ := w
  unfold appX at kk
  rcases noE_cases (ms ρ φ) with ⟨⟨ds, φ1⟩, h1, h2⟩ | h2
  · rw [h2] at kk
    refine partA a h1 fun vs H1 a1 u1 r1 => ?_
    by_cases hl : ds.length = n
    · have kk : (match m ds φ1 with
        | .ok r => ∀ v H', Up (q.at X.K).T H H' → FO (q.at X.K) r.2 (hide P H') → RepE (q.at X.K) P H H' r.1 v → Q v H'
        | .exc c xs φ' => ∀ cls d H', Up (q.at X.K).T H H' → FO (q.at X.K) φ' (hide P H') → XR (q.at X.K) XT (hide P H') H' c xs cls d → W cls d H'
        | .bad => False) := by
        have z := kk
        rw [Res.ok_bind, if_pos hl] at z
        exact z
      refine ⟨q.fa, q.ca, q.ex, P, φ1, ds, a1.tb, hl, a1.live, a1.fo, r1, ?_⟩
      cases e : m ds φ1 with
      | ok r =>
        rw [e] at kk
        exact fun v H2 u2 f2 r2 => kk v H2 (u1.trans u2) f2 (r2.old u1)
      | exc c xs φ' =>
        rw [e] at kk
        exact fun cls d H2 u2 f2 x2 => kk cls d H2 (u1.trans u2) f2 x2
      | bad =>
        rw [e] at kk
        exact kk
    · have z := kk
      rw [Res.ok_bind, if_neg hl] at z
      exact z.elim
  · rw [h2] at kk
    exact kk.elim
theorem dex_call0 (F : FnG X.prog X.w X.K X.mg X.base (L2.CX X.prog X.w) k f fd [] (spX X.K q.k2 q.k3 q.k4 q.T XT 0 m)) (hG : X.A.guards = some []) (hr : Room k X.A) (hg : Gl X x) (hm : X.mg x = some (.ref f)) (hk : PySem.W.keepIn X.K (.ref f) = true) (hb : Binds X.K fd [] [])
    (hx : Passes (L2.CX X.prog X.w) X W) (hdb : (x == ("__debug__" : Str)) = false := by decide) : DEX X q XT W (.Call (.Name x p) [] [] pos) (appX 0 m nilA) := (pe_callG0 F hG hr hg hm hk hb hx hdb).imp fun σ H Q w => by
  obtain ⟨P, ρ, φ, a, kk⟩ := w
  exact ⟨q.fa, q.ca, q.ex, P, φ, [], a.tb, rfl, a.live, a.fo, rfl, kk⟩
/-- names alone -/
def appXN (is : List Nat) (n : Nat) (m : MF) (ms : MA) : ME := fun ρ φ => (noE (ms ρ φ)).bind fun r => if (pick is r.1).length = n then m (pick is r.1) r.2 else .bad
theorem dex_callN {is : List Nat} (F : FnG X.prog X.w X.K X.mg X.base (L2.CX X.prog X.w) k f fd ps (spX X.K q.k2 q.k3 q.k4 q.T XT n m)) (hG : X.A.guards = some []) (hr : Room k X.A) (hg : Gl X x) (hm : X.mg x = some (.ref f)) (hk : PySem.W.keepIn X.K (.ref f) = true) (hb : NBinds fd ps ks is)
    (hx : Passes (L2.CX X.prog X.w) X W) (hkw : PK X kws (tDA (q.at X.K) ms)) (hln : ks.length = kws.length) (hms : ∀ (ρ : Env') (φ : FS) (ds : List D) (φ' : FS), ms ρ φ = .ok (ds, φ') → ds.length = kws.length)
    (hall : (backToKw pos (keywordEach kws X.env)).all (·.1.isSome) = true := by rfl) (hks : (backToKw pos (keywordEach kws X.env)).filterMap (·.1) = ks := by rfl)
    (hdb : (x == ("__debug__" : Str)) = false := by decide) (hpl : ((backTo pos (starEach [] X.env)).any (·.1) || (backToKw pos (keywordEach kws X.env)).any (·.1.isNone)) = false := by rfl) :
    DEX X q XT W (.Call (.Name x p) [] kws pos) (appXN is n m ms) := (pe_callGN F hG hr hg hm hk hb hx hkw hln hall hks hdb hpl).imp fun σ H Q w => by
  obtain ⟨P, ρ, φ, a, kk⟩ := w
  unfold appXN at kk
  rcases noE_cases (ms ρ φ) with ⟨⟨ds, φ1⟩, h1, h2⟩ | h2
  · rw [h2] at kk
    refine partA a h1 fun vs H1 a1 u1 r1 => ⟨(r1.len.trans (hms _ _ _ _ h1)).trans hln.symm, ?_⟩
    by_cases hl : (pick is ds).length = n
    · have kk : (match m (pick is ds) φ1 with
        | .ok r => ∀ v H', Up (q.at X.K).T H H' → FO (q.at X.K) r.2 (hide P H') → RepE (q.at X.K) P H H' r.1 v → Q v H'
        | .exc c xs φ' => ∀ cls d H', Up (q.at X.K).T H H' → FO (q.at X.K) φ' (hide P H') → XR (q.at X.K) XT (hide P H') H' c xs cls d → W cls d H'
        | .bad => False) := by
        have z := kk
        rw [Res.ok_bind, if_pos hl] at z
        exact z
      refine ⟨q.fa, q.ca, q.ex, P, φ1, pick is ds, a1.tb, hl, a1.live, a1.fo, r1.pick, ?_⟩
      cases e : m (pick is ds) φ1 with
      | ok r =>
        rw [e] at kk
        exact fun v H2 u2 f2 r2 => kk v H2 (u1.trans u2) f2 (r2.old u1)
      | exc c xs φ' =>
        rw [e] at kk
        exact fun cls d H2 u2 f2 x2 => kk cls d H2 (u1.trans u2) f2 x2
      | bad =>
        rw [e] at kk
        exact kk
    · have z := kk
      rw [Res.ok_bind, if_neg hl] at z
      exact z.elim
  · rw [h2] at kk
    exact kk.elim
end
end VI
namespace VI
open PySem PySem.Spec PyProof.Rows L2
section
variable {X : Cx} {q : Pk} {XT : XTab} {W : XK} {st : Stmt} {e c : Expr} {m m' : MS} {me me' : ME} {mt mt' : MT} {pos : Pos}
theorem ds_le (h : DS X q st m) (k : ∀ ρ φ r, m' ρ φ = .ok r → m ρ φ = .ok r) : DS X q st m' := ps_imp h fun D σ H w => by
  obtain ⟨H0, P0, ρ, φ, r, S, h1, h2⟩ := w
  exact ⟨H0, P0, ρ, φ, r, S, k _ _ _ h1, h2⟩
theorem de_le (h : DE X q e me) (k : ∀ ρ φ r, me' ρ φ = .ok r → me ρ φ = .ok r) : DE X q e me' := h.imp fun σ H Q w => by
  obtain ⟨P, ρ, φ, e, φ', a, h1, h2⟩ := w
  exact ⟨P, ρ, φ, e, φ', a, k _ _ _ h1, h2⟩
theorem dt_le (h : DT X q e mt) (k : ∀ ρ φ r, mt' ρ φ = .ok r → mt ρ φ = .ok r) : DT X q e mt' := h.imp fun σ H Q w => by
  obtain ⟨P, ρ, φ, e, φ', a, h1, h2⟩ := w
  exact ⟨P, ρ, φ, e, φ', a, k _ _ _ h1, h2⟩
theorem ds_no (h : DS X q st m) : DS X q st (noS m) := ds_le h fun _ _ _ z => noE_ok z
theorem dt_no (h : DT X q e mt) : DT X q e (noT mt) := dt_le h fun _ _ _ z => noE_ok z
theorem appX_ok {n : Nat} {m : MF} {ms : MA} {ρ : Env'} {φ : FS} {r : EV × FS} (h : appX n m ms ρ φ = .ok r) : appM n m ms ρ φ = .ok r := by
  unfold appX at h
  unfold appM
  obtain ⟨a, h1, h2⟩ := Res.bind_ok h
  rw [noE_ok h1, Res.ok_bind]
  exact h2
theorem appXN_ok {is : List Nat} {n : Nat} {m : MF} {ms : MA} {ρ : Env'} {φ : FS} {r : EV × FS} (h : appXN is n m ms ρ φ = .ok r) : appN is n m ms ρ φ = .ok r := by
  unfold appXN at h
  unfold appN
  obtain ⟨a, h1, h2⟩ := Res.bind_ok h
  rw [noE_ok h1, Res.ok_bind]
  exact h2
theorem de_X {n : Nat} {mf : MF} {ms : MA} (h : DE X q e (appM n mf ms)) : DE X q e (appX n mf ms) := de_le h fun _ _ _ z => appX_ok z
theorem de_XN {is : List Nat} {n : Nat} {mf : MF} {ms : MA} (h : DE X q e (appN is n mf ms)) : DE X q e (appXN is n mf ms) := de_le h fun _ _ _ z => appXN_ok z
def excM (vs : List Nat) (c : Str) (ms : MA) : MS := fun ρ φ => (noE (ms (soft vs ρ) φ)).bind fun r => .exc c r.1 r.2
theorem ds_exc {vs : List Nat} {c : Str} {ms : MA} : DS X q st (excM vs c ms) := ps_imp ps_never fun D σ H w => by
  obtain ⟨H0, P0, ρ, φ, r, S, h, k⟩ := w
  obtain ⟨a, _, h⟩ := Res.bind_ok h
  cases h
end
/-- an error's own __init__ stores its fields, in order -/
def spInit (K : PySem.W.Frag) (C : Addr) (ns : List Str) : Sp := fun vs H Q _ => ∃ (a : Addr) (xs : List V), vs = .ref a :: xs ∧ xs.length = ns.length ∧ OexC K C ∧ (∀ n ∈ ns, PySem.W.findIn K (.ref C) n = some none) ∧ H a = some (exo a C none) ∧
  ∀ (dx : Addr) (H' : Hp), H dx = none → dx ≠ a → H' a = some (exo a C (some dx)) → H' dx = some (exd dx ((ns.zip xs).reverse)) → (∀ b, b ≠ a → b ≠ dx → H' b = H b) → Q .non H'
section
variable {P : Program} {w : World} {K : PySem.W.Frag} {mg : Str → Option Value} {base : Heap}
/-- what is known of an error class -/
structure XCls (P : Program) (w : World) (K : PySem.W.Frag) (mg : Str → Option Value) (base : Heap) (c : Str) (C : Addr) (ns : List Str) (fI : Addr) (fd : FuncData) : Prop where
  o : OexC K C
  no : ∀ n ∈ ns, PySem.W.findIn K (.ref C) n = some none
  iC : PySem.W.findIn K (.ref C) "__init__" = some (some (.ref fI))
  tI : PySem.W.typeIn K (.ref fI) = some (.type "function")
  F : FnOk P w K mg base CX0 1 fI fd ("self" :: ns) (spInit K C ns)
  b : Binds K fd ("self" :: ns) []
  g : mg c = some (.ref C)
end
section
variable {X : Cx} {q : Pk} {XT : XTab} {W : XK} {e : Expr} {es : List Expr} {ms : MA} {p pos rpos : Pos} {c : Str} {C fI : Addr} {ns : List Str} {fd : FuncData}
theorem dsx_raise {vs : List Nat} (hc : X.calm = true) (tk : Takes X (fun cls d _ H' => W cls d H')) (xc : XCls X.prog X.w X.K X.mg X.base c C ns fI fd) (hX : XT c = some (C, ns)) (hn : ns.length ≤ 900) (hd : ns.Nodup) (hr : Room 2 X.A) (hg : Gl X c) (ha : DA X q (e :: es) ms) (hl : (e :: es).length = ns.length)
    (hms : ∀ (ρ : Env') (φ : FS) (ds : List D) (φ' : FS), ms ρ φ = .ok (ds, φ') → ds.length = ns.length)
    (hdb : (c == ("__debug__" : Str)) = false := by decide) (he : starEach (e :: es) X.env = (false, eval e X.env) :: starEach es X.env := by rfl) (hpl : (backTo pos (starEach es X.env)).any (·.1) = false := by rfl) :
    DSX X q XT W (.Raise (some (.Call (.Name c p) (e :: es) [] pos)) none rpos) (excM vs c ms) := by
  refine ps_imp (ps_raise hc tk (pmk_oex (sp := spInit X.K C ns) (ds := []) (dvs := []) xc.o xc.iC xc.tI xc.F hr xc.b .nil (fun _ _ _ _ _ _ _ z => z.elim) hg xc.g ha hdb he hpl)) fun D σ H z => ?_
  obtain ⟨H0, P0, ρ, φ, S, k⟩ := z
  unfold excM at k
  rcases noE_cases (ms (soft vs ρ) φ) with ⟨⟨ds, φ1⟩, h1, h2⟩ | h2
  · rw [h2] at k
    refine ⟨_, _, φ, ds, φ1, S.moment vs, h1, fun vs' H1 u1 f1 r1 => ?_⟩
    have lv : vs'.length = ns.length := r1.len.trans (hms _ _ _ _ h1)
    refine ⟨by omega, fun a na => ?_⟩
    rw [List.append_nil]
    refine ⟨a, vs', rfl, lv, xc.o, xc.no, upd_same, fun dx H' nd ne ea ed hk => ⟨rfl, dx, _, ea, ed, ?_, ?_⟩⟩
    · rw [upd_ne ne] at nd; exact nd
    · have nd' : H1 dx = none := by rw [upd_ne ne] at nd; exact nd
      have old : ∀ b o, H1 b = some o → upd (del H' a) dx (.xd ((ns.zip vs').reverse)) b = some o := fun b o z => by
        have b1 : b ≠ a := fun y => by rw [y, na] at z; cases z
        have b2 : b ≠ dx := fun y => by rw [y, nd'] at z; cases z
        rw [upd_ne b2, del_ne b1, hk b b1 b2, upd_ne b1]
        exact z
      have x1 : Ext H1 (upd (del H' a) dx (.xd ((ns.zip vs').reverse))) := ⟨old⟩
      have f2 : FO (q.at X.K) φ1 (hide (Hid P0 (settle vs ρ) σ) (upd (del H' a) dx (.xd ((ns.zip vs').reverse)))) := f1.ext (hide_ext x1)
      have r2 := RepAll.up (hide_ex x1) r1
      have xr : XR (q.at X.K) XT (hide (Hid P0 (settle vs ρ) σ) (upd (del H' a) dx (.xd ((ns.zip vs').reverse)))) (upd (del H' a) dx (.xd ((ns.zip vs').reverse))) c ds (.ref C) (some dx) := by
        refine ⟨C, dx, ns, _, vs', hX, rfl, rfl, by rw [hide_eq fun z => ((S.moment vs).live.up u1) dx z nd', upd_same], r2, lv, fun i n v h3 h4 => ?_⟩
        have hz : (ns.zip vs')[i]? = some (n, v) := by
          rw [List.getElem?_zip_eq_some]
          exact ⟨h3, h4⟩
        have mem : (n, v) ∈ (ns.zip vs').reverse := List.mem_reverse.mpr (List.mem_of_getElem? hz)
        have nd2 : ((ns.zip vs').reverse.map (·.1)).Nodup := by
          rw [List.map_reverse]
          have e1 : (ns.zip vs').map (·.1) = ns := List.map_fst_zip (by omega)
          rw [e1]
          exact List.pairwise_reverse.mpr (hd.imp fun h z => h z.symm)
        have lk : ∀ {l : List (Str × V)}, (l.map (·.1)).Nodup → (n, v) ∈ l → l.lookup n = some v := fun {l} => by
          induction l with
          | nil => intro _ z; cases z
          | cons y l ih =>
            intro h5 h6
            rw [List.map_cons, List.nodup_cons] at h5
            rcases List.mem_cons.mp h6 with h6 | h6
            · subst h6
              exact List.lookup_cons_self
            · have hne : n ≠ y.1 := fun z => h5.1 (by rw [← z]; exact List.mem_map.mpr ⟨_, h6, rfl⟩)
              rw [List.lookup_cons, show (n == y.1) = false from beq_false_of_ne hne]
              exact ih h5.2 h6
        exact lk nd2 mem
      obtain ⟨u', f', x'⟩ := S.raised vs (u1.trans x1.up) f2 xr
      exact k _ _ _ u' f' x'
  · rw [h2] at k
    exact k.elim
end
end VI
namespace VI
open PySem PySem.Spec PyProof.Rows L2
def noI {α : Type} (m : MI α) : MI α := fun ρ φ => noE (m ρ φ)
section
variable {X : Cx} {q : Pk} {XT : XTab} {W : XK} {tg iter e : Expr} {body : List Stmt} {pos : Pos} {α : Type} {R : RI α} {mi : MI α} {set : α → EnvS → Option EnvS} {mb : MS} {me : ME}
theorem ds_for_le (vs : List Nat) {st : Stmt} (h : DS X q st (forM vs mi set mb)) : DS X q st (forM vs (noI mi) set mb) := ds_le h fun ρ φ r z => by
  obtain ⟨a, h1, h2⟩ := Res.bind_ok z
  show (mi (soft vs ρ) φ).bind _ = _
  rw [noE_ok h1, Res.ok_bind]
  exact h2
theorem ds_forC_le (vs : List Nat) {st : Stmt} (h : DS X q st (forC vs mi set mb)) : DS X q st (forC vs (noI mi) set mb) := ds_le h fun ρ φ r z => by
  obtain ⟨a, h1, h2⟩ := Res.bind_ok z
  show (mi (soft vs ρ) φ).bind _ = _
  rw [noE_ok h1, Res.ok_bind]
  exact h2
theorem dsx_for (vs : List Nat) (hp : PassesOwn (model X.prog X.w) X.A X.env X.xe) (hc : X.calm = true) (hi : DI X q tg iter R mi) (hg : DGS X (q.at X.K) tg R set) (hb : DSXs X q XT W body mb) (hs : ∀ x, foldedSetIterable iter X.env x = pure x) :
    DSX X q XT W (.For tg iter body [] pos) (forM vs (noI mi) set mb) := by
  obtain ⟨wi, h1, h2⟩ := hi
  obtain ⟨g, h3, h4⟩ := hg
  refine ps_imp (ps_for hp hc h1 h3 hb hs) fun D σ H z => ?_
  obtain ⟨H0, P0, ρ, φ, S, k⟩ := z
  unfold forM noI at k
  rcases noE_cases (mi (soft vs ρ) φ) with ⟨⟨as, φ1⟩, e1, e2⟩ | e2
  · rw [e2, Res.ok_bind] at k
    dsimp only at k
    generalize hR : forGo set mb as (settle vs ρ) φ1 = RR at k
    refine h2 σ H _ ⟨_, _, _, as, φ1, S.moment vs, e1, fun J H1 u1 f1 it => ?_⟩
    have S1 : StR (q.at X.K) H0 P0 H1 (settle vs ρ) φ1 σ := (S.settled vs).upTo u1 f1
    have s1 : Seen (Hid P0 ρ σ) H (Hid P0 (settle vs ρ) σ) H1 := (seen_less hid_settle).trans (seen_up u1)
    refine ⟨fun i m σc Hc => m = as.length - i ∧ i ≤ as.length ∧ ∃ ρc φc, StR (q.at X.K) H0 P0 Hc ρc φc σc ∧ Seen (Hid P0 (settle vs ρ) σ) H1 (Hid P0 ρc σc) Hc ∧ forGo set mb (as.drop i) ρc φc = RR,
      ⟨as.length, by omega, Nat.zero_le _, settle vs ρ, φ1, S1, fun _ _ _ z => z, by rw [List.drop_zero]; exact hR⟩, ?_⟩
    rintro i m σc Hc ⟨rfl, hi, ρc, φc, Sc, sc, hgo⟩
    obtain ⟨go, stop⟩ := it i Hc (Hid P0 ρc σc) sc
    by_cases hlt : i < as.length
    · obtain ⟨go1, go2⟩ := go as[i] (List.getElem?_eq_getElem hlt)
      rw [List.drop_eq_getElem_cons hlt] at hgo
      unfold forGo at hgo
      cases hset : set as[i] ρc with
      | none =>
        rw [hset] at hgo
        rw [← hgo] at k
        exact k.elim
      | some ρ1 =>
        rw [hset] at hgo
        dsimp only at hgo
        refine .inr ⟨go1, fun σn Hn => ∃ ρc φc, StR (q.at X.K) H0 P0 Hn ρc φc σn ∧ Seen (Hid P0 (settle vs ρ) σ) H1 (Hid P0 ρc σn) Hn ∧ forGo set mb (as.drop (i + 1)) ρc φc = RR,
          fun σn Hn hn => ⟨as.length - (i + 1), by omega, rfl, hlt, hn⟩, fun x H2 hy => ?_⟩
        obtain ⟨x2, rx⟩ := go2 x H2 hy
        have S2 : StR (q.at X.K) H0 P0 H2 ρc φc σc := Sc.upTo x2.up (Sc.fo.ext (hide_ext x2))
        refine h4 H0 P0 H2 ρc φc σc as[i] x ρ1 _ S2 rx hset fun σ3 S3 s3 => ?_
        have s4 := (sc.trans (seen_ex x2)).trans s3
        refine ⟨H0, P0, ρ1, φc, S3, ?_⟩
        cases eb : mb ρ1 φc with
        | ok r =>
          obtain ⟨fl, ρ2, φ2⟩ := r
          rw [eb, Res.ok_bind] at hgo
          dsimp only at hgo
          cases fl with
          | nx => exact fun σ5 H5 S5 s5 => ⟨ρ2, φ2, S5, s4.trans s5, hgo⟩
          | ct => exact fun σ5 H5 S5 s5 => ⟨ρ2, φ2, S5, s4.trans s5, hgo⟩
          | bk =>
            rw [← hgo] at k
            exact fun σ5 H5 S5 s5 => k σ5 H5 S5 ((s1.trans s4).trans s5)
          | ret e =>
            rw [← hgo] at k
            exact fun v H5 u5 f5 r5 => k v H5 u5 f5 r5
        | exc c xs φ' =>
          rw [eb] at hgo
          have hgo : Res.exc c xs φ' = RR := hgo
          rw [← hgo] at k
          exact k
        | bad =>
          rw [eb] at hgo
          have hgo : Res.bad = RR := hgo
          rw [← hgo] at k
          exact k
    · have ei : i = as.length := by omega
      subst ei
      rw [List.drop_length] at hgo
      have hgo : Res.ok (Fl.nx, ρc, φc) = RR := hgo
      rw [← hgo] at k
      exact .inl ⟨stop (Nat.le_refl _), (show EndOk (q.at X.K) H0 P0 D (Hid P0 ρ σ) H (.nx, ρc, φc) from k) σc Hc Sc (s1.trans sc)⟩
  · rw [e2] at k
    exact k.elim
theorem dsx_forC (vs : List Nat) (hp : PassesOwn (model X.prog X.w) X.A X.env X.xe) (hc : X.calm = true) (hi : DIc X q tg iter R mi) (hg : DGS X (q.at X.K) tg R set) (hb : DSXs X q XT W body mb) (hs : ∀ x, foldedSetIterable iter X.env x = pure x) :
    DSX X q XT W (.For tg iter body [] pos) (forC vs (noI mi) set mb) := by
  obtain ⟨wi, h1, h2⟩ := hi
  obtain ⟨g, h3, h4⟩ := hg
  refine ps_imp (ps_for hp hc h1 h3 hb hs) fun D σ H z => ?_
  obtain ⟨H0, P0, ρ, φ, S, k⟩ := z
  unfold forC noI at k
  rcases noE_cases (mi (soft vs ρ) φ) with ⟨⟨as, φ1⟩, e1, e2⟩ | e2
  · rw [e2, Res.ok_bind] at k
    dsimp only at k
    generalize hR : forGo set mb as ρ φ1 = RR at k
    refine h2 σ H _ ⟨_, _, _, as, φ1, S.moment vs, e1, fun J H1 u1 f1 it => ?_⟩
    have S1 : StR (q.at X.K) H0 P0 H1 ρ φ1 σ := S.upTo u1 (f1.see S.fo.nfa.1 S.fo.nca.1 (S.fo.e.up (hide_up u1)))
    have s1 : Seen (Hid P0 ρ σ) H (Hid P0 ρ σ) H1 := seen_up u1
    refine ⟨fun i m σc Hc => m = as.length - i ∧ i ≤ as.length ∧ ∃ ρc φc, StR (q.at X.K) H0 P0 Hc ρc φc σc ∧ Seen (Hid P0 ρ σ) H1 (Hid P0 ρc σc) Hc ∧ forGo set mb (as.drop i) ρc φc = RR,
      ⟨as.length, by omega, Nat.zero_le _, ρ, φ1, S1, fun _ _ _ z => z, by rw [List.drop_zero]; exact hR⟩, ?_⟩
    rintro i m σc Hc ⟨rfl, hi, ρc, φc, Sc, sc, hgo⟩
    obtain ⟨go, stop⟩ := it (Hid P0 ρc σc) Hc i Hc (Hid P0 ρc σc) fun _ _ _ z => z
    by_cases hlt : i < as.length
    · obtain ⟨go1, go2⟩ := go as[i] (List.getElem?_eq_getElem hlt)
      rw [List.drop_eq_getElem_cons hlt] at hgo
      unfold forGo at hgo
      cases hset : set as[i] ρc with
      | none =>
        rw [hset] at hgo
        rw [← hgo] at k
        exact k.elim
      | some ρ1 =>
        rw [hset] at hgo
        dsimp only at hgo
        refine .inr ⟨go1, fun σn Hn => ∃ ρc φc, StR (q.at X.K) H0 P0 Hn ρc φc σn ∧ Seen (Hid P0 ρ σ) H1 (Hid P0 ρc σn) Hn ∧ forGo set mb (as.drop (i + 1)) ρc φc = RR,
          fun σn Hn hn => ⟨as.length - (i + 1), by omega, rfl, hlt, hn⟩, fun x H2 hy => ?_⟩
        obtain ⟨x2, rx⟩ := go2 x H2 hy
        have S2 : StR (q.at X.K) H0 P0 H2 ρc φc σc := Sc.upTo x2.up (Sc.fo.ext (hide_ext x2))
        refine h4 H0 P0 H2 ρc φc σc as[i] x ρ1 _ S2 rx hset fun σ3 S3 s3 => ?_
        have s4 := (sc.trans (seen_ex x2)).trans s3
        refine ⟨H0, P0, ρ1, φc, S3, ?_⟩
        cases eb : mb ρ1 φc with
        | ok r =>
          obtain ⟨fl, ρ2, φ2⟩ := r
          rw [eb, Res.ok_bind] at hgo
          dsimp only at hgo
          cases fl with
          | nx => exact fun σ5 H5 S5 s5 => ⟨ρ2, φ2, S5, s4.trans s5, hgo⟩
          | ct => exact fun σ5 H5 S5 s5 => ⟨ρ2, φ2, S5, s4.trans s5, hgo⟩
          | bk =>
            rw [← hgo] at k
            exact fun σ5 H5 S5 s5 => k σ5 H5 S5 ((s1.trans s4).trans s5)
          | ret e =>
            rw [← hgo] at k
            exact fun v H5 u5 f5 r5 => k v H5 u5 f5 r5
        | exc c xs φ' =>
          rw [eb] at hgo
          have hgo : Res.exc c xs φ' = RR := hgo
          rw [← hgo] at k
          exact k
        | bad =>
          rw [eb] at hgo
          have hgo : Res.bad = RR := hgo
          rw [← hgo] at k
          exact k
    · have ei : i = as.length := by omega
      subst ei
      rw [List.drop_length] at hgo
      have hgo : Res.ok (Fl.nx, ρc, φc) = RR := hgo
      rw [← hgo] at k
      exact .inl ⟨stop (Nat.le_refl _), (show EndOk (q.at X.K) H0 P0 D (Hid P0 ρ σ) H (.nx, ρc, φc) from k) σc Hc Sc (s1.trans sc)⟩
  · rw [e2] at k
    exact k.elim
/-- a, b = e -/
theorem dsx_unp {is : List Nat} (vs : List Nat) (he : DEX X q XT W e me) (hg : PG X tg (gTup X.K is.length (gAll is))) (hw : swappedStores [tg] e X.env = pure none)
    (hs : swapsWithSole [tg] e pos.line X.env = pure false) (h1 : (assignEach [tg] X.env).map (·.2) = [assign tg X.env]) : DSX X q XT W (.Assign [tg] e pos) (unpM vs is me) := ps_imp (ps_asg he hg hs hw h1) fun D σ H z => by
  obtain ⟨H0, P0, ρ, φ, S, k⟩ := z
  refine ⟨_, _, φ, S.moment vs, ?_⟩
  unfold unpM at k
  cases e1 : me (soft vs ρ) φ with
  | ok r =>
    obtain ⟨ev, φ1⟩ := r
    rw [e1, Res.ok_bind] at k
    intro v H1 u1 f1 r1
    cases ev with
    | own ds => exact k.elim
    | dat d =>
      cases d with
      | tuple ds =>
        have k : EndX (q.at X.K) XT W H0 P0 D (Hid P0 ρ σ) H (if is.length = ds.length then Res.ok (Fl.nx, setsE is (ds.map .dat) (aft vs (.dat (.tuple ds)) ρ), φ1) else .bad) := k
        by_cases hl : is.length = ds.length
        · rw [if_pos hl] at k
          obtain ⟨f2, r2, S2⟩ := S.behind u1 f1 r1
          obtain ⟨t, xs, rfl, g1, g2⟩ := r2
          have ln : xs.length = is.length := by rw [g2.len, hl]
          obtain ⟨S3, s3⟩ := S2.sets (is := is) u1 (repEs_dats u1 g2) (by rw [List.length_map, hl]) f2
          exact ⟨t, xs, rfl, (TupN.at g1 fun c o _ z => (hide_of z).2).sq, ln, setsV_gAll ln ((show EndOk (q.at X.K) H0 P0 D (Hid P0 ρ σ) H (.nx, setsE is (ds.map .dat) (aft vs (.dat (.tuple ds)) ρ), φ1) from k) _ _ S3 ((seen_less aft_less).trans s3))⟩
        · rw [if_neg hl] at k
          exact k.elim
      | none => exact k.elim
      | bool b => exact k.elim
      | int i => exact k.elim
      | str x => exact k.elim
      | list ds => exact k.elim
      | dict kv => exact k.elim
  | exc c xs φ' =>
    rw [e1] at k
    intro cls d H' u f x
    obtain ⟨u', f', x'⟩ := S.raised vs u f x
    exact k cls d H' u' f' x'
  | bad =>
    rw [e1] at k
    exact k
end
end VI
namespace VI
open PySem PySem.Spec PyProof.Rows L2 PySem.W PySem.Calls
section
variable {prog : Program} {w : World} {A : Around} {E : Value → Shared → Prop} {s : Shared} {K : Frag} {x D : Addr} {ox oo : Obj}
theorem cls_asked {Q : Option Value → Shared → Prop} (C : ExcC K D) (X : K.In s.heap) (I : PySem.W.InstAt s.heap x ox D (some oo)) (h : Q (some (.ref D)) { s with toks := s.toks + 1 }) : wpAny (model prog w) A (getAttr? (.ref x) "__class__") Q E s := by
  have kf : findObj K D (some oo) "__class__" = some (.bind (.builtin "getset_descriptor.__get__") (.builtin "object.__class__")) := findObj_data (by obtain ⟨cd, hc, _⟩ := any_some C.hd; rw [hc]; rfl) C.ha C.hn C.ht
  obtain ⟨hp, gg, dd, tt, oss⟩ := s
  have K0 := I.type (M := model prog w); have K1 := looks_findIn (M := model prog w) X C.hg; have K2 := looks_findIn (M := model prog w) X C.hk; have K3 := looks_find (M := model prog w) X I kf
  have kb : Looks (model prog w) hp (isInstance (.ref x) (.type "BaseException")) true := K0.andThen (looks_subIn X C.hs)
  have y0 : (false && onTheHeap (Value.builtin "BaseException.__getattribute__")) = false := rfl; have y2 : (Value.builtin "BaseException.__getattribute__" == Value.builtin "object.__getattribute__") = false := by decide +kernel
  have y1 : (onTheHeap (Value.ref D) && Value.builtin "BaseException.__getattribute__" == Value.builtin "object.__getattribute__") = false := by rw [y2]; rfl
  unfold getAttr? getAttrBy? getAttrBy; refine wpAny_bind (wpAny_mkText (wpAny_bind (wpAny_attempt (wpAny_holding (wpAny_bind (K0.at (wpAny_bind (K1.at ?_))))))))
  show wpAny _ _ (if (onTheHeap (Value.ref D) && Value.builtin "BaseException.__getattribute__" == Value.builtin "object.__getattribute__") = true then _ else _) _ _ (⟨hp, gg, dd, _, oss⟩ : Shared)
  rw [y1, if_neg Bool.false_ne_true]; unfold getAttrByItsOwn hookBefore; refine wpAny_bind ?_; rw [if_pos (show onTheHeap (Value.ref D) = true from rfl)]
  refine K2.at ?_; refine wpAny_bind (wpAny_attempt (wpAny_holding ?_)); unfold callGetattribute; rw [y0, if_neg Bool.false_ne_true]; unfold boundAndCalled; rw [PySem.F.excAttr_ValueError.ga.bind (.ref x)]
  refine wpAny_bind (wpAny_pure ?_); show wpAny _ _ (call (.builtin "BaseException.__getattribute__") [.ref x, .str "__class__" tt]) _ _ _
  refine wpAny_call (codeAny_call_builtin PySem.F.excAttr_ValueError.ga.plain PySem.F.entry_bexc_ga (@check_slot (model prog w) _ _ ⟨hp, gg, dd, tt + 1, oss⟩ "BaseException.__getattribute__" "BaseException" "__getattribute__" (.ref x) [.str "__class__" tt] [] _ (by decide +kernel) (by decide +kernel) kb (PySem.F.args_bexc_ga (.ref x) (.str "__class__" tt)) ?_))
  unfold Builtin.«object.__getattribute__»; refine wpAny_bind (wpAny_of_eq (a := ((Value.ref x : Value), [Value.str "__class__" tt])) (by first | rfl | (simp only [slotArgs]; rfl)) ?_); refine wpAny_bind (wpAny_pure (wpAny_bind (K0.at (wpAny_bind (K3.at ?_)))))
  show wpAny _ _ (holding [Value.builtin "object.__class__"] (call (.builtin "getset_descriptor.__get__") [.builtin "object.__class__", .ref x, .ref D]) >>= ret) _ _ (⟨hp, gg, dd, _, oss⟩ : Shared)
  refine wpAny_bind (wpAny_holding (wpAny_call (class_get (s := ⟨hp, gg, dd, tt + 1, oss⟩) (ox := ox) (od := some oo) X I C.hm ?_))); refine wpAny_pure ?_; show wpAny _ _ (handedOut (.ref D)) _ _ _; rw [handedOut_of (v := .ref D) rfl]
  first | exact wpAny_pure (wpAny_pure h) | exact wpAny_pure h | exact wpAny_pure (wpAny_bind (wpAny_pure (wpAny_pure h)))
theorem kitx_asked (C : ExcC K D) : KitX K (.ref x) (.ref D) (fun h => ∃ oo, PySem.W.InstAt h x ox D (some oo)) where
  ty := fun _ _ _ ⟨oo, I⟩ => I.type
  it := fun _ _ X _ => by
    obtain ⟨cdD, e, _⟩ := any_some C.hd; unfold clsIn at e; split at e
    · rename_i c' d' cd' sl' ho
      intro A' Q' E' s' k q; unfold isType loadHead; exact wpAny_bind (wpAny_loadPart (k _ _ (X _ _ ho)) (wpAny_pure q))
    · cases e
  ne := fun h tp dd its n sl X htp => Bool.eq_false_iff.mpr fun q => by
    obtain ⟨cdD, e, _⟩ := any_some C.hd; have eq1 : D = tp := Value.ref.inj (beq_iff_eq.mp q)
    subst eq1; unfold clsIn at e; split at e
    · rename_i c' d' cd' sl' ho; have z := (X _ _ ho).symm.trans htp; cases z
    · cases e
  ca := fun X ⟨oo, I⟩ k => cls_asked C X I k
end
/-- isinstance(e, c), e held by the suite, its fields in a dict -/
theorem call_isX {X : Cx} {a D dd : Addr} {oe : Obj} {pn : List (Addr × Obj)} (C : ExcC X.K D) (hz : Zc (.ref D) (some dd) oe) (hf : ∃ vs, oe.data = .fields vs) :
    CallR (X.suite a ((a, oe) :: pn)) (.builtin "isinstance") (fun xs H Q => (∃ fs, H dd = some (.xd fs)) ∧ rIsE X.K D a xs H Q) := by
  intro pins s σ H xs us Q I r h
  obtain ⟨⟨fs, hx⟩, c, cv, b, rfl, hcv, e, q⟩ := h
  match us, r with
  | [u1, u2], .cons rx (.cons rt .nil) =>
    cases rx
    have ec := hcv _ rt; subst ec
    obtain ⟨hget, _⟩ := I.pin (a, oe) (List.mem_append.mpr (.inl List.mem_cons_self))
    obtain ⟨vs, hv⟩ := hf
    obtain ⟨od, hod⟩ : ∃ od, s.heap.get? dd = some od := by
      have z := I.hok dd _ hx
      obtain ⟨mA, hn, _⟩ := z
      obtain ⟨o, es, ep, h1, _⟩ := hn
      exact ⟨o, h1⟩
    have J : PySem.W.InstAt s.heap a oe D (some od) := by
      obtain ⟨oc, oda, odt, osl⟩ := oe
      obtain ⟨h1, h2⟩ := hz; dsimp only at h1 h2 hv; subst h1 h2 hv
      exact ⟨hget, rfl, rfl, hod⟩
    exact PySem.W.kia_one (kitx_asked C) I.kIn ⟨od, J⟩ e (fun z => nomatch z) fun tk => ⟨.bl b, H, I.kept (t' := tk) fun _ _ z => z, rfl, q⟩
end VI
namespace VI
open PySem PySem.Spec PyProof.Rows L2
theorem up_tab {T : List (Addr × Str)} {H : Hp} {P c : Addr} {ps ps' : Array Value} {q : Str} (hP : H P = some (.tbl ps)) (nc : H c = none) (hT : LamX.Tabs T (upd (upd H P (.tbl ps')) c (LamX.CodeO c q))) : Up T H (upd (upd H P (.tbl ps')) c (LamX.CodeO c q)) where
  sq := fun b o s e => by
    have b1 : b ≠ c := fun z => by rw [z, nc] at e; cases e
    have b2 : b ≠ P := fun z => by rw [z, hP] at e; cases e; exact s
    rw [upd_ne b1, upd_ne b2]; exact e
  no := fun b e => by
    by_cases b1 : b = c
    · rw [b1]; exact nc
    · rw [upd_ne b1] at e
      by_cases b2 : b = P
      · rw [b2, upd_same] at e; cases e
      · rw [upd_ne b2] at e; exact e
  tab := fun _ => hT
section
variable {X : Cx} {pins : List (Addr × Obj)} {σ : L2.St} {H : Hp} {s : Shared}
theorem lam_up {T : List (Addr × Str)} {c P : Addr} {params : Arguments} {body : Expr} {scope : Scope} {pos : Pos} {E : Value → Shared → Prop} {Q : Value → Shared → Prop} (I : Inv X pins σ H s) (TB : LamX.TabB X.base X.mg c P) (hcode : X.env.code = .ref c)
    (hm : (P, X.env.qual ++ "<lambda>") ∈ T) (hu : ∀ p ∈ T, p.1 = P → p.2 = X.env.qual ++ "<lambda>") (hT : LamX.Tabs T H) (hdef : defaultsOf params X.env = ([], [])) (hfree : ∀ y ∈ scope.names, y.2 = .free → ∃ c, X.env.cells.lookup y.1 = some c)
    (h : ∀ (f c' : Addr) (pm ctv : Value) (H1 : Hp) (s' : Shared), Inv X pins σ H1 s' → Up T H H1 → LamX.ExtN H H1 →
      s'.heap.get? f = some (PySem.W.kla_obj "<lambda>" (X.env.qual ++ "<lambda>") params body scope (cloFrom X.env.cells scope.names []) pm c' ctv) → H1 f = none → f ∉ frs X.stack → H1 c' = some (LamX.CodeO c' (X.env.qual ++ "<lambda>")) → Q (.ref f) s') :
    wpAny (model X.prog X.w) X.A (eval (.Lambda params body scope pos) X.env) Q E s := by
  obtain ⟨ps, hP, ht, ha⟩ := hT _ hm; refine PySem.W.kla_eval hdef ?_
  have bP : s.heap.BuiltinsAt X.mg P := TB.bm.keeps I.bk; have oP : s.heap.get? P = some { cls := .none, data := .fields ps } := I.hok P _ hP
  have away : ∀ f, s.heap.objs.size ≤ f → f ∉ frs X.stack := fun f hf z => (List.mem_cons.mp (I.stkSub _ z)).elim (fun e => Nat.lt_irrefl _ (Nat.lt_of_lt_of_le (e ▸ I.lt) hf)) fun e => I.nofs hf e
  cases hc : codeAmong pos ps.toList with
  | some cv =>
    obtain ⟨c', e, hco⟩ := ha pos cv hc; subst e
    refine PySem.W.kla_makeFunctionHit (mg := X.mg) (c := c) (P := P) (ps := ps) (closure_ok hfree) I.ok.glob (I.mod.glob.keeps I.bk) hcode (TB.code.keeps I.bk) oP ht hc bP fun ctv h' tk hx hsz => ?_
    exact h h'.objs.size c' ((X.mg "__name__").getD .none) ctv H _ (I.kept fun b o e => Heap.get?_push_of_some _ (hx b o e)) (Up.refl H) (LamX.ExtN.refl H) (Heap.get?_push_size _ rfl) (I.hok.fresh hsz) (away _ hsz) hco
  | none =>
    refine PySem.W.kla_makeFunction (mg := X.mg) (c := c) (P := P) (ps := ps) (closure_ok hfree) I.ok.glob (I.mod.glob.keeps I.bk) hcode (TB.code.keeps I.bk) oP ht hc TB.gP bP fun c' ctv h' tk hx hge hlt hrec htb => ?_
    obtain ⟨c2, oc, vs, t, e2, hoc, hd, hv⟩ := hrec; cases e2
    have nC : H c' = none := I.hok.fresh hge; have hsz : s.heap.objs.size ≤ h'.objs.size := Nat.le_trans hge (Nat.le_of_lt hlt)
    have J := LamX.inv_table (t' := tk) (more := #[rawInt pos.line, rawInt pos.col, .ref c']) (h' := h'.push (PySem.W.kla_obj "<lambda>" (X.env.qual ++ "<lambda>") params body scope (cloFrom X.env.cells scope.names []) ((X.mg "__name__").getD .none) c' ctv)) I hP (fun b o hb e => Heap.get?_push_of_some _ (hx b o hb e)) (Heap.get?_push_of_some _ htb) hge ⟨oc, vs, t, Heap.get?_push_of_some _ hoc, hd, hv⟩
    have eN : LamX.ExtN H (upd (upd H P (.tbl (ps ++ #[rawInt pos.line, rawInt pos.col, .ref c']))) c' (LamX.CodeO c' (X.env.qual ++ "<lambda>"))) := fun b o e n => by
      have b1 : b ≠ P := fun z => n ps (Option.some.inj (e.symm.trans (by rw [z]; exact hP)))
      rw [upd_ne (ne_of_none e nC), upd_ne b1]; exact e
    have T1 : LamX.Tabs T (upd (upd H P (.tbl (ps ++ #[rawInt pos.line, rawInt pos.col, .ref c']))) c' (LamX.CodeO c' (X.env.qual ++ "<lambda>"))) := fun p hp => by
      by_cases hb : p.1 = P
      · rw [hu p hp hb, hb]
        refine ⟨_, by rw [upd_ne (ne_of_none hP nC), upd_same], ?_, fun p' cv hcv => ?_⟩
        · rw [Array.toList_append]; exact PySem.TriplesOk_snoc _ _ _ _ ht
        · rw [Array.toList_append] at hcv
          rcases LamX.among_app _ ht hcv with z | z
          · obtain ⟨c0, e1, e2⟩ := ha p' cv z; exact ⟨c0, e1, eN _ _ e2 LamX.codeO_ne⟩
          · exact ⟨c', z, upd_same⟩
      · obtain ⟨qs, a1, a2, a3⟩ := hT p hp
        refine ⟨qs, by rw [upd_ne (ne_of_none a1 nC), upd_ne hb]; exact a1, a2, fun p' cv hcv => ?_⟩
        obtain ⟨c0, e1, e2⟩ := a3 p' cv hcv; exact ⟨c0, e1, eN _ _ e2 LamX.codeO_ne⟩
    have n1 : h'.objs.size ≠ c' := Nat.ne_of_gt hlt; have n2 : h'.objs.size ≠ P := Nat.ne_of_gt (Nat.lt_of_lt_of_le (Heap.lt_size oP) hsz)
    exact h h'.objs.size c' ((X.mg "__name__").getD .none) ctv _ _ J (up_tab hP nC T1) eN (Heap.get?_push_size _ rfl) (by rw [upd_ne n1, upd_ne n2]; exact I.hok.fresh hsz) (away _ hsz) upd_same
end
end VI
namespace VI
open PySem PySem.Spec PyProof.Rows L2
section
variable {X : Cx} {pins : List (Addr × Obj)} {σ : L2.St} {H : Hp} {s : Shared}
/-- a(), in the def that got the closure -/
theorem act_at {CXg : CXT} {Eg : XK} {Ng : List Str} {qg : Str} {sg : Scope} {g f c' : Addr} {cdg pm ctv : Value} {params : Arguments} {body : Expr} {scope : Scope} {k i : Nat} {a : Str} {pn : List (Addr × Obj)} {xe : Value → Shared → Prop} {W : WX} {E : XK} {tb : TE} {p1 p2 : Pos} (I : Inv X pins σ H s) (L : LamX.LamS X.env.scope scope)
    (hf : s.heap.get? f = some (PySem.W.kla_obj "<lambda>" (X.env.qual ++ "<lambda>") params body scope (cloFrom X.env.cells scope.names []) pm c' ctv)) (hfn : H f = none) (hfr : f ∉ frs X.stack) (hbind : bindArgs (PySem.W.kla_fn "<lambda>" (X.env.qual ++ "<lambda>") params body scope (cloFrom X.env.cells scope.names []) pm (.ref c') ctv) ⟨[], []⟩ = pure [])
    (tk : Takes ((cxOf CXg X.prog X.w X.K X.mg X.base Ng qg sg g cdg X.A X.stack s H Eg).tr pn xe) W) (hW : ∀ cls d σ' H', E cls d H' → W cls d σ' H') (hr : Room (k + 1) (X.A.deeper (envOfC qg sg s.heap.objs.size g cdg)))
    (hbody : ∀ (s1 : Shared) (H1 : Hp), Room k ((X.A.deeper (envOfC qg sg s.heap.objs.size g cdg)).deeper (LamX.lamEnv X scope s1.heap.objs.size f c')) → PE (LamX.lamCx X (X.A.deeper (envOfC qg sg s.heap.objs.size g cdg)) (envOfC qg sg s.heap.objs.size g cdg :: X.stack) s1 H1 E scope f c') body tb)
    (hN : Ng[i]? = some a) (hv : Vis sg a) (hd : (a == ("__debug__" : Str)) = false) (hcd : (a == ("__classdict__" : Str)) = false) :
    PE ((cxOf CXg X.prog X.w X.K X.mg X.base Ng qg sg g cdg X.A X.stack s H Eg).tr pn xe) (.Call (.Name a p1) [] [] p2) (fun σZ HZ Q => σZ[i]? = some (some (.ref f)) ∧ HZ c' = some (LamX.CodeO c' (X.env.qual ++ "<lambda>")) ∧ tb σ HZ Q) := by
  constructor; intro pinsZ sZ σZ HZ Q IZ hh; obtain ⟨hs, hco, ht⟩ := hh
  refine wpAny_Call_Name_kw (thn ((pe_var (pos := p1) (i := i) hN hv hd hcd).run pinsZ sZ σZ HZ (fun v H1 => v = .ref f ∧ H1 = HZ) IZ ⟨.ref f, hs, rfl, rfl⟩) ?_); rintro u s1 ⟨v, H1, I1, r1, ev, eH⟩; subst ev; rw [eH] at I1; obtain rfl : u = Value.ref f := r1
  have f1 : s1.heap.get? f = some (PySem.W.kla_obj "<lambda>" (X.env.qual ++ "<lambda>") params body scope (cloFrom X.env.cells scope.names []) pm c' ctv) := I1.base.keep f _ hf hfn hfr fun z => nomatch (show f ∈ ([] : List Addr) from z)
  have un : Un (frs X.stack) [] H HZ s.heap s1.heap := I1.base; obtain ⟨⟨oc, vs, tt, hoc, hdc, hvc⟩, _, _⟩ := I1.hok c' _ hco
  have runs : codeAny (model X.prog X.w) (X.A.deeper (envOfC qg sg s.heap.objs.size g cdg)) (.call (.ref f) ⟨[], []⟩) (CR (L2.CX X.prog X.w) (envOfC qg sg s.heap.objs.size g cdg :: X.stack) X.prog X.w HZ s1 Q E) s1 := by
    refine PySem.W.kla_callFunE hr.depth f1 rfl L.co L.gen rfl ⟨c', oc, vs, tt, rfl, hoc, hdc, hvc⟩ ?_; rw [hbind]
    refine wpAny_pure (wpAny_newFunctionEnv (fun y hy => (L.own y hy).2) (fun y hy => absurd hy (by simp)) (fun h₁ hns hsb => ⟨I1.nolimit.fresh _ hsb, ?_⟩) L.kind); show codeAny _ _ (.expr body (LamX.lamEnv X scope s1.heap.objs.size f c')) _ _
    have kp : ∀ b o, s1.heap.get? b = some o → h₁.get? b = some o := fun b o e => hsb.extBut b o (Nat.ne_of_lt (Heap.lt_size e)) (Heap.get?_push_of_some _ e)
    have J := LamX.lam_start2 (tk := s1.toks + ([] : List (Str × Value)).length) (E := E) (f := f) (c' := c') I L I1.env0 hr.hd un hns kp
    refine PySem.W.kla_codeExpr (wpAny_mono ((hbody s1 HZ (hr.deeper _)).run [] _ _ HZ Q J ht) ?_ fun e s' hq => hq); rintro v s' ⟨w', H', J', rv, q⟩; exact ⟨w', H', J'.os, J'.bare, J'.base, J'.hok, rv, q⟩
  have hx := passes_call (X := (cxOf CXg X.prog X.w X.K X.mg X.base Ng qg sg g cdg X.A X.stack s H Eg).tr pn xe) tk hW
  refine PySem.W.callWith_F0 ⟨_, _, _, _, f1⟩ (wpAny_call (codeAny_mono runs ?_))
  intro r s' hq
  match r, hq with
  | .error e, hq => exact hx pinsZ σZ HZ s1 e s' I1 hq
  | .ok (.ret u), hq => exact I1.after hq
  | .ok .next, hq => exact False.elim hq
  | .ok .brk, hq => exact False.elim hq
  | .ok .cont, hq => exact False.elim hq
end
/-- what is told of a value, and of what is raised: hv, hx make of each what is returned -/
def hearM (hv : D → D) (hx : Str → List D → Option D) (me : ME) : ME := fun ρ φ => match me ρ φ with
  | .ok r => .ok (.dat (hv r.1.toD), r.2)
  | .exc c xs φ' => match hx c xs with
    | some d => .ok (.dat d, φ')
    | none => .bad
  | .bad => .bad
/-- the def that hears: its body's reading -/
def Hears (X : Cx) (q : Pk) (XT : XTab) (hv : D → D) (hx : Str → List D → Option D) (tl : XK → Hp → VK → Prop) (H : Hp) (Q : VK) : Prop :=
  ∃ (P : Addr → Prop) (me : FS → Res (EV × FS)) (φ : FS), LamX.Tabs q.T H ∧ Live P H ∧ FO (q.at X.K) φ (hide P H) ∧
    (∀ (E : XK) (H1 : Hp) (Q1 : VK), Ext H H1 → (match me φ with
      | .ok r => ∀ v H', Up q.T H1 H' → FO (q.at X.K) r.2 (hide P H') → RepE (q.at X.K) P H1 H' r.1 v → Q1 v H'
      | .exc c xs φ' => ∀ cls d H', Up q.T H1 H' → FO (q.at X.K) φ' (hide P H') → XR (q.at X.K) XT (hide P H') H' c xs cls d → E cls d H'
      | .bad => False) → tl E H1 Q1) ∧
    match me φ with
      | .ok r => ∀ v H', Up q.T H H' → FO (q.at X.K) r.2 (hide P H') → Rep (q.at X.K) (hide P H') (hv r.1.toD) v → Q v H'
      | .exc c xs φ' => ∃ d, hx c xs = some d ∧ ∀ v H', Up q.T H H' → FO (q.at X.K) φ' (hide P H') → Rep (q.at X.K) (hide P H') d v → Q v H'
      | .bad => False
section
variable {X : Cx} {q : Pk} {XT : XTab} {hv : D → D} {hx : Str → List D → Option D} {me : ME}
theorem de_heard {x a : Str} {g c P : Addr} {k : Nat} {pg : Arguments} {bg : List Stmt} {sg : Scope} {dV kV doc pm cdv ct oc : Value} {an od : Option Addr} {osl : Array (Option Value)} {Ng : List Str} {params : Arguments} {body : Expr} {scope : Scope} {p lpos pos : Pos}
    (hG : X.A.guards = some []) (hg : Gl X x) (hm : X.mg x = some (.ref g)) (hk : PySem.W.keepIn X.K (.ref g) = true) (lk : X.K.lookup g = some ⟨oc, od, .func (PySem.W.fnOf x x pg bg sg dV kV doc pm an cdv ct), osl⟩) (hcg : PySem.W.codeIn X.K cdv x = true)
    (hb : L2.Binds X.K (PySem.W.fnOf x x pg bg sg dV kV doc pm an cdv ct) [a] []) (Sg : FnScope Ng [a] sg) (hNg : Ng[0]? = some a) (hva : Vis sg a) (hgv : LamX.GivesTo X Ng x sg g cdv bg a (X.env.qual ++ "<lambda>") (Hears X q XT hv hx))
    (TB : LamX.TabB X.base X.mg c P) (hcode : X.env.code = .ref c) (hmT : (P, X.env.qual ++ "<lambda>") ∈ q.T) (hu : ∀ p ∈ q.T, p.1 = P → p.2 = X.env.qual ++ "<lambda>") (hr : Room (k + 2) X.A) (L : LamX.LamS X.env.scope scope) (hdef : defaultsOf params X.env = ([], []))
    (hbind : ∀ (q : Str) (cl : List (Str × Addr)) (pm cv ctv : Value), bindArgs (PySem.W.kla_fn "<lambda>" q params body scope cl pm cv ctv) ⟨[], []⟩ = pure [])
    (hbody : ∀ (A : Around) (outer : List Env) (s : Shared) (H : Hp) (E : XK) (f c' : Addr), A.guards = some [] → Room k (A.deeper (LamX.lamEnv X scope s.heap.objs.size f c')) → Takes (LamX.lamCx X A outer s H E scope f c') (fun cls d _ H' => E cls d H') → DEX (LamX.lamCx X A outer s H E scope f c') q XT E body me)
    (hdb : (x == ("__debug__" : Str)) = false := by decide) (hd : (a == ("__debug__" : Str)) = false := by decide) (hcd : (a == ("__classdict__" : Str)) = false := by decide) :
    DE X q (.Call (.Name x p) [.Lambda params body scope lpos] [] pos) (hearM hv hx me) := by
  constructor; intro pins s σ H Q I w
  obtain ⟨P1, ρ, φ, e, φ', at0, h, kk⟩ := w
  refine wpAny_Call_Name_kw (ld_glob I hg hm ?_ hdb); refine PySem.W.callWith_K (h₀ := X.base) I.ok.mod.kin hk ?_ (by rfl) (by rfl)
  show wpAny _ _ (spliced ((false, eval (.Lambda params body scope lpos) X.env) :: backTo pos (starEach [] X.env))) _ _ s
  refine Calls.spliced_cons (lam_up I TB hcode hmT hu at0.tb hdef (L.has I.ok) ?_); intro f c' pm' ctv H1 s' I1 up1 eN hf hfn hfr hco
  refine Calls.spliced_nil ⟨I1.kIn, ?_⟩
  have vis : ∀ b o, hide P1 H b = some o → (∀ ps, o ≠ .tbl ps) → hide P1 H1 b = some o := fun b o e n => by obtain ⟨e1, e2⟩ := hide_of e; rw [hide_eq e1]; exact eN b o e2 n
  have fo1 : FO (q.at X.K) φ (hide P1 H1) := ⟨vis _ _ at0.fo.d fun ps z => (by cases z), vis _ _ at0.fo.c fun ps z => (by cases z), at0.fo.e.up fun b o s z => vis b o z fun ps y => (by rw [y] at s; exact s)⟩
  have at1 : At (q.at X.K) P1 H1 ρ φ σ := at0.next up1 fo1
  have rc : codeAny (model X.prog X.w) X.A (.call (.ref g) ⟨[.ref f], []⟩) (CR C8.CX0 X.stack X.prog X.w H1 s' Q C8.E0) s' := by
    refine LamX.run_ofS (N := Ng) (ps := [a]) (us := [.ref f]) (vs := [.ref f]) lk hcg Sg hr I1.env0 (hb s' [.ref f] I1.kIn rfl) (.cons rfl .nil) rfl fun hr' => ?_
    obtain ⟨t', ht', hq'⟩ := hgv f c' s' H1 Q (fun E H' Q' => tDX (q.at X.K) XT E me σ H' Q') (fun W pn xe E p1 p2 tk hW => act_at (i := 0) I1 L hf hfn hfr (hbind _ _ _ _ _) tk hW hr' (fun s1 H2 hr2 => hbody _ _ s1 H2 E f c' hG hr2 (takes_of rfl rfl rfl rfl)) hNg hva hd hcd) hco
      (by
        refine ⟨P1, me ρ, φ, at1.tb, at1.live, at1.fo, fun E H2 Q2 x2 k2 => ⟨P1, ρ, φ, at1.next x2.up (at1.fo.ext (hide_ext x2)), k2⟩, ?_⟩
        unfold hearM at h
        cases em : me ρ φ with
        | ok r =>
          rw [em] at h; cases h
          exact fun v H' u f r => kk v H' (up1.trans u) f r
        | exc c xs φ1 =>
          rw [em] at h
          cases eh : hx c xs with
          | none => simp only [eh] at h; cases h
          | some d =>
            simp only [eh] at h; cases h
            exact ⟨d, eh, fun v H' u f r => kk v H' (up1.trans u) f r⟩
        | bad => rw [em] at h; cases h)
    exact ⟨t', ht'.nox, hq'⟩
  refine wpAny_call (codeAny_mono rc ?_); intro r s2 hq
  match r, hq with
  | .error e, hq => exact (show False from hq).elim
  | .ok (.ret u), hq => exact I1.after hq
  | .ok .next, hq => exact False.elim hq
  | .ok .brk, hq => exact False.elim hq
  | .ok .cont, hq => exact False.elim hq
end
end VI
namespace VI
open PySem PySem.Spec PyProof.Rows L2
section
variable {X : Cx}
def rCntD (K : PySem.W.Frag) : V → List V → Hp → VK → Prop := fun x xs H Q => ∃ (a : Addr) (y : V) (d : D) (ds : List D), x = V.ref a ∧ xs = [y] ∧ Dp K H (V.ref a) (.list ds) ∧ Dp K H y d ∧ SeqAt.shaped (.list ds) = true ∧ SeqAt.shaped d = true ∧ Q (.int (ds.countP (fun z => PyData.eqv z d) : Nat)) H
theorem mt_countD (hu : X.A.units + 65 < cLine) : MtR X "list.count" (rCntD X.K) := by
  intro pins s σ H x xs v us Q I rx rxs h
  obtain ⟨a, y, d, ds, rfl, rfl, hl, hy, sl, sd, q⟩ := h; cases rx
  match us, rxs with
  | [uy], .cons ry .nil =>
    obtain ⟨bs, r1⟩ := Dp.reads I d y uy hy ry; have hxs : PyData.canLayAll0 ds = true := SeqAt.canLay_of_shaped sl; have room : X.A.units + 1 + min (PyData.depthAll ds) d.depth < cLine := room_in_shaped sd hu
    cases hl with
    | lst hs ha =>
      obtain ⟨its, rv, ⟨⟨cls, dd, data, sls⟩, n, ho, hc, hdn, hdt⟩, hlen⟩ := I.list hs; simp only at hc hdt; subst hc hdt
      obtain ⟨as, h4⟩ := Dp.readsAll I ds _ its ha rv; have hmap : its.map (SeqAt.readOf s.heap) = ds := SeqAt.readsAll_map ds its as hxs h4
      refine call_meets PySem.F.slot_list_count ⟨_, ho, rfl⟩ PySem.F.entry_list_count (PySem.F.args_list_count_2 _ _) (SeqAt.list_countAt a its.toArray n dd sls uy fun u => PyData.eqv (SeqAt.readOf s.heap u) d) ⟨ho, SeqAt.items_eqAt (vs := its.toArray) (show ReadsAll s.heap its.toArray.toList ds as from h4) r1 hxs (SeqAt.canLay_of_shaped sd) room, ?_⟩
      have ec : its.toArray.toList.countP (fun u => PyData.eqv (SeqAt.readOf s.heap u) d) = ds.countP fun z => PyData.eqv z d := by rw [← hmap, List.countP_map]; rfl
      refine ⟨.int (ds.countP (fun z => PyData.eqv z d) : Nat), H, I.tok _, ⟨s.toks, ?_⟩, q⟩; show Value.int ((its.toArray.toList.countP _ : Nat) : Int) s.toks = Value.int _ s.toks; rw [ec]
end
def cntG : D → D → Res EV
  | .list ds, d => if SeqAt.shaped (.list ds) = true ∧ SeqAt.shaped d = true then .ok (.dat (.int (ds.countP (fun z => PyData.eqv z d) : Nat))) else .bad
  | _, _ => .bad
section
variable {X : Cx} {q : Pk} {a b : Expr} {ma mb : ME} {pos : Pos}
theorem de_count {apos : Pos} (hu : X.A.units + 65 < cLine) (ha : DE X q a ma) (hb : DE X q b mb) (hbase : attributeBase a "count" X.env (eval a X.env) = eval a X.env := by rfl)
    (hfew : ((backTo pos (starEach [b] X.env)).all (fun x => !x.1) && (backToKw pos (keywordEach [] X.env)).all (fun x => x.1.isSome) && decide ([b].length + ([] : List Keyword).length + (if ([] : List Keyword).isEmpty then 0 else 1) < 30)) = true := by rfl)
    (hline : (apos.endLine == pos.line) = true := by rfl) (hs : starEach [b] X.env = (false, eval b X.env) :: starEach [] X.env := by rfl) : DE X q (.Call (.Attribute a "count" apos) [b] [] pos) (op2 cntG ma mb) :=
  (pe_bm PySem.F.plainAttrs_list PySem.F.slot_list_count PySem.F.type_list_count (mt_countD hu) ha (pa_cons hb pa_nil hs) hbase hfew hline hs).imp fun σ H Q w => by
    obtain ⟨P, ρ, φ, e, φ', a, h, k⟩ := w
    obtain ⟨e1, φ1, e2, h1, h2, h3⟩ := op2_ok h
    unfold cntG at h3
    split at h3
    · rename_i ds he1
      split at h3
      · rename_i hz
        cases h3
        refine part a h1 fun v1 H1 a1 u1 r1 => ?_
        have q1 := r1.rep a.live
        rw [he1] at q1
        have q1' := q1
        obtain ⟨c, xs, rfl, g1, g2⟩ := q1
        refine ⟨.inl ⟨rfl, xs, SqL.of (hide_of g1).2⟩, ?_⟩
        refine part a1 h2 fun v2 H2 a2 u2 r2 => ?_
        have q2 := r2.rep a1.live
        have rl : Rep (q.at X.K) (hide P H2) (.list ds) (.ref c) := Rep.up (hide_up u2) ⟨c, xs, rfl, g1, g2⟩
        exact ⟨c, v2, e2.toD, ds, rfl, rfl, dp_of _ _ (SeqAt.canLay_of_shaped hz.1) (fun a o z => (hide_of z).2) rl, dp_of _ _ (SeqAt.canLay_of_shaped hz.2) (fun a o z => (hide_of z).2) q2, hz.1, hz.2, k _ H2 (u1.trans u2) a2.fo rfl⟩
      · cases h3
    · cases h3
end
/-- the datum that stands for it -/
def errD : D := .dict [(.none, .none)]
def isErr (i : Nat) (ρ : Env') : Bool := match ρ[i]? with
  | some (some (.dict (_ :: _))) => true
  | _ => false
def isxM (b : Bool) (i : Nat) : ME := fun ρ φ => if isErr i ρ = true then .ok (.dat (.bool b), φ) else .bad
def xfM (d : D) (i : Nat) : ME := fun ρ φ => if isErr i ρ = true then .ok (.dat d, φ) else .bad
theorem isErr_ok {p : Pr} {G : Hp} {ρ : Env'} {σ : L2.St} {i : Nat} {x : Ex} (a : EnvR p G ρ σ) (hx : p.ex = some x) (h : isErr i ρ = true) : σ[i]? = some (some (.ref x.ea)) := by
  unfold isErr at h
  split at h
  · rename_i y kv e
    obtain ⟨v, e1, x', e2, e3⟩ := a.has i _ e
    rw [hx] at e2
    cases e2
    rw [e1, e3]
  · cases h
section
variable {X : Cx} {q : Pk} {a D : Addr} {dd : Addr} {oe : Obj} {pn : List (Addr × Obj)} {fs : List (Str × V)} {vs : List V} {ds : List VI.D} {e k : Expr} {i : Nat} {p pos : Pos}
theorem de_isx {b : Bool} {c : V} {cv : Value} (hq : q.ex = some ⟨a, dd, fs, vs, ds⟩) (C : ExcC X.K D) (hz : Zc (.ref D) (some dd) oe) (hf : ∃ vs, oe.data = .fields vs) (he : PE (X.suite a ((a, oe) :: pn)) e (tVar i)) (hk : PE (X.suite a ((a, oe) :: pn)) k (tC c)) (hcv : ∀ u, RelV c u → u = cv) (hb : PySem.W.kitOne X.K (.ref D) cv = some b)
    (hg : Gl X "isinstance") (hm : X.mg "isinstance" = none) (h0 : starEach [e, k] X.env = (false, eval e X.env) :: starEach [k] X.env := by rfl) (h1 : starEach [k] X.env = (false, eval k X.env) :: starEach [] X.env := by rfl) (hpl : (backTo pos (starEach [k] X.env)).any (·.1) = false := by rfl) :
    DE (X.suite a ((a, oe) :: pn)) q (.Call (.Name "isinstance" p) [e, k] [] pos) (isxM b i) :=
  (pe_callB (X := X.suite a ((a, oe) :: pn)) (call_isX C hz hf) hg hm (by decide +kernel) (pa_cons he (pa_cons hk pa_nil h1) h0) (by decide) (by decide) h0 hpl).imp fun σ H Q w => by
    obtain ⟨P, ρ, φ, e1, φ', at0, h, kk⟩ := w
    unfold isxM at h
    split at h
    · rename_i hi
      cases h
      refine ⟨_, isErr_ok at0.env hq hi, ⟨fs, (hide_of (at0.fo.e _ hq).1).2⟩, c, cv, b, rfl, hcv, hb, ?_⟩
      exact kk _ H (Up.refl H) at0.fo rfl
    · cases h
theorem de_xf {n : Str} {d : VI.D} {v : V} {j : Nat} (hq : q.ex = some ⟨a, dd, fs, vs, ds⟩) (T : XfC X.K D) (hno : PySem.W.findIn X.K (.ref D) n = some none) (hz : Zc (.ref D) (some dd) oe) (hf : ∃ vs, oe.data = .fields vs) (he : PE (X.suite a ((a, oe) :: pn)) e (tVar i)) (hl : fs.lookup n = some v) (hv : vs[j]? = some v) (hd : ds[j]? = some d)
    (hb : attributeBase e n X.env (eval e X.env) = eval e X.env := by rfl) : DE (X.suite a ((a, oe) :: pn)) q (.Attribute e n pos) (xfM d i) :=
  (pe_xf T hno hz hf he hb).imp fun σ H Q w => by
    obtain ⟨P, ρ, φ, e1, φ', at0, h, kk⟩ := w
    unfold xfM at h
    split at h
    · rename_i hi
      cases h
      have E := at0.fo.e _ hq
      obtain ⟨v', e1, r1⟩ := E.2.get hd
      rw [show (Ex.vs ⟨a, dd, fs, vs, ds⟩) = vs from rfl, hv] at e1
      cases e1
      exact ⟨_, isErr_ok at0.env hq hi, rfl, rfl, dd, fs, v, rfl, (hide_of E.1).2, hl, kk v H (Up.refl H) at0.fo r1⟩
    · cases h
end
end VI
namespace VI
open PySem PySem.Spec PyProof.Rows L2
section
variable {p p' : Pr} {G : Hp}
mutual
theorem Rep.swap (hK : p'.K = p.K) : ∀ {d : D} {v : V}, d.canLay0 = true → Rep p G d v → Rep p' G d v
  | .none, _, _, h => h
  | .bool _, _, _, h => h
  | .int _, _, _, h => h
  | .str _, _, _, h => h
  | .list _, _, c, h => by
    obtain ⟨a, xs, e, h1, h2⟩ := h
    exact ⟨a, xs, e, h1, RepAll.swap hK (by simpa only [PyData.canLay0] using c) h2⟩
  | .tuple _, _, c, h => by
    obtain ⟨a, xs, e, h1, h2⟩ := h
    exact ⟨a, xs, e, by rw [hK]; exact h1, RepAll.swap hK (by simpa only [PyData.canLay0] using c) h2⟩
  | .dict _, _, c, _ => by simp [PyData.canLay0] at c
theorem RepAll.swap (hK : p'.K = p.K) : ∀ {ds : List D} {vs : List V}, PyData.canLayAll0 ds = true → RepAll p G ds vs → RepAll p' G ds vs
  | [], _, _, h => h
  | _ :: _, _, c, h => by
    obtain ⟨v, r, e, h1, h2⟩ := h
    simp only [PyData.canLayAll0, Bool.and_eq_true] at c
    exact ⟨v, r, e, Rep.swap hK c.1 h1, RepAll.swap hK c.2 h2⟩
end
end
/-- where the suite begins: the error alone is known -/
def errS (n i : Nat) : EnvS := (List.replicate n none).set i (some (.dat errD))
theorem errS_at {n i j : Nat} {e : EV} (h : (errS n i)[j]? = some (some e)) : j = i ∧ e = .dat errD := by
  unfold errS at h
  by_cases hj : i = j
  · subst hj
    rw [List.getElem?_set] at h
    split at h
    · split at h
      · cases h; exact ⟨rfl, rfl⟩
      · cases h
    · rename_i z; exact absurd rfl z
  · rw [List.getElem?_set_ne hj, List.getElem?_replicate] at h
    split at h <;> cases h
theorem stR_err {p : Pr} {H : Hp} {P : Addr → Prop} {n i : Nat} {φ : FS} {σ : L2.St} {x : Ex} (hx : p.ex = some x) (tb : LamX.Tabs p.T H) (l : Live P H) (f : FO p φ (hide P H)) (hn : σ.length = n) (hi : i < n) (hs : σ[i]? = some (some (.ref x.ea))) : StR p H P H (errS n i) φ σ := by
  have noown : ∀ j a, ¬ OwnS (errS n i) σ j a := fun j a ⟨⟨es, h⟩, _⟩ => by
    obtain ⟨_, e⟩ := errS_at h
    cases e
  have hid : Hid P (errS n i) σ = P := by
    funext b
    exact propext ⟨fun z => z.elim id fun ⟨j, h⟩ => (noown j b h).elim, .inl⟩
  refine ⟨⟨?_, l, Up.refl H, fun j d h => ?_, fun j es h => ?_, fun j k a h => (noown j a h).elim⟩, by rw [hid]; exact f, tb⟩
  · unfold errS
    rw [List.length_set, List.length_replicate, hn]
  · obtain ⟨rfl, e⟩ := errS_at h
    cases e
    exact ⟨_, hs, x, hx, rfl⟩
  · obtain ⟨_, e⟩ := errS_at h
    cases e
section
variable {X : Cx} {q : Pk} {XT : XTab} {hx : Str → List D → Option D}
/-- the suite, of an error of the class c with these fields -/
def SuiteOk (X0 : Cx) (q : Pk) (XT : XTab) (sts : List Stmt) (mS : Str → List D → MS) : Prop :=
  ∀ (a dd C : Addr) (oe : Obj) (pn : List (Addr × Obj)) (c : Str) (ns : List Str) (fs : List (Str × V)) (vs : List V) (xs : List D), XT c = some (C, ns) → Zc (.ref C) (some dd) oe → (∃ vs, oe.data = .fields vs) → vs.length = ns.length → xs.length = ns.length →
    (∀ (i : Nat) (n : Str) (v : V), ns[i]? = some n → vs[i]? = some v → fs.lookup n = some v) → DSs (X0.suite a ((a, oe) :: pn)) ⟨q.fa, q.ca, q.k2, q.k3, q.k4, q.T, some ⟨a, dd, fs, vs, xs⟩⟩ sts (mS c xs)
theorem gives_told {Ng : List Str} {x a n en told qn : Str} {sg : Scope} {g CF : Addr} {cdg : Value} {i j kt : Nat} {b₀ : Stmt} {suite : List Stmt} {mS : Str → List D → MS} {p1 p2 p3 p4 p5 p6 p7 p8 : Pos} {ps : List Str} (hge : sg.names.lookup en = some .globalImplicit) (hme : X.mg en = some (.ref CF)) (hde : (en == ("__debug__" : Str)) = false)
    (Sg : FnScope Ng ps sg) (h0 : ∀ f : Addr, (L2.start Ng [V.ref f])[0]? = some (some (V.ref f))) (hi : Ng[i]? = some n) (hln : sg.names.lookup n = some .local)
    (hexm : ∀ c C ns, XT c = some (C, ns) → PySem.W.exmOne X.K (.ref C) (.ref CF) = some true) (hS : ∀ (s : Shared) (H : Hp), SuiteOk (cxOf C8.CX0 X.prog X.w X.K X.mg X.base Ng x sg g cdg X.A X.stack s H C8.E0).nox q XT (b₀ :: suite) mS)
    (hm : ∀ c xs d φ, hx c xs = some d → PyData.canLayAll0 xs = true ∧ d.canLay0 = true ∧ ∃ ρ', mS c xs (errS Ng.length i) φ = .ok (.ret (.dat d), ρ', φ)) :
    LamX.GivesTo X Ng x sg g cdg [.Try [.Return (some (.Tuple [.Constant (.str told) j p1, .Call (.Name a p2) [] [] p3] kt p4)) p5] [.ExceptHandler (some (.Name en p6)) (some n) (b₀ :: suite) p7] [] [] p8] a qn (Hears X q XT (fun d => .tuple [.str told, d]) hx) := by
  intro f c' s H Q tl act hco hH
  have hgl : Gl (cxOf C8.CX0 X.prog X.w X.K X.mg X.base Ng x sg g cdg X.A X.stack s H C8.E0).nox en := hge
  have ilt : i < Ng.length := (List.getElem?_eq_some_iff.mp hi).1
  refine ⟨_, pss_one (ps_try_as (X := (cxOf C8.CX0 X.prog X.w X.K X.mg X.base Ng x sg g cdg X.A X.stack s H C8.E0).nox) (i := i) (c := .ref CF)
      (tb := fun (W : WX) (D : Ends) (σ : L2.St) (H : Hp) => ∃ Ech : XK, (∀ cls d σ' H', Ech cls d H' → W cls d σ' H') ∧ σ[0]? = some (some (.ref f)) ∧ H c' = some (LamX.CodeO c' qn) ∧ tl Ech H fun v H1 => [V.str told, v].length ≤ sizeLine ∧ NewT [.str told, v] H1 D.rt)
      (ts := fun (a : Addr) (cls : Value) (d : Option Addr) (D : Ends) (σ : L2.St) (H : Hp) => (∃ σ' : L2.St, σ = σ'.set i (some (V.ref a))) ∧ ∃ (P : Addr → Prop) (c : Str) (xs : List VI.D) (φ : FS) (dr : VI.D), LamX.Tabs q.T H ∧ Live P H ∧ FO (q.at X.K) φ (hide P H) ∧ XR (q.at X.K) XT (hide P H) H c xs cls d ∧ xs.length = (match XT c with | some z => z.2.length | none => 0) ∧ hx c xs = some dr ∧
        ∀ v H', Up q.T H H' → FO (q.at X.K) φ (hide P H') → Rep (q.at X.K) (hide P H') dr v → D.rt v H')
      rfl rfl Sg.nd hi hln ⟨hgl, hde, .inl hme⟩ LamX.takes0 (fun W pn xe tk _ => ?_) (fun a oe cls d pn hz hf => ?_)), ?_⟩
  · refine ⟨fun pins s' σ H' D I h' => ?_⟩
    obtain ⟨Ech, hW, h1, h2, h3⟩ := h'
    have hp := act W pn xe Ech p2 p3 tk hW
    exact (pss_one (ps_ret (pos := p5) (pe_tupN (pa_cons pe_str (pa_cons hp pa_nil))))).run pins s' σ H' D I ⟨h1, h2, h3⟩
  · refine ⟨fun pins s' σ H' D I h' => ?_⟩
    obtain ⟨⟨σ', rfl⟩, P, c, xs, φ, dr, tb0, lv, fo, ⟨C, dd, ns, fs, vs, hX, rfl, rfl, hd, ra, hl, hlk⟩, hxl, hdr, kk⟩ := h'
    rw [hX] at hxl
    obtain ⟨cx, cd, ρ', hmS⟩ := hm c xs dr φ hdr
    have len : (σ'.set i (some (V.ref a))).length = Ng.length := I.len
    refine (hS s H a dd C oe pn c ns fs vs xs hX hz hf hl hxl hlk).run pins s' _ H' D I ?_
    have fo' : FO (Pk.at ⟨q.fa, q.ca, q.k2, q.k3, q.k4, q.T, some ⟨a, dd, fs, vs, xs⟩⟩ X.K) φ (hide P H') := ⟨fo.d, fo.c, fun x e => by
      cases e
      exact ⟨hd, RepAll.swap (p := q.at X.K) (p' := Pk.at ⟨q.fa, q.ca, q.k2, q.k3, q.k4, q.T, some ⟨a, dd, fs, vs, xs⟩⟩ X.K) rfl cx ra⟩⟩
    refine ⟨H', P, errS Ng.length i, φ, _, stR_err (x := ⟨a, dd, fs, vs, xs⟩) rfl tb0 lv fo' len ilt ?_, hmS, ?_⟩
    · rw [List.length_set] at len
      rw [List.getElem?_set_self (by rw [len]; exact ilt)]
    · intro v H'' u f2 r
      exact kk v H'' u ⟨f2.d, f2.c, fo.e.up (hide_up u)⟩ (Rep.swap (p := Pk.at ⟨q.fa, q.ca, q.k2, q.k3, q.k4, q.T, some ⟨a, dd, fs, vs, xs⟩⟩ X.K) (p' := q.at X.K) rfl cd r)
  · obtain ⟨P, me, φ, tb0, lv, fo, act', res⟩ := hH
    refine ⟨fun cls d H' => ∃ c xs φ', me φ = .exc c xs φ' ∧ Up q.T H H' ∧ FO (q.at X.K) φ' (hide P H') ∧ XR (q.at X.K) XT (hide P H') H' c xs cls d, fun cls d σ' H' hE => ?_, h0 f, hco, ?_⟩
    · obtain ⟨c, xs, φ', em, u, f', xr⟩ := hE
      rw [em] at res
      obtain ⟨dr, hdr, kk⟩ := res
      have xr0 := xr
      obtain ⟨C, dd, ns, fs, vs, hX, rfl, rfl, hd, ra, hl, hlk⟩ := xr
      refine ⟨true, hexm _ _ _ hX, fun _ a na => ⟨⟨σ', rfl⟩, P, c, xs, φ', dr, u.tab tb0, lv.up u, f', xr0, ?_, hdr, fun v H'' u2 f2 r2 => kk v H'' (u.trans u2) f2 r2⟩, fun z => by cases z⟩
      rw [hX]
      exact ra.len.symm.trans hl
    · refine act' _ H _ (Ext.refl H) ?_
      cases em : me φ with
      | ok r =>
        rw [em] at res
        intro v H' u f2 r2
        refine ⟨by rw [sizeLine_eq]; show 2 ≤ _; decide, fun t o nt hd => res _ _ (u.trans (Ext.new nt).up) (f2.ext (hide_ext (Ext.new nt))) ?_⟩
        exact rep_newT (lv.up u) ⟨_, _, rfl, rfl, _, _, rfl, r2.rep lv, rfl⟩ nt hd
      | exc c xs φ' => exact fun cls d H' u f2 x2 => ⟨c, xs, φ', rfl, u, f2, x2⟩
      | bad =>
        rw [em] at res
        exact res
end
end VI
namespace VI
open PySem PySem.Spec PyProof.Rows L2
section
variable {P : Program} {w : World} {K : PySem.W.Frag} {mg mb : Str → Option Value} {s : Shared} {a : Addr} {vs : List Value} {ns : List Int} {cs : List (Addr × Addr)}
abbrev tabO (ps : Array Value) : Obj := { cls := .none, data := .fields ps }
/-- the script, as it may be, and the tables, which are empty -/
theorem scr_tabs (X : K.In s.heap) (ha : s.heap.get? a = some { cls := .type "list", data := .seq vs.toArray }) (hi : IntsAre vs ns) (hl : ns.length ≤ sizeLine) (hT : ∀ p ∈ cs, s.heap.get? p.2 = some (tabO #[])) (nT : ∀ p ∈ cs, K.lookup p.2 = none) :
    ∃ H : Hp, HOk P w H s.heap ∧ SqL K H a (ns.map V.int) ∧ (∀ p ∈ cs, H p.2 = some (.tbl #[])) ∧ ∀ b, H b = none ∨ (b = a ∧ H b = some (.frz { cls := .type "list", data := .seq vs.toArray } (.lst (ns.map V.int))) ∧ K.lookup b = none) ∨ ((∃ p ∈ cs, p.2 = b) ∧ H b = some (.tbl #[]) ∧ s.heap.get? b = some (tabO #[]) ∧ K.lookup b = none) := by
  classical
  have na : ¬ ∃ p ∈ cs, p.2 = a := fun ⟨p, hp, e⟩ => by have z := hT p hp; rw [e, ha] at z; cases z
  have rv := vals_ints hi
  cases hk : K.lookup a with
  | some o =>
    have e := X a o hk; rw [ha] at e; cases e
    refine ⟨fun b => if ∃ p ∈ cs, p.2 = b then some (.tbl #[]) else none, fun b u z => ?_, .inr ⟨_, vs.toArray, _, hk, rfl, rfl, rfl, by rw [List.size_toArray, hi.length]; exact hl, by simpa using rv⟩, fun p hp => if_pos ⟨p, hp, rfl⟩, fun b => ?_⟩
    · dsimp only at z
      by_cases hb : ∃ p ∈ cs, p.2 = b
      · rw [if_pos hb] at z; cases z; obtain ⟨p, hp, rfl⟩ := hb; exact hT p hp
      · rw [if_neg hb] at z; cases z
    · by_cases hb : ∃ p ∈ cs, p.2 = b
      · obtain ⟨p, hp, e⟩ := id hb; exact .inr (.inr ⟨hb, if_pos hb, by rw [← e]; exact hT p hp, by rw [← e]; exact nT p hp⟩)
      · exact .inl (if_neg hb)
  | none =>
    refine ⟨fun b => if b = a then some (.frz { cls := .type "list", data := .seq vs.toArray } (.lst (ns.map V.int))) else if ∃ p ∈ cs, p.2 = b then some (.tbl #[]) else none, fun b u z => ?_, .inl (.inr ⟨_, if_pos rfl⟩), fun p hp => ?_, fun b => ?_⟩
    · dsimp only at z
      by_cases hba : b = a
      · rw [if_pos hba] at z; cases z; rw [hba]; exact ⟨ha, by rw [List.length_map]; exact hl, vs, _, rv, ha⟩
      · rw [if_neg hba] at z
        by_cases hb : ∃ p ∈ cs, p.2 = b
        · rw [if_pos hb] at z; cases z; obtain ⟨p, hp, rfl⟩ := hb; exact hT p hp
        · rw [if_neg hb] at z; cases z
    · dsimp only; rw [if_neg fun z => na ⟨p, hp, z⟩, if_pos ⟨p, hp, rfl⟩]
    · by_cases hba : b = a
      · exact .inr (.inl ⟨hba, if_pos hba, by rw [hba]; exact hk⟩)
      · by_cases hb : ∃ p ∈ cs, p.2 = b
        · obtain ⟨p, hp, e⟩ := id hb; exact .inr (.inr ⟨hb, by dsimp only; rw [if_neg hba, if_pos hb], by rw [← e]; exact hT p hp, by rw [← e]; exact nT p hp⟩)
        · exact .inl (by dsimp only; rw [if_neg hba, if_neg hb])
theorem law_runsT {k : Nat} {fa : Addr} {fd : FuncData} {x : Str} {T : (Addr × Addr) → List Str} (X : K.In s.heap) (ha : s.heap.get? a = some { cls := .type "list", data := .seq vs.toArray }) (hi : IntsAre vs ns) (hT : ∀ p ∈ cs, s.heap.get? p.2 = some (tabO #[])) (nT : ∀ p ∈ cs, K.lookup p.2 = none)
    (C : ∀ p ∈ cs, PySem.W.CodeHd s.heap p.1 p.2) (hbm : ∃ (bm : Addr) (ob : Obj), mg "__builtins__" = some (.ref bm) ∧ bm ≠ builtinsNs ∧ s.heap.get? bm = some ob ∧ ob.cls = .type "module" ∧ ob.dict = some builtinsNs ∧ ob.data = .plain)
    (g : s.heap.Ns mainGlobals mg) (b : s.heap.Ns builtinsNs mb) (bb : ∀ x : Str, x ≠ "__name__" → mb x = bootBuiltins x) (lim : s.heap.NoLimit) (hg : s.gens = #[]) (hr : Room k callerA) (hl : ns.length ≤ 63) {Tq : List (Addr × Str)} (hTq : ∀ p ∈ Tq, ∃ c ∈ cs, c.2 = p.1)
    (F : ∀ base : Heap, K.In base → base.Ns mainGlobals mg → (∀ p ∈ cs, LamX.TabB base mg p.1 p.2) → FnG P w K mg base CX0 k fa fd [x] (spLaw K Tq)) (bind : ∀ (s : Shared) (u : Value), BindsTo s fd ⟨[u], []⟩ [(x, u)]) :
    codeAny (model P w) callerA (.call (.ref fa) ⟨[.ref a], []⟩) (fun r s' => r = .ok (.ret (.bool true)) ∧ OldK s.heap s'.heap ∧ s'.os = s.os ∧ AllBare s'.gens) s := by
  obtain ⟨H, ok, sq, tb, one⟩ := scr_tabs (P := P) (w := w) X ha hi (by rw [sizeLine_eq]; omega) hT nT
  have free : ∀ {c : Addr} {o : Obj}, s.heap.get? c = some o → (∀ vs n, o.data ≠ .seq vs n) → o.data ≠ .fields #[] → H c = none := fun {c o} e h1 h2 => by
    rcases one c with z | ⟨rfl, _, _⟩ | ⟨_, _, z, _⟩
    · exact z
    · rw [ha] at e; cases e; exact (h1 _ _ rfl).elim
    · rw [z] at e; cases e; exact (h2 rfl).elim
  have in' : K.In (hidT s.heap H) := fun c o e => hidT_get (X c o e) (by
    rcases one c with z | ⟨_, _, z⟩ | ⟨_, _, _, z⟩
    · exact z
    · rw [z] at e; cases e
    · rw [z] at e; cases e)
  have ns' : ∀ {c : Addr} {m : Str → Option Value}, s.heap.Ns c m → (hidT s.heap H).Ns c m := fun {c m} ⟨o, es, ep, e, d, r⟩ => ⟨o, es, ep, hidT_get e (free e (fun vs n z => by rw [d] at z; cases z) fun z => by rw [d] at z; cases z), d, r⟩
  have TB : ∀ p ∈ cs, LamX.TabB (hidT s.heap H) mg p.1 p.2 := fun p hp => by
    refine ⟨?_, ?_, fun z => ?_⟩
    · obtain ⟨o, us, file, tf, flags, tg, inF, text, tt, e1, r1, r2, r3, r4, r5, r6, r7, r8, hne⟩ := C p hp
      exact ⟨o, us, file, tf, flags, tg, inF, text, tt, hidT_get e1 (free e1 (fun vs n z => by rw [r2] at z; cases z) fun z => by rw [r2] at z; cases z; simp at r3), r1, r2, r3, r4, r5, r6, r7, r8, hne⟩
    · obtain ⟨bm, ob, b1, b2, b3, b4, b5, b6⟩ := hbm
      have n1 : bm ≠ mainGlobals := fun q => by obtain ⟨o, es, ep, e, hd, _⟩ := g; rw [q, e] at b3; cases b3; rw [hd] at b6; cases b6
      have n2 : bm ≠ p.2 := fun q => by rw [q, hT p hp] at b3; cases b3; cases b6
      exact ⟨bm, ob, b1, b2, n1, n2, hidT_get b3 (free b3 (fun vs n z => by rw [b6] at z; cases z) fun z => by rw [b6] at z; cases z), b4, b5, b6⟩
    · obtain ⟨o, es, ep, e, hd, _⟩ := g; rw [z, hT p hp] at e; cases e; cases hd
  obtain ⟨mc, l1, l2⟩ := lim
  have e0 : Env0 P w K mg (hidT s.heap H) callerA [] s H := ⟨rfl, ⟨in', ns' g, ⟨mb, ns' b, bb⟩, ⟨mc, ns' l1, l2⟩⟩, fun c o e => of_hidT e, Nat.le_of_eq (hidT_size _ _), trivial, fun c m => (by cases (show c ∈ ([] : List Addr) from m)), ok, .of_eq hg⟩
  have tq : LamX.Tabs Tq H := fun p hp => by obtain ⟨c, hc, e⟩ := hTq p hp; exact LamX.TabS.nil (by rw [← e]; exact tb c hc)
  refine codeAny_mono ((F _ in' (ns' g) TB).go callerA [] s H ⟨[.ref a], []⟩ [.ref a] [.ref a] (fun v _ => v = .bl true) (fun _ _ _ => False) rfl hr e0 (bind s (.ref a)) (.cons rfl .nil) ⟨a, ns, tq, rfl, sq, hl, fun _ => rfl⟩) ?_
  intro r s' h
  match r, h with
  | .error e, h => exact False.elim h
  | .ok .next, h => exact False.elim h
  | .ok .brk, h => exact False.elim h
  | .ok .cont, h => exact False.elim h
  | .ok (.ret u), h =>
    obtain ⟨v, H', os, bare, un, ok', rv, ev⟩ := h
    have ev' : v = .bl true := ev
    subst ev'; obtain rfl : u = Value.bool true := rv
    have key : ∀ c o, s.heap.get? c = some o → s'.heap.get? c = some o ∨ ∃ p ∈ cs, p.2 = c ∧ ∃ more : Array Value, s'.heap.get? c = some (tabO more) := fun c o e => by
      rcases one c with z | ⟨_, z, _⟩ | ⟨⟨p, hp, rfl⟩, z, _, _⟩
      · exact .inl (un.keep c o e z (fun m => by cases (show c ∈ ([] : List Addr) from m)) (by simp))
      · have z2 := un.frzs c _ _ z; obtain ⟨e1, _⟩ := ok c _ z; obtain ⟨e2, _⟩ := ok' c _ z2; rw [e] at e1; cases e1; exact .inl e2
      · obtain ⟨more, q⟩ := un.tbls p.2 #[] z; exact .inr ⟨p, hp, rfl, _, ok' p.2 _ q⟩
    refine ⟨rfl, ⟨fun c o e => ?_, fun c o e => ?_⟩, os, bare⟩
    · rcases key c o e with z | ⟨p, hp, rfl, more, z⟩
      · exact .inl z
      · rw [hT p hp] at e; cases e
        exact .inr (.inl ⟨((C p hp).tab (hT p hp)).isCodeTable, rfl, #[], more, rfl, by rw [Array.empty_append]; exact z⟩)
    · rcases key c o e with z | ⟨p, hp, rfl, more, z⟩
      · exact ⟨o, z⟩
      · exact ⟨_, z⟩
/-- the goal behind the head: F gives the written part and the law's promise -/
theorem walkX {l : PySem.W.OpenLaw} {k : Nat} {q : Program} {loose : List Str} {XP : (Str → Option Value) → Heap → Prop} {YP : World → Heap → Prop} {d : DefRec} {x : Str} (hn : l.most = some 63) (hdf : d.params.defaults = []) (hr : Room k callerA)
    (F : ∀ (w : World) (mg : Str → Option Value) (fa : Addr) (h : Heap), YP w h → h.Ns mainGlobals mg → mg d.name = some (.ref fa) → ∃ (K : PySem.W.Frag) (fd : FuncData) (cs : List (Addr × Addr)) (Tq : List (Addr × Str)), K.In h ∧ (∀ p ∈ cs, h.get? p.2 = some (tabO #[])) ∧ (∀ p ∈ cs, K.lookup p.2 = none) ∧ (∀ p ∈ cs, PySem.W.CodeHd h p.1 p.2) ∧
      (∀ p ∈ Tq, ∃ c ∈ cs, c.2 = p.1) ∧ (∀ (s : Shared) (u : Value), BindsTo s fd ⟨[u], []⟩ [(x, u)]) ∧ ∀ base : Heap, K.In base → base.Ns mainGlobals mg → (∀ p ∈ cs, LamX.TabB base mg p.1 p.2) → FnG l.prog w K mg base CX0 k fa fd [x] (spLaw K Tq)) :
    PySem.W.WalkO q loose XP YP l.row.toRowW d [] (fun f vs => PySem.call f vs) := by
  refine Att.attach_callB hn hdf ?_
  intro w s₀ s₁ mg mb fa o pm cd doc a vs ns G Y ho hd hcd hmg hobj hints hlen hbits hg
  obtain ⟨K, fd, cs, Tq, X, hT, nT, C, hTq, hb, hF⟩ := F w mg fa _ Y G.T.g hmg
  exact law_runsT (T := fun _ => []) X hobj hints hT nT C G.T.bmain G.T.g G.T.b G.T.builtins G.T.nolimit hg hr hlen hTq hF hb
end
end VI
namespace VI
open PySem PySem.Spec PyProof.Rows L2
/-- the class object, its own classes ahead of ValueError's -/
def clsB (K : PySem.W.Frag) (C : Addr) : Bool := match K.lookup C with
  | some ⟨.type "type", _, .cls cd, sl⟩ => (match cd.mro, sl.toList with
    | .ref C' :: bm, [_, _, _, _, some (.builtin z), _] => C' == C && (z == "ValueError.__new__" && (!cd.hasDel && (cd.hasDict && PySem.HandSPX.refsVE bm)))
    | _, _ => false)
  | _ => false
theorem clsB_ok {K : PySem.W.Frag} {C : Addr} (h : clsB K C = true) : ∃ nm q N bs bm sn sub ab col dd k0 k1 k2 k3 k5, K.lookup C = some (excClassObj nm q C N bs bm true sn sub ab col dd k0 k1 k2 k3 k5 "ValueError.__new__") ∧ PySem.HandSPX.refsVE bm = true := by
  unfold clsB at h; split at h
  · rename_i dd cd sl ho; split at h
    · rename_i C' bm k0 k1 k2 k3 z k5 hm hs
      simp only [Bool.and_eq_true, beq_iff_eq, Bool.not_eq_true'] at h
      obtain ⟨rfl, rfl, hdel, hdi, hv⟩ := h; obtain ⟨nm, bs, mro, ns, qn, hd, sn, sub, ab, col, del⟩ := cd; dsimp only at hm hdel hdi; subst hm hdel hdi
      have e : sl = #[k0, k1, k2, k3, some (.builtin "ValueError.__new__"), k5] := by obtain ⟨l⟩ := sl; simp only at hs; rw [hs]
      subst e; exact ⟨nm, qn, ns, bs, bm, sn, sub, ab, col, dd, k0, k1, k2, k3, k5, ho, hv⟩
    · cases h
  · cases h
/-- all that is asked of an error class that is raised: ns its fields -/
def errB (K : PySem.W.Frag) (C fI : Addr) (ns : List Str) : Bool := clsB K C && (decide (PySem.W.findIn K (.ref C) "__setattr__" = some (some (.builtin "object.__setattr__"))) && (decide (PySem.W.subIn K (.ref C) (.type "BaseException") = some true) && (decide (PySem.W.typeIn K (.ref C) = some (.type "type")) && (PySem.W.keepIn K (.ref C) &&
  (ns.all (fun n => decide (PySem.W.findIn K (.ref C) n = some none)) && (decide (PySem.W.findIn K (.ref C) "__init__" = some (some (.ref fI))) && (decide (PySem.W.typeIn K (.ref fI) = some (.type "function")) && (xfB K C && (decide (PySem.W.findIn K (.ref C) "__class__" = some (some (.builtin "object.__class__"))) &&
  (decide (PySem.W.specialIn K (.builtin "object.__class__") "__get__" = some (some (.builtin "getset_descriptor.__get__"))) && (decide (PySem.W.takesIn K (.builtin "object.__class__") = some true) && decide (PySem.W.mroIn K C (.type "object") = some true))))))))))))
structure ErrC (K : PySem.W.Frag) (C fI : Addr) (ns : List Str) : Prop where
  o : OexC K C
  no : ∀ n ∈ ns, PySem.W.findIn K (.ref C) n = some none
  iC : PySem.W.findIn K (.ref C) "__init__" = some (some (.ref fI))
  tI : PySem.W.typeIn K (.ref fI) = some (.type "function")
  xf : XfC K C
  ec : ExcC K C
theorem errB_ok {K : PySem.W.Frag} {C fI : Addr} {ns : List Str} (h : errB K C fI ns = true) : ErrC K C fI ns := by
  unfold errB at h
  simp only [Bool.and_eq_true, decide_eq_true_eq, List.all_eq_true] at h
  obtain ⟨h1, h2, h3, h4, h5, h6, h7, h8, h9, h10, h11, h12, h13⟩ := h
  have x := xfB_ok h9
  exact ⟨⟨clsB_ok h1, h2, h3, h4, h5⟩, h6, h7, h8, x, ⟨x.ga, x.gg, x.exC, x.hdC, h10, h11, h12, h13⟩⟩
/-- isinstance of an error of the class at C, answered so -/
def kitB (K : PySem.W.Frag) (C : Addr) (cv : Value) (b : Bool) : Bool := decide (PySem.W.kitOne K (.ref C) cv = some b)
theorem kitB_ok {K : PySem.W.Frag} {C : Addr} {cv : Value} {b : Bool} (h : kitB K C cv b = true) : PySem.W.kitOne K (.ref C) cv = some b := of_decide_eq_true h
section
variable {P : Program} {w : World} {K : PySem.W.Frag} {mg : Str → Option Value} {base : Heap} {q : Str} {st : Stmt} {f : Addr} {fd : FuncData} {C : Addr} {f1 f2 : Str}
theorem init_ok2 (F : Fun K "__init__" q st f fd) (S : FnScope ["self", f1, f2] ["self", f1, f2] (defScope st)) (hne : f1 ≠ f2)
    (hb : ∀ (cdv : Value) (A : Around) (outer : List Env) (s : Shared) (H : Hp) (E : XK), PSs (cxOf CX0 P w K mg base ["self", f1, f2] q (defScope st) f cdv A outer s H E).nox (defBody st) (tSeq (tOst K f1 (tVar 0) (tVar 1)) (tOst K f2 (tVar 0) (tVar 2)))) :
    FnOk P w K mg base CX0 1 f fd ["self", f1, f2] (spInit K C [f1, f2]) := by
  refine F.ok S (fun vs H Q E h => ?_) (fun cdv A outer s H vs Q E hr h => ⟨_, hb cdv A outer s H E, ?_⟩)
  · obtain ⟨a, xs, rfl, hl, _⟩ := h
    rw [List.length_cons, hl]; rfl
  · obtain ⟨a, xs, rfl, hl, o, no, ea, k⟩ := h
    match xs, hl with
    | [v1, v2], _ =>
      refine ⟨v1, rfl, .ref a, rfl, a, C, rfl, o, no _ (by simp), .inl ⟨ea, fun dx nd ne => ?_⟩⟩
      refine ⟨v2, rfl, .ref a, rfl, a, C, rfl, o, no _ (by simp), .inr ⟨dx, [(f1, v1)], upd_same, by rw [upd_ne ne, upd_same], by simp, ?_⟩⟩
      exact k dx _ nd ne (by rw [upd_ne (Ne.symm ne), upd_same]) upd_same fun b b1 b2 => by rw [upd_ne b2, upd_ne b1, upd_ne b2]
theorem init_ok1 (F : Fun K "__init__" q st f fd) (S : FnScope ["self", f1] ["self", f1] (defScope st))
    (hb : ∀ (cdv : Value) (A : Around) (outer : List Env) (s : Shared) (H : Hp) (E : XK), PSs (cxOf CX0 P w K mg base ["self", f1] q (defScope st) f cdv A outer s H E).nox (defBody st) (tOst K f1 (tVar 0) (tVar 1))) :
    FnOk P w K mg base CX0 1 f fd ["self", f1] (spInit K C [f1]) := by
  refine F.ok S (fun vs H Q E h => ?_) (fun cdv A outer s H vs Q E hr h => ⟨_, hb cdv A outer s H E, ?_⟩)
  · obtain ⟨a, xs, rfl, hl, _⟩ := h
    rw [List.length_cons, hl]; rfl
  · obtain ⟨a, xs, rfl, hl, o, no, ea, k⟩ := h
    match xs, hl with
    | [v1], _ =>
      refine ⟨v1, rfl, .ref a, rfl, a, C, rfl, o, no _ (by simp), .inl ⟨ea, fun dx nd ne => ?_⟩⟩
      exact k dx _ nd ne upd_same (by rw [upd_ne ne, upd_same]; rfl) fun b b1 b2 => by rw [upd_ne b1, upd_ne b2]
end
/-- a tuple of texts -/
def txtB (K : PySem.W.Frag) (x : Str) (xs : List Str) : Bool := He.tupB K x (xs.map fun z => He.Dv.str z)
end VI
namespace VI
open PySem PySem.Spec PyProof.Rows L2
theorem hu_tab {T : List (Addr × Str)} {P : Addr} {q : Str} (nd : (T.map (·.1)).Nodup) (h : (P, q) ∈ T) : ∀ p ∈ T, p.1 = P → p.2 = q := by
  induction T with
  | nil => cases h
  | cons y T ih =>
    rw [List.map_cons, List.nodup_cons] at nd
    intro p hp e
    rcases List.mem_cons.mp h with h | h
    · rcases List.mem_cons.mp hp with hp | hp
      · rw [hp, ← h]
      · exact (nd.1 (List.mem_map.mpr ⟨p, hp, by rw [e, ← h]⟩)).elim
    · rcases List.mem_cons.mp hp with hp | hp
      · exact (nd.1 (List.mem_map.mpr ⟨_, h, by rw [← hp, e]⟩)).elim
      · exact ih nd.2 h p hp e
def badE' : ME := fun _ _ => .bad
theorem de_bad {X : Cx} {q : Pk} {e : Expr} : DE X q e badE' := ⟨fun pins s σ H Q I h => by
  obtain ⟨P, ρ, φ, e, φ', a, h1, k⟩ := h
  cases h1⟩
/-- x is True, x is False -/
def isbG (neg : Bool) : D → D → Res EV
  | .bool a, .bool b => .ok (.dat (.bool (neg ^^ decide (a = b))))
  | _, _ => .bad
theorem og_isb {X : Cx} {q : Pk} : OpG X q (compareOp .Is) (isbG false) := by
  refine ⟨_, op_is_bl, ?_⟩
  intro P H x y d1 d2 e Q l r1 r2 h k
  unfold isbG at h
  split at h
  · rename_i a b
    cases h; cases r1; cases r2
    exact ⟨a, b, rfl, rfl, k _ H (Ext.refl H) (by rw [Bool.false_xor]; rfl)⟩
  · cases h
theorem og_isnotb {X : Cx} {q : Pk} : OpG X q (compareOp .IsNot) (isbG true) := by
  refine ⟨_, op_isnot_bl, ?_⟩
  intro P H x y d1 d2 e Q l r1 r2 h k
  unfold isbG at h
  split at h
  · rename_i a b
    cases h; cases r1; cases r2
    exact ⟨a, b, rfl, rfl, k _ H (Ext.refl H) (by rw [Bool.true_xor]; rfl)⟩
  · cases h
/-- a tuple of texts that the top has written -/
def GT (K : PySem.W.Frag) (a : Addr) (xs : List Str) : Prop := ∀ G : Hp, TupN K G a (xs.map V.str)
section
variable {X : Cx} {q : Pk} {x : Str} {a : Addr} {xs : List Str} {p : Pos}
theorem de_globT (hg : Gl X x) (hm : X.mg x = some (.ref a)) (h : GT X.K a xs) (hd : (x == ("__debug__" : Str)) = false := by decide) : DE X q (.Name x p) (cD (.tuple (xs.map .str))) := (pe_glob (v := .ref a) hg hm rfl hd).imp fun σ H Q w => by
  obtain ⟨P, ρ, φ, e, φ', at0, h1, k⟩ := w
  cases h1
  exact k (.ref a) H (Up.refl H) at0.fo ⟨a, _, rfl, h _, RepAll.of_strs xs⟩
variable {XT : XTab} {hv : D → D} {hx : Str → List D → Option D} {me : ME}
theorem de_hear {y : Str} {g c P : Addr} {k : Nat} {st : Stmt} {fd : FuncData} {Ng : List Str} {params : Arguments} {body : Expr} {scope : Scope} {lpos pos : Pos} (hG : X.A.guards = some []) (hg : Gl X x) (hm : X.mg x = some (.ref g)) (F : Fun X.K x x st g fd)
    (hb : L2.Binds X.K fd [y] []) (Sg : FnScope Ng [y] (defScope st)) (hNg : Ng[0]? = some y) (hva : Vis (defScope st) y) (hgv : ∀ cdv : Value, LamX.GivesTo X Ng x (defScope st) g cdv (defBody st) y (X.env.qual ++ "<lambda>") (Hears X q XT hv hx))
    (TB : LamX.TabB X.base X.mg c P) (hcode : X.env.code = .ref c) (hmT : (P, X.env.qual ++ "<lambda>") ∈ q.T) (hu : ∀ p ∈ q.T, p.1 = P → p.2 = X.env.qual ++ "<lambda>") (hr : Room (k + 2) X.A) (L : LamX.LamS X.env.scope scope) (hdef : defaultsOf params X.env = ([], []))
    (hbind : ∀ (q : Str) (cl : List (Str × Addr)) (pm cv ctv : Value), bindArgs (PySem.W.kla_fn "<lambda>" q params body scope cl pm cv ctv) ⟨[], []⟩ = pure [])
    (hbody : ∀ (A : Around) (outer : List Env) (s : Shared) (H : Hp) (E : XK) (f c' : Addr), A.guards = some [] → Room k (A.deeper (LamX.lamEnv X scope s.heap.objs.size f c')) → Takes (LamX.lamCx X A outer s H E scope f c') (fun cls d _ H' => E cls d H') → DEX (LamX.lamCx X A outer s H E scope f c') q XT E body me)
    (hdb : (x == ("__debug__" : Str)) = false := by decide) (hd : (y == ("__debug__" : Str)) = false := by decide) (hcd : (y == ("__classdict__" : Str)) = false := by decide) :
    DE X q (.Call (.Name x p) [.Lambda params body scope lpos] [] pos) (hearM hv hx me) := by
  have kp := F.kp
  obtain ⟨oc, od, kV, doc, pm, an, cdv, ct, osl, rfl, lk, hcd'⟩ := F.ex
  exact de_heard hG hg hm kp lk hcd' hb Sg hNg hva (hgv cdv) TB hcode hmT hu hr L hdef hbind hbody hdb hd hcd
end
def retD (r : Res (Fl × EnvS × FS)) : Option (D × FS) := match r with
  | .ok (.ret (.dat d), _, φ) => some (d, φ)
  | _ => none
theorem ret_of {r : Res (Fl × EnvS × FS)} {d : D} {φ : FS} (h : retD r = some (d, φ)) : ∃ ρ', r = .ok (.ret (.dat d), ρ', φ) := by
  unfold retD at h
  split at h
  · cases h; exact ⟨_, rfl⟩
  · cases h
theorem bt_ValueError : bootBuiltins "ValueError" = some (.type "ValueError") := by decide +kernel
theorem fun_ofD {K : PySem.W.Frag} {x q : Str} {st : Stmt} {f : Addr} {fd : FuncData} (F : FunD K x q (defArgs st) (defBody st) (defScope st) [] [] f fd) : Fun K x q st f fd := by
  obtain ⟨⟨oc, od, dV, kV, doc, pm, an, cdv, ct, osl, e, lk, hc, hd, _⟩, kp⟩ := F
  have dn : dV = .none := by
    rcases hd with ⟨_, z⟩ | ⟨z, _⟩
    · exact z
    · exact (z rfl).elim
  subst dn
  exact ⟨⟨oc, od, kV, doc, pm, an, cdv, ct, osl, e, lk, hc⟩, kp⟩
/-- a def's code object -/
theorem code_of {K : PySem.W.Frag} {x q : Str} {st : Stmt} {p : Str × Option Str} {fd : FuncData} (F : Fun K x q st (He.fAd K p) fd) : fd.code = .ref (He.cT K p).1 := by
  obtain ⟨oc, od, kV, doc, pm, an, cdv, ct, osl, rfl, lk, hc⟩ := F.ex
  obtain ⟨c, e⟩ := He.codeIn_ref hc
  subst e
  show Value.ref c = .ref (He.codeOf K p)
  rw [He.codeOf_eq lk rfl]
def gtB (K : PySem.W.Frag) (a : Addr) (xs : List Str) : Bool := match K.lookup a with
  | some ⟨.type "tuple", none, .seq its _, _⟩ => decide (its.size ≤ sizeLine) && He.relAll (xs.map V.str) its.toList
  | _ => false
theorem gtB_ok {K : PySem.W.Frag} {a : Addr} {xs : List Str} (h : gtB K a xs = true) : GT K a xs := by
  unfold gtB at h; split at h
  · rename_i its n sl ho
    rw [Bool.and_eq_true, decide_eq_true_eq] at h
    exact fun G => .inr ⟨_, its, n, ho, rfl, rfl, rfl, h.1, He.relAll_ok h.2⟩
  · cases h
end VI
namespace VI
open PySem PySem.Spec PyProof.Rows L2
def splG : D → D → Res EV
  | .str a, .str b => if (b.length == 0) = false ∧ a.length + 2 ≤ sizeLine then .ok (.own ((Txt.split a b).map .str)) else .bad
  | _, _ => .bad
def joinL (a : Str) (ds : List D) : Res EV := match strsOf ds with
  | some ys => if (ys.map (·.length)).sum + ys.length * a.length ≤ 16777216 then .ok (.dat (.str (Txt.join a ys))) else .bad
  | none => .bad
def joinG : D → D → Res EV
  | .str a, .list ds => joinL a ds
  | .str a, .tuple ds => joinL a ds
  | _, _ => .bad
theorem joinL_ok {a : Str} {ds : List D} {e : EV} (h : joinL a ds = .ok e) : ∃ ys, ds = ys.map .str ∧ (ys.map (·.length)).sum + ys.length * a.length ≤ 16777216 ∧ e = .dat (.str (Txt.join a ys)) := by
  unfold joinL at h
  split at h
  · rename_i ys e1
    split at h
    · rename_i hz
      cases h
      exact ⟨ys, strsOf_eq e1, hz, rfl⟩
    · cases h
  · cases h
def upG (f : Str → Str) : List D → Res EV
  | [.str a] => if a.length ≤ 5592405 then .ok (.dat (.str (f a))) else .bad
  | _ => .bad
section
variable {X : Cx} {q : Pk} {a b : Expr} {ma mb : ME} {pos : Pos}
theorem de_split {apos : Pos} (ha : DE X q a ma) (hb : DE X q b mb) (hbase : attributeBase a "split" X.env (eval a X.env) = eval a X.env := by rfl)
    (hfew : ((backTo pos (starEach [b] X.env)).all (fun x => !x.1) && (backToKw pos (keywordEach [] X.env)).all (fun x => x.1.isSome) && decide ([b].length + ([] : List Keyword).length + (if ([] : List Keyword).isEmpty then 0 else 1) < 30)) = true := by rfl)
    (hline : (apos.endLine == pos.line) = true := by rfl) (hs : starEach [b] X.env = (false, eval b X.env) :: starEach [] X.env := by rfl) : DE X q (.Call (.Attribute a "split" apos) [b] [] pos) (op2 splG ma mb) :=
  (pe_bm PySem.F.plainAttrs_str PySem.F.slot_str_split PySem.F.type_str_split mt_split ha (pa_cons hb pa_nil hs) hbase hfew hline hs).imp fun σ H Q w => by
    obtain ⟨P, ρ, φ, e, φ', a, h, k⟩ := w
    obtain ⟨e1, φ1, e2, h1, h2, h3⟩ := op2_ok h
    unfold splG at h3
    split at h3
    · rename_i x y he1 he2
      split at h3
      · rename_i hz
        cases h3
        refine part a h1 fun v1 H1 a1 u1 r1 => ?_
        have q1 := r1.rep a.live
        rw [he1] at q1
        cases q1
        refine ⟨rfl, ?_⟩
        refine part a1 h2 fun v2 H2 a2 u2 r2 => ?_
        have q2 := r2.rep a1.live
        rw [he2] at q2
        cases q2
        exact ⟨x, y, rfl, rfl, hz.1, hz.2, fun n nn => k _ _ ((u1.trans u2).trans (Ext.new nn).up) (a2.fo.ext (hide_ext (Ext.new nn))) (rep_newL (RepAll.of_strs (Txt.split x y)) (u1.trans u2) nn)⟩
      · cases h3
    · cases h3
theorem de_join {apos : Pos} (ha : DE X q a ma) (hb : DE X q b mb) (hbase : attributeBase a "join" X.env (eval a X.env) = eval a X.env := by rfl)
    (hfew : ((backTo pos (starEach [b] X.env)).all (fun x => !x.1) && (backToKw pos (keywordEach [] X.env)).all (fun x => x.1.isSome) && decide ([b].length + ([] : List Keyword).length + (if ([] : List Keyword).isEmpty then 0 else 1) < 30)) = true := by rfl)
    (hline : (apos.endLine == pos.line) = true := by rfl) (hs : starEach [b] X.env = (false, eval b X.env) :: starEach [] X.env := by rfl) : DE X q (.Call (.Attribute a "join" apos) [b] [] pos) (op2 joinG ma mb) :=
  (pe_bm PySem.F.plainAttrs_str PySem.F.slot_str_join PySem.F.type_str_join mt_join ha (pa_cons hb pa_nil hs) hbase hfew hline hs).imp fun σ H Q w => by
    obtain ⟨P, ρ, φ, e, φ', a, h, k⟩ := w
    obtain ⟨e1, φ1, e2, h1, h2, h3⟩ := op2_ok h
    unfold joinG at h3
    split at h3
    · rename_i x ds he1 he2
      obtain ⟨ys, ed, hz, rfl⟩ := joinL_ok h3
      refine part a h1 fun v1 H1 a1 u1 r1 => ?_
      have q1 := r1.rep a.live
      rw [he1] at q1
      cases q1
      refine ⟨rfl, ?_⟩
      refine part a1 h2 fun v2 H2 a2 u2 r2 => ?_
      have q2 := r2.rep a1.live
      rw [he2, ed] at q2
      obtain ⟨c, xs, rfl, g1, g2⟩ := q2
      rw [g2.strs] at g1
      exact ⟨x, c, ys, rfl, rfl, .inl (SqL.of (hide_of g1).2), hz, k _ H2 (u1.trans u2) a2.fo rfl⟩
    · rename_i x ds he1 he2
      obtain ⟨ys, ed, hz, rfl⟩ := joinL_ok h3
      refine part a h1 fun v1 H1 a1 u1 r1 => ?_
      have q1 := r1.rep a.live
      rw [he1] at q1
      cases q1
      refine ⟨rfl, ?_⟩
      refine part a1 h2 fun v2 H2 a2 u2 r2 => ?_
      have q2 := r2.rep a1.live
      rw [he2, ed] at q2
      obtain ⟨c, xs, rfl, g1, g2⟩ := q2
      rw [g2.strs] at g1
      exact ⟨x, c, ys, rfl, rfl, .inr (TupN.at g1 fun c o _ z => (hide_of z).2).sq, hz, k _ H2 (u1.trans u2) a2.fo rfl⟩
    · cases h3
end
section
variable {X : Cx} {q : Pk}
theorem setAll_len {ρ' : Env'} : ∀ {is : List Nat} {ds : List D} {ρ : Env'}, setAll is ds ρ = some ρ' → ds.length = is.length
  | [], [], _, _ => rfl
  | [], _ :: _, _, s => by cases s
  | _ :: _, [], _, s => by cases s
  | i :: is, d :: ds, ρ, s => congrArg (· + 1) (setAll_len (is := is) (ds := ds) s)
theorem setT_ok {p : Pr} {is : List Nat} {P : Addr → Prop} {H : Hp} {ρ ρ' : Env'} {σ : L2.St} {a : D} {v : V} {Q : L2.St → Hp → Prop} (e : EnvR p (hide P H) ρ σ) (r : R1 p P H a v) (s : setT is a ρ = some ρ')
    (k : ∀ σ', EnvR p (hide P H) ρ' σ' → Chg is σ σ' → (∀ i, i ∉ is → ρ'[i]? = ρ[i]?) → Q σ' H) : gTup p.K is.length (gAll is) v σ H Q := by
  cases a with
  | tuple ds =>
    obtain ⟨c, xs, rfl, h1, h2⟩ := r
    exact ⟨c, xs, rfl, (TupN.at h1 fun b o _ z => (hide_of z).2).sq, by rw [h2.len]; exact setAll_len s, gAll_ok e h2 s k⟩
  | none => cases s
  | bool b => cases s
  | int i => cases s
  | str i => cases s
  | list i => cases s
  | dict i => cases s
theorem hg_tup {tg : Expr} {scope : Scope} {is : List Nat} (h : ∀ (s : Shared) (H : Hp) (C : Addr) (cl : List (Str × Addr)) (fp : List Addr), PG (X.blk s H scope (compEnvC scope cl C X.env) fp) tg (gTup X.K is.length (gAll is))) :
    ∃ g : TG, (∀ (s : Shared) (H : Hp) (C : Addr) (cl : List (Str × Addr)) (fp : List Addr), PG (X.blk s H scope (compEnvC scope cl C X.env) fp) tg g) ∧
      ∀ (P : Addr → Prop) (H : Hp) (ρ : Env') (σ : L2.St) (a : D) (v : V) (ρ' : Env') (Q : L2.St → Hp → Prop), EnvR (q.at X.K) (hide P H) ρ σ → R1 (q.at X.K) P H a v → setT is a ρ = some ρ' →
        (∀ σ', EnvR (q.at X.K) (hide P H) ρ' σ' → Chg is σ σ' → (∀ m, m ∉ is → ρ'[m]? = ρ[m]?) → Q σ' H) → g v σ H Q := ⟨_, h, fun P H ρ σ a v ρ' Q e r s k => setT_ok e r s k⟩
end
/-- the truth of a tuple or a list -/
def tstL (m : ME) : MT := fun ρ φ => (m ρ φ).bind fun r => match r.1.toD with
  | .bool b => .ok (b, r.2)
  | .list ds => .ok (!ds.isEmpty, r.2)
  | .tuple ds => .ok (!ds.isEmpty, r.2)
  | _ => .bad
section
variable {X : Cx} {q : Pk} {e : Expr} {m : ME}
theorem dt_tru (h : DE X q e m) (he : ∀ whole, isTrue e X.env whole = (do let v ← whole; standAt e.pos; holding [v] (truthy v))) : DT X q e (tstL m) := (pt_truth h he).imp fun σ H Q w => by
  obtain ⟨P, ρ, φ, b, φ', a, h, k⟩ := w
  unfold tstL at h
  obtain ⟨⟨e1, φ1⟩, h1, h⟩ := Res.bind_ok h
  dsimp only at h
  refine part a h1 fun v H1 a1 u1 r1 => ?_
  have rr := r1.rep a.live
  split at h
  · rename_i b1 ed
    cases h
    rw [ed] at rr
    cases rr
    exact ⟨b, rfl, k H1 u1 a1.fo⟩
  · rename_i ds ed
    cases h
    rw [ed] at rr
    obtain ⟨c, xs, rfl, g1, g2⟩ := rr
    refine ⟨_, .inl ⟨xs, SqL.of (hide_of g1).2, rfl⟩, ?_⟩
    have e2 : xs.isEmpty = ds.isEmpty := by
      have := g2.len
      cases xs <;> cases ds <;> first | rfl | cases this
    rw [e2]
    exact k H1 u1 a1.fo
  · rename_i ds ed
    cases h
    rw [ed] at rr
    obtain ⟨c, xs, rfl, g1, g2⟩ := rr
    refine ⟨_, .inr (.inl ⟨xs, (TupN.at g1 fun c o _ z => (hide_of z).2).sq, rfl⟩), ?_⟩
    have e2 : xs.isEmpty = ds.isEmpty := by
      have := g2.len
      cases xs <;> cases ds <;> first | rfl | cases this
    rw [e2]
    exact k H1 u1 a1.fo
  · cases h
end
end VI
namespace VI
open PySem PySem.Spec PyProof.Rows L2
def starA (m : ME) : MA := fun ρ φ => (m ρ φ).bind fun r => match r.1.toD with
  | .list ds => .ok (ds, r.2)
  | .tuple ds => .ok (ds, r.2)
  | _ => .bad
section
variable {X : Cx} {q : Pk} {a : Expr} {ma : ME} {sp : Pos}
theorem da_star (ha : DE X q a ma) (hst : starEach [.Starred a sp] X.env = (true, eval a X.env) :: starEach [] X.env := by rfl) : DA X q [.Starred a sp] (starA ma) := (StX.pa_star ha pa_nil hst).imp fun σ H Q w => by
  obtain ⟨P, ρ, φ, e, φ', a, h, k⟩ := w
  unfold starA at h
  obtain ⟨⟨e1, φ1⟩, h1, h⟩ := Res.bind_ok h
  dsimp only at h
  refine part a h1 fun v H1 a1 u1 r1 => ?_
  have rr := r1.rep a.live
  split at h
  · rename_i ds ed
    cases h
    rw [ed] at rr
    obtain ⟨c, xs, rfl, g1, g2⟩ := rr
    refine ⟨c, xs, rfl, .inr (SqL.of (hide_of g1).2), ?_⟩
    show Q (xs ++ []) H1
    rw [List.append_nil]
    exact k xs H1 u1 a1.fo g2
  · rename_i ds ed
    cases h
    rw [ed] at rr
    obtain ⟨c, xs, rfl, g1, g2⟩ := rr
    refine ⟨c, xs, rfl, .inl (TupN.at g1 fun c o _ z => (hide_of z).2).sq, ?_⟩
    show Q (xs ++ []) H1
    rw [List.append_nil]
    exact k xs H1 u1 a1.fo g2
  · cases h
end
end VI
namespace VI
open PySem PySem.Spec PyProof.Rows L2
def slxG (d : D) (lo hi : Option Int) : Res EV := match d with
  | .str x => if x.length ≤ 16777216 then .ok (.dat (.str (cutS x lo hi))) else .bad
  | .list ds => .ok (.own (cutD ds lo hi))
  | .tuple ds => .ok (.dat (.tuple (cutD ds lo hi)))
  | _ => .bad
def slxM (m : ME) (lo hi : MO) : ME := fun ρ φ => (m ρ φ).bind fun r => (lo ρ r.2).bind fun r1 => (hi ρ r1.2).bind fun r2 => (slxG r.1.toD r1.1 r2.1).bind fun e => .ok (e, r2.2)
def upM (m : ME) : ME := fun ρ φ => (m ρ φ).bind fun r => match r.1.toD with
  | .str a => if a.length ≤ 5592405 then .ok (.dat (.str (Txt.upper a)), r.2) else .bad
  | _ => .bad
section
variable {X : Cx} {q : Pk} {a b : Expr} {ma mb : ME} {pos p2 : Pos}
theorem de_slx {lo hi : Option Expr} {ml mh : MO} (ha : DE X q a ma) (hl : DO X q lo ml) (hh : DO X q hi mh) : DE X q (.Subscript a (.Slice lo hi none p2) pos) (slxM ma ml mh) := (pe_slice ((sl_list.or sl_tupN).or sl_str) ha hl hh).imp fun σ H Q w => by
  obtain ⟨P, ρ, φ, e, φ', a, h, k⟩ := w
  obtain ⟨⟨e1, φ1⟩, h1, h⟩ := Res.bind_ok h
  obtain ⟨⟨e2, φ2⟩, h2, h⟩ := Res.bind_ok h
  obtain ⟨⟨e3, φ3⟩, h3, h⟩ := Res.bind_ok h
  obtain ⟨e4, h4, h⟩ := Res.bind_ok h
  cases h
  refine part a h1 fun v H1 a1 u1 r1 => ⟨P, ρ, φ1, e2, φ2, a1, h2, fun H2 u2 f2 => ?_⟩
  have a2 := a1.next u2 f2
  refine ⟨P, ρ, φ2, e3, φ3, a2, h3, fun H3 u3 f3 => ?_⟩
  have a3 := a2.next u3 f3
  have r3 := Rep.up (hide_up (u2.trans u3)) (r1.rep a.live)
  have uu := (u1.trans u2).trans u3
  dsimp only at h4
  generalize e1.toD = d at r3 h4
  cases d with
  | list ds =>
    cases h4
    obtain ⟨c, xs, rfl, g1, g2⟩ := r3
    exact .inl (.inl ⟨c, xs, rfl, SqL.of (hide_of g1).2, fun n nn => k _ _ (uu.trans (Ext.new nn).up) (a3.fo.ext (hide_ext (Ext.new nn))) (rep_newL (g2.cut _ _) uu nn)⟩)
  | tuple ds =>
    cases h4
    obtain ⟨c, xs, rfl, g1, g2⟩ := r3
    refine .inl (.inr ⟨c, xs, rfl, (TupN.at g1 fun c o _ z => (hide_of z).2).sq, fun hw => ?_, fun _ => newT_of a3.live (g2.cut _ _) fun v' H4 x4 r4 => ?_⟩)
    · refine k _ H3 uu a3.fo ?_
      rw [g2.len] at hw
      rw [cutD_whole hw]
      exact ⟨c, xs, rfl, g1, g2⟩
    · exact k _ H4 (uu.trans x4.up) (a3.fo.ext (hide_ext x4)) (r4.old uu)
  | str x =>
    unfold slxG at h4
    dsimp only at h4
    split at h4
    · rename_i hz
      cases h4
      cases r3
      exact .inr ⟨x, rfl, Nat.le_trans hz (by rw [sizeLine_eq]; decide), k _ H3 uu a3.fo rfl⟩
    · cases h4
  | none => cases h4
  | bool b => cases h4
  | int i => cases h4
  | dict kv => cases h4
theorem de_upper {apos : Pos} (ha : DE X q a ma) (hbase : attributeBase a "upper" X.env (eval a X.env) = eval a X.env := by rfl) (hline : (apos.endLine == pos.line) = true := by rfl) : DE X q (.Call (.Attribute a "upper" apos) [] [] pos) (upM ma) :=
  (pe_upper ha hbase hline).imp fun σ H Q w => by
    obtain ⟨P, ρ, φ, e, φ', a, h, k⟩ := w
    obtain ⟨⟨e1, φ1⟩, h1, h⟩ := Res.bind_ok h
    dsimp only at h
    split at h
    · rename_i x he
      split at h
      · rename_i hz
        cases h
        refine part a h1 fun v1 H1 a1 u1 r1 => ?_
        have q1 := r1.rep a.live
        rw [he] at q1
        cases q1
        exact ⟨⟨x, rfl⟩, x, rfl, rfl, hz, k _ H1 u1 a1.fo rfl⟩
      · cases h
    · cases h
end
def intxG : List D → Res EV
  | [.int i] => .ok (.dat (.int i))
  | [.bool b] => .ok (.dat (.int (if b then 1 else 0)))
  | _ => .bad
theorem cg_intx {X : Cx} {q : Pk} : CallG X q (.type "int") intxG := by
  refine ⟨_, call_int1, ?_⟩
  intro P H xs ds e Q l r h k
  unfold intxG at h
  split at h
  · cases h
    obtain ⟨v, r', rfl, rfl, rfl⟩ := r
    exact .inl ⟨_, rfl, k _ H (Ext.refl H) rfl⟩
  · cases h
    obtain ⟨v, r', rfl, rfl, rfl⟩ := r
    exact .inr ⟨_, rfl, k _ H (Ext.refl H) rfl⟩
  · cases h
/-- a def of whose calls nothing is said -/
theorem fnG_bad {P : Program} {w : World} {K : PySem.W.Frag} {mg : Str → Option Value} {base : Heap} {CX : CXT} {k : Nat} {f : Addr} {fd : FuncData} {ps : List Str} {k2 k3 k4 : Str} {T : List (Addr × Str)} {n : Nat} : FnG P w K mg base CX k f fd ps (spF K k2 k3 k4 T n fun _ _ => .bad) :=
by
  refine ⟨fun vs H Q E h => ?_, fun A outer s H args us vs Q E _ _ _ _ _ h => ?_⟩
  · obtain ⟨fa, ca, ex, P1, φ, ds, e, φ', _, _, _, _, _, hm, _⟩ := h
    cases hm
  · obtain ⟨fa, ca, ex, P1, φ, ds, e, φ', _, _, _, _, _, hm, _⟩ := h
    cases hm
@[simp] theorem slxM_o {ρ : Env'} {φ : FS} {m : ME} {lo hi : MO} : slxM m lo hi ρ φ = (m ρ φ).bind fun r => (lo ρ r.2).bind fun r1 => (hi ρ r1.2).bind fun r2 => (slxG r.1.toD r1.1 r2.1).bind fun e => .ok (e, r2.2) := nrfl rfl
end VI
namespace VI
open PySem PySem.Spec PyProof.Rows L2
def whGo (vs : List Nat) (mt : MT) (mb : MS) : Nat → MS
  | 0 => fun _ _ => .bad
  | n + 1 => fun ρ φ => (mt (soft vs ρ) φ).bind fun r => if r.1 = true then (mb ρ r.2).bind fun r2 => match r2.1 with
      | .nx => whGo vs mt mb n r2.2.1 r2.2.2
      | .ct => whGo vs mt mb n r2.2.1 r2.2.2
      | .bk => .ok (.nx, r2.2)
      | .ret e => .ok (.ret e, r2.2)
    else .ok (.nx, ρ, r.2)
section
variable {X : Cx} {q : Pk} {c : Expr} {body : List Stmt} {pos : Pos} {mt : MT} {mb : MS}
theorem ds_while (n : Nat) (vs : List Nat) (hp : PassesOwn (model X.prog X.w) X.A X.env X.xe) (hc : DT X q c mt) (hb : DSs X q body mb) : DS X q (.While c body [] pos) (whGo vs mt mb n) :=
  ps_imp (ps_while hp hc hb) fun D σ H z => by
    obtain ⟨H0, P0, ρ, φ, r, S, h, k⟩ := z
    refine ⟨fun m σc Hc => ∃ ρc φc, StR (q.at X.K) H0 P0 Hc ρc φc σc ∧ Seen (Hid P0 ρ σ) H (Hid P0 ρc σc) Hc ∧ whGo vs mt mb m ρc φc = .ok r, ⟨n, ρ, φ, S, fun _ _ _ z => z, h⟩, ?_⟩
    rintro m σc Hc ⟨ρc, φc, Sc, sc, hgo⟩
    cases m with
    | zero => cases hgo
    | succ m =>
      unfold whGo at hgo
      obtain ⟨⟨c1, φ1⟩, h1, hgo⟩ := Res.bind_ok hgo
      refine ⟨_, _, _, c1, φ1, Sc.moment vs, h1, fun H1 u1 f1 => ?_⟩
      have S1 : StR (q.at X.K) H0 P0 H1 ρc φ1 σc := Sc.upTo u1 (f1.see Sc.fo.nfa.1 Sc.fo.nca.1 (Sc.fo.e.up (hide_up u1)))
      have s1 := sc.trans (seen_up u1)
      dsimp only at hgo
      cases c1 with
      | true =>
        rw [if_pos rfl] at hgo
        show if true = true then _ else _
        rw [if_pos rfl]
        obtain ⟨⟨fl, ρ2, φ2⟩, h3, hgo⟩ := Res.bind_ok hgo
        dsimp only at hgo
        refine ⟨fun σn Hn => ∃ ρn φn, StR (q.at X.K) H0 P0 Hn ρn φn σn ∧ Seen (Hid P0 ρ σ) H (Hid P0 ρn σn) Hn ∧ whGo vs mt mb m ρn φn = .ok r, fun σn Hn hn => ⟨m, Nat.lt_succ_self m, hn⟩, ?_⟩
        refine ⟨H0, P0, ρc, φ1, (fl, ρ2, φ2), S1, h3, ?_⟩
        cases fl with
        | nx => exact fun σ5 H5 S5 s5 => ⟨ρ2, φ2, S5, s1.trans s5, hgo⟩
        | ct => exact fun σ5 H5 S5 s5 => ⟨ρ2, φ2, S5, s1.trans s5, hgo⟩
        | bk =>
          cases hgo
          exact fun σ5 H5 S5 s5 => k σ5 H5 S5 (s1.trans s5)
        | ret e =>
          cases hgo
          exact fun v H5 u5 f5 r5 => k v H5 u5 f5 r5
      | false =>
        rw [if_neg (by decide)] at hgo
        cases hgo
        show if false = true then _ else _
        rw [if_neg (by decide)]
        exact k σc H1 S1 s1
def popM (i j : Nat) : MS := fun ρ φ => match ρ[j]? with
  | some (some (.own ds)) => (match ds[ds.length - 1]? with
    | some d => if i < ρ.length ∧ i ≠ j then .ok (.nx, (ρ.set j (some (.own (ds.take (ds.length - 1))))).set i (some (.dat d)), φ) else .bad
    | none => .bad)
  | _ => .bad
theorem ds_pop {i j : Nat} {x : Str} {pos' apos cpos : Pos} {o2 : Expr} (ho2 : PE X o2 (tVar j)) (hN : X.N.Nodup) (hi : X.N[i]? = some x) (hx : Loc X.env.scope x) (hs : swapsWith (.Call (.Attribute o2 "pop" apos) [] [] cpos) (some (.Name x pos')) pos.line X.env = pure false)
    (hf : X.fn x = true ∨ X.env.scope.names.lookup x = some .local) (hb2 : attributeBase o2 "pop" X.env (eval o2 X.env) = eval o2 X.env := by rfl)
    (hl2 : (apos.endLine == cpos.line) = true := by rfl) :
    DS X q (.Assign [.Name x pos'] (.Call (.Attribute o2 "pop" apos) [] [] cpos) pos) (popM i j) :=
  ps_imp (ps_set hN hi hx (pe_bm0 PySem.F.plainAttrs_list PySem.F.slot_list_pop PySem.F.type_list_pop mt_pop ho2 hb2 hl2) hs hf) fun D σ H z => by
    obtain ⟨H0, P0, ρ, φ, r, S, h, k⟩ := z
    unfold popM at h
    split at h
    · rename_i dj hj
      split at h
      · rename_i d hd
        split at h
        · rename_i hn
          cases h
          obtain ⟨b, ys, g2, g3, g4, g5⟩ := S.sl.own j dj hj
          obtain ⟨y, hy, ry⟩ := g5.get hd
          refine ⟨.ref b, g2, .inl ⟨rfl, ys, SqL.of g4⟩, b, ys, y, rfl, rfl, g4, by rw [g5.len]; exact hy, ?_⟩
          have hdl : ys.dropLast = ys.take (dj.length - 1) := by rw [List.dropLast_eq_take, g5.len]
          rw [hdl]
          obtain ⟨S4, s4⟩ := S.change hj g2 (g5.take (dj.length - 1))
          have ry4 := Rep.up s4 ry
          exact k _ _ (S4.set (Up.refl _) S4.fo (e := .dat d) ry4) (s4.trans (seen_set (Up.refl _) (e := .dat d) ry4))
        · cases h
      · cases h
    · cases h
end
theorem rising_pw : ∀ (r : List Str) (x : Str), PyProof.Rows.risingS x r = true → (x :: r).Pairwise fun u v => ltS v u = false
  | [], x, _ => by simp
  | y :: r, x, h => by
    unfold PyProof.Rows.risingS at h
    simp only [Bool.and_eq_true] at h
    have hy : ltS y x = false := by
      have := h.1
      rw [PyProof.Rows.ltCps_eq] at this
      simpa [ltS] using this
    have ih := rising_pw r y h.2
    refine List.Pairwise.cons (fun z mz => ?_) ih
    rcases List.mem_cons.mp mz with rfl | mz
    · exact hy
    · have hz := (List.pairwise_cons.mp ih).1 z mz
      cases q : ltS z x with
      | false => rfl
      | true =>
        by_cases e : z = y
        · rw [e, hy] at q; cases q
        · rcases tot_S.tri z y e with g | g
          · rw [g] at hz; cases hz
          · have := tot_S.trans y z x g q
            rw [this] at hy; cases hy
theorem sorted_pw {l : List Str} (h : PyProof.Rows.sortedS l = true) : l.Pairwise fun u v => ltS v u = false := by
  cases l with
  | nil => exact .nil
  | cons x r => exact rising_pw r x h
def srtL (ds : List D) : Res EV := match strsOf ds with
  | some ks => if ks.length < 64 ∧ ks.Nodup then .ok (.own ((sortU ltS ks).map .str)) else .bad
  | none => .bad
def srtG : List D → Res EV
  | [.list ds] => srtL ds
  | _ => .bad
theorem cg_srt {X : Cx} {q : Pk} : CallG X q (.builtin "sorted") srtG := by
  refine ⟨_, cr_sortedS, ?_⟩
  intro P H xs ds e Q l r h k
  unfold srtG at h
  split at h
  · unfold srtL at h
    split at h
    · rename_i ks hk
      split at h
      · rename_i hz
        cases h
        obtain ⟨v, r', rfl, ⟨a, ys, rfl, h1, h2⟩, rfl⟩ := r
        rw [strsOf_eq hk] at h2
        rw [RepAll.strs h2] at h1
        refine ⟨a, ks, rfl, SqL.of (hide_of h1).2, hz.1, fun zs p hp hs hn => ?_⟩
        have e : zs = sortU ltS ks := sortU_eq tot_S (sorted_pw hs) (hp.nodup_iff.mpr hz.2) fun x => hp.mem_iff
        rw [e]
        exact k _ _ (Ext.new hn) (rep_newL (RepAll.of_strs _) (Up.refl H) hn)
      · cases h
    · cases h
  · cases h
end VI
namespace VI
open PySem PySem.Spec PyProof.Rows L2
theorem nd_le {α : Type} [DecidableEq α] : ∀ {m l : List α}, m.Nodup → (∀ x ∈ m, x ∈ l) → m.length ≤ l.length
  | [], _, _, _ => Nat.zero_le _
  | a :: m, l, nd, h => by
    have ha := h a List.mem_cons_self
    have n2 := List.nodup_cons.mp nd
    have := nd_le (m := m) (l := l.erase a) n2.2 fun x mx => by
      have ne : x ≠ a := fun e => n2.1 (e ▸ mx)
      exact (List.mem_erase_of_ne ne).mpr (h x (List.mem_cons_of_mem _ mx))
    rw [List.length_erase_of_mem ha] at this
    have := List.length_pos_of_mem ha
    rw [List.length_cons]
    omega
structure Took2 {κ : Type} (key : Value → κ) (vs : List Value) (L : List Value) : Prop where
  sub : ∀ v ∈ L, v ∈ vs
  all : ∀ v ∈ vs, key v ∈ L.map key
  nd : (L.map key).Nodup
section
variable {P : Program} {w : World} {A : Around} {E : Value → Shared → Prop} {s : Shared} {κ : Type} [DecidableEq κ] {I : Value → Prop} {key : Value → κ} {hs : Value → Int} {S : Heap → List Value → Prop}
theorem Took2.more {vs L L' : List Value} {x : Value} (g : Took2 key vs L) (h1 : key x ∈ L.map key → L' = L) (h2 : key x ∉ L.map key → L'.Perm (x :: L)) : Took2 key (vs ++ [x]) L' := by
  by_cases q : key x ∈ L.map key
  · rw [h1 q]
    refine ⟨fun v hv => List.mem_append_left _ (g.sub v hv), fun v hv => ?_, g.nd⟩
    rcases List.mem_append.mp hv with z | z
    · exact g.all v z
    · rw [List.mem_singleton.mp z]
      exact q
  · have p := h2 q
    refine ⟨fun v hv => ?_, fun v hv => ?_, ?_⟩
    · rcases List.mem_cons.mp (p.mem_iff.mp hv) with z | z
      · rw [z]
        exact List.mem_append_right _ (List.mem_singleton.mpr rfl)
      · exact List.mem_append_left _ (g.sub v z)
    · rw [(p.map key).mem_iff, List.map_cons]
      rcases List.mem_append.mp hv with z | z
      · exact List.mem_cons_of_mem _ (g.all v z)
      · rw [List.mem_singleton.mp z]
        exact List.mem_cons_self
    · rw [(p.map key).nodup_iff, List.map_cons]
      exact List.nodup_cons.mpr ⟨q, g.nd⟩
theorem turns2 {J : Addr} {fp wr : List Addr} {G : Array GenState → Array GenState → Prop} {its : Array Value} {St : Nat → Shared → Prop} {a : Addr} {h0 : Heap} (W : WalksS P w A.in1 J fp wr G its.size (fun i v => its[i]? = some v) St)
    (out : a ∉ fp) (Gr : Grow P w A.in1 h0 a I key hs S) (hi : ∀ v ∈ its.toList, I v) {ks : List κ} (cap : ∀ v ∈ its.toList, key v ∈ ks) (few : ks.length < 63) (na : h0.get? a = none) (nw : ∀ b ∈ wr, h0.get? b = none) {R : Result → Shared → Prop} : ∀ (m i : Nat) (s : Shared), i + m = its.size → St i s → Stay h0 s.heap →
      (∃ L, S s.heap L ∧ Took2 key (its.toList.take i) L) → (∀ s' L, Moved (a :: wr) G s s' → S s'.heap L → Took2 key its.toList L → Stay h0 s'.heap → R (.ok (.ret .none)) s') →
      codeAny (model P w) A (.builtin "set.update.loop" ⟨[.ref a, .ref J], []⟩) R s := by
  have away : a ∉ wr := fun z => out (W.sub _ z)
  have stay : ∀ {s s' : Shared}, Moved wr G s s' → Stay h0 s.heap → Stay h0 s'.heap := fun mv st b o e => mv.heap b o (fun z => by rw [nw b z] at e; cases e) (st b o e)
  have more : ∀ b ∈ wr, b ∈ a :: wr := fun b z => List.mem_cons_of_mem _ z
  intro m
  induction m with
  | zero =>
    intro i s him here st ⟨L, hS, g⟩ k
    have ei : i = its.size := by omega
    subst ei
    refine codeAny_builtin F.entry_set_update_loop ?_
    rw [Around.under_plainId F.plain_set_update_loop _]
    show wpAny _ A.in1 (pyNext (.ref J) >>= _) _ _ s
    refine wpAny_bind (W.done s _ _ here fun s' mv => ?_)
    show wpAny _ A.in1 (ret Value.none) _ _ s'
    rw [List.take_of_length_le (by rw [Array.length_toList]; exact Nat.le_refl _)] at g
    exact wpAny_pure (k s' L (mv.mono more) (Gr.keep _ _ _ hS fun o e => mv.heap a o away e) g (stay mv st))
  | succ m ih =>
    intro i s him here st ⟨L, hS, g⟩ k
    refine codeAny_builtin F.entry_set_update_loop ?_
    rw [Around.under_plainId F.plain_set_update_loop _]
    show wpAny _ A.in1 (pyNext (.ref J) >>= _) _ _ s
    refine wpAny_bind (W.item i s _ _ (by omega) here fun x s1 ex here1 mv => ?_)
    have ex' : its.toList[i]? = some x := by rw [Array.getElem?_toList]; exact ex
    have ix := hi x (List.mem_of_getElem? ex')
    have st1 := stay mv st
    obtain ⟨d, hh⟩ := Gr.hash x ix
    show wpAny _ A.in1 (holding [x] (setAdd a x) >>= _) _ _ s1
    refine wpAny_bind (wpAny_holding ?_)
    unfold setAdd
    refine wpAny_holding (wpAny_bind (hh s1 _ _ st1 ?_))
    refine Gr.add { s1 with toks := s1.toks + d } _ _ L x (Gr.keep _ _ _ hS fun o e => mv.heap a o away e) st1 (fun v hv => hi v (List.mem_of_mem_take (g.sub v hv))) ix ?_ fun b h' L' sb hS' c1 c2 => ?_
    · have q := nd_le g.nd (l := ks) fun k mk => by
        obtain ⟨v, mv, rfl⟩ := List.mem_map.mp mk
        exact cap v (List.mem_of_mem_take (g.sub v mv))
      rw [List.length_map] at q
      omega
    have st2 : Stay h0 h' := fun b o e => (sb.2 b (fun z => by rw [z, na] at e; cases e)).trans (st1 b o e)
    have g' := g.more c1 c2
    rw [← take_next ex'] at g'
    refine wpAny_pure ⟨plainId_quiet F.plain_set_update_loop _, ih (i + 1) _ (by omega) (W.frame _ s1 _ _ here1 (Nat.le_add_right _ _) fun b hb o e => ?_) st2 ⟨L', hS', g'⟩ fun s3 L3 mv3 hS3 g3 st3 => ?_⟩
    · rw [sb.2 b (fun z => out (z ▸ hb))]
      exact e
    · refine k s3 L3 (Moved.trans W.gtrans ((mv.mono more).then_heap (Nat.le_add_right _ _) fun b o hb e => ?_) mv3) hS3 g3 st3
      rw [sb.2 b (fun z => hb (z ▸ List.mem_cons_self))]
      exact e
set_option maxHeartbeats 3200000 in
/-- set(xs), xs of the class T -/
theorem set_of2 {l : Addr} {its : Array Value} {T : String} {Q : Value → Shared → Prop} (hh : A.handled = none) (hl : ∃ o, s.heap.get? l = some o ∧ o.cls = .type T ∧ ∃ n, o.data = .seq its n)
    (t1 : isSubtype (.type T) (.type "set") = pure false) (t2 : isSubtype (.type T) (.type "frozenset") = pure false) (t3 : (Value.type T == Value.type "dict") = false)
    (walk : ∀ h1 : Heap, (∀ o, s.heap.get? l = some o → h1.get? l = some o) → ∀ (s1 : Shared) (E' : Value → Shared → Prop) (Q' : Value → Shared → Prop), s1.heap = h1 →
      (∀ J wr fp G St s2, WalksS P w A.in1.in1.in1 J fp wr G its.size (fun i v => its[i]? = some v) St → St 0 s2 → (∀ b o, h1.get? b = some o → s2.heap.get? b = some o) → s2.gens = s1.gens → s2.drawn = s1.drawn → s2.os = s1.os →
        (∀ b ∈ fp, b = l ∨ h1.objs.size ≤ b) → (∀ b ∈ wr, h1.objs.size ≤ b) → (∀ x y, G x y → y = x) → Q' (.ref J) s2) → wpAny (model P w) A.in1.in1 (pyIter (.ref l)) Q' E' s1)
    (Gr : Grow P w A.in1.in1.in1 s.heap s.heap.objs.size I key hs S) (hi : ∀ v ∈ its.toList, I v) {ks : List κ} (cap : ∀ v ∈ its.toList, key v ∈ ks) (few : ks.length < 63)
    (k : ∀ (h' : Heap) (tk : Nat) (L : List Value), S h' L → Took2 key its.toList L → Stay s.heap h' → Q (.ref s.heap.objs.size) { s with heap := h', toks := tk }) : wpAny (model P w) A (call (.type "set") [.ref l]) Q E s := by
  obtain ⟨c, tl, hmro⟩ := F.called_set.mro
  have hmade := F.called_set.made
  have hsub := F.called_set.sub
  refine wpAny_call (codeAny_of_tree ?_)
  show wpAny _ _ (callAny (.type "set") _) _ _ _
  refine wpAny_pure ⟨Code.quiet_builtin _ (by decide +kernel), codeAny_builtin F.entry_type_call ?_⟩
  rw [Around.under_plain (weight_type_call_type "set" [.ref l] []) rfl]
  have f1 := F.called_set.notType
  have f2 := F.called_set.canCreate
  have f3 := F.typeCall_set_1 (.ref l)
  repeat (any_goals (first | assumption | wp_step))
  obtain ⟨h1, eh1⟩ : ∃ h1, h1 = s.heap.push (newSet w) := ⟨_, rfl⟩
  have gone : s.heap.get? s.heap.objs.size = none := by
    cases q : s.heap.get? s.heap.objs.size with
    | none => rfl
    | some o => exact absurd (Heap.lt_size q) (Nat.lt_irrefl _)
  have old1 : ∀ b o, s.heap.get? b = some o → h1.get? b = some o := fun b o e => by rw [eh1]; exact Heap.get?_push_of_some _ e
  have new1 : h1.get? s.heap.objs.size = some (newSet w) := by rw [eh1]; exact Heap.get?_push_size _ rfl
  have size1 : h1.objs.size = s.heap.objs.size + 1 := by rw [eh1]; exact Heap.size_push ..
  refine codeAny_mono (code_set_led1 (.ref l) (E := E) (Q₁ := fun v s' => v = .ref s.heap.objs.size ∧ s' = { s with heap := h1 }) ⟨rfl, by rw [eh1]⟩) fun r s' hr => ?_
  cases r with
  | error e => exact hr
  | ok fl => cases fl with
    | ret v =>
      obtain ⟨ev, es'⟩ := hr
      subst ev es'
      have ty : Shared.TypeIs { s with heap := h1 } (.ref s.heap.objs.size) "set" := ⟨_, new1, rfl⟩
      have f4 := F.called_set.init.lookup
      have f5 := F.called_set.init.bind (.ref s.heap.objs.size)
      repeat (any_goals (first | assumption | wp_step))
      refine codeAny_mono (codeAny_call_builtin (R := wants (fun v s2 => v = .none ∧ ∃ h' tk L, s2 = { s with heap := h', toks := tk } ∧ S h' L ∧ Took2 key its.toList L ∧ Stay s.heap h') E) F.called_set.init.plain F.entry_set_init (check_set_init_1 ty ?_)) fun r2 s2 hr2 => ?_
      · obtain ⟨ol, hol, hcl, nl, hdl⟩ := hl
        obtain ⟨ocls, odict, odata, oslots⟩ := ol
        simp only at hcl hdl
        subst hcl; subst hdl
        have hol1 : h1.get? l = some { cls := .type T, dict := odict, data := .seq its nl, slots := oslots } := old1 _ _ hol
        unfold Builtin.«set.__init__» noKeywords Builtin.Frozenset.updateFrom
        generalize hPI : pyIter = PI
        wp_walk
        subst hPI
        refine walk h1 (fun o e => old1 l o e) _ _ _ rfl fun J wr fp G St s2 W here st g2 d2 o2 hfp hwr hG => ?_
        refine wpAny_bind (wpAny_runValue ?_)
        have none1 : ∀ b, h1.objs.size ≤ b → s.heap.get? b = none := fun b hb => by
          cases q : s.heap.get? b with
          | none => rfl
          | some o =>
            rw [size1] at hb
            exact absurd (Nat.lt_of_lt_of_le (Heap.lt_size q) (Nat.le_of_succ_le hb)) (Nat.lt_irrefl _)
        have stay2 : Stay s.heap s2.heap := fun b o e => st b o (old1 b o e)
        refine turns2 W (fun z => ?_) Gr hi cap few gone (fun b hb => none1 b (hwr b hb)) its.size 0 s2 (by omega) here stay2 ⟨[], Gr.new _ (st _ _ new1), ⟨fun v hv => (by cases hv), fun v hv => (by simp at hv), List.nodup_nil⟩⟩ fun s3 L mv hS g st3 => ?_
        · rcases hfp _ z with q | q
          · have q2 := Heap.lt_size hol
            rw [← q] at q2
            exact absurd q2 (Nat.lt_irrefl _)
          · rw [size1] at q
            omega
        · obtain ⟨h', g3, d3, tk, os3⟩ := s3
          have e1 : g3 = s.gens := (hG _ _ mv.gens).trans g2
          have e2 : d3 = s.drawn := mv.drawn.trans d2
          have e3 : os3 = s.os := mv.os.trans o2
          subst e1 e2 e3
          refine wpAny_pure ?_
          show wpAny _ _ (ret Value.none) _ _ _
          exact wpAny_pure ⟨rfl, h', tk, L, rfl, hS, g, st3⟩
      · cases r2 with
        | error e => exact hr2
        | ok fl2 => cases fl2 with
          | ret r =>
            obtain ⟨er, h', tk, L, e2, hS, g, st3⟩ := hr2
            subst er e2
            repeat (any_goals (first | assumption | wp_step))
            exact k _ _ _ hS g st3
          | _ => exact hr2.elim
    | _ => exact hr.elim
theorem set_seq2 {l : Addr} {its : Array Value} {Q : Value → Shared → Prop} (hh : A.handled = none) (hl : s.heap.IsList l its ∨ s.heap.IsTuple l its)
    (Gr : Grow P w A.in1.in1.in1 s.heap s.heap.objs.size I key hs S) (hi : ∀ v ∈ its.toList, I v) {ks : List κ} (cap : ∀ v ∈ its.toList, key v ∈ ks) (few : ks.length < 63)
    (k : ∀ (h' : Heap) (tk : Nat) (L : List Value), S h' L → Took2 key its.toList L → Stay s.heap h' → Q (.ref s.heap.objs.size) { s with heap := h', toks := tk }) : wpAny (model P w) A (call (.type "set") [.ref l]) Q E s := by
  have h3 : A.in1.in1.in1.handled = none := by simp [hh]
  have lt : ∀ {h1 : Heap} {o : Obj}, h1.get? l = some o → l < h1.objs.size := fun e => Heap.lt_size e
  rcases hl with hl | hl
  · obtain ⟨o, ho, oc, n, od⟩ := hl
    refine set_of2 hh ⟨o, ho, oc, n, od⟩ F.sub_list_set F.sub_list_frozenset (by decide) (fun h1 kp s1 E' Q' e1 k1 => ?_) Gr hi cap few k
    subst e1
    have here : s1.heap.IsList l its := ⟨o, kp o ho, oc, n, od⟩
    have near := lt (kp o ho)
    refine wpAny_pyIter_list here ?_
    refine k1 _ _ _ _ _ _ ((Walks.list h3 _ l (Nat.ne_of_lt near) its).toS) ⟨⟨_, Heap.get?_push_size _ rfl, rfl, rfl⟩, here.push _⟩ (fun b o e => Heap.get?_push_of_some _ e) rfl rfl rfl (fun b hb => ?_) (fun b hb => ?_) fun x y z => z
    · rcases List.mem_cons.mp hb with z | z
      · exact .inr (by rw [z]; exact Nat.le_refl _)
      · exact .inl (List.mem_singleton.mp z)
    · rw [List.mem_singleton.mp hb]
      exact Nat.le_refl _
  · obtain ⟨o, ho, oc, n, od⟩ := hl
    refine set_of2 hh ⟨o, ho, oc, n, od⟩ F.sub_tuple_set F.sub_tuple_frozenset (by decide) (fun h1 kp s1 E' Q' e1 k1 => ?_) Gr hi cap few k
    subst e1
    have here : s1.heap.IsTuple l its := ⟨o, kp o ho, oc, n, od⟩
    have near := lt (kp o ho)
    refine wpAny_pyIter_tuple here ?_
    refine k1 _ _ _ _ _ _ ((Walks.tuple h3 _ l (Nat.ne_of_lt near) its).toS) ⟨⟨_, Heap.get?_push_size _ rfl, rfl, rfl⟩, here.push _⟩ (fun b o e => Heap.get?_push_of_some _ e) rfl rfl rfl (fun b hb => ?_) (fun b hb => ?_) fun x y z => z
    · rcases List.mem_cons.mp hb with z | z
      · exact .inr (by rw [z]; exact Nat.le_refl _)
      · exact .inl (List.mem_singleton.mp z)
    · rw [List.mem_singleton.mp hb]
      exact Nat.le_refl _
end
theorem took2_keys {κ : Type} [DecidableEq κ] {key : Value → κ} {vs L out : List Value} (t : Took2 key vs L) (p : out.Perm L) (x : κ) : x ∈ out.map key ↔ x ∈ vs.map key := by
  rw [(p.map key).mem_iff]
  constructor
  · intro h
    obtain ⟨v, mv, rfl⟩ := List.mem_map.mp h
    exact List.mem_map_of_mem (t.sub v mv)
  · intro h
    obtain ⟨v, mv, rfl⟩ := List.mem_map.mp h
    exact t.all v mv
def tSS2 (K : PySem.W.Frag) (ta : TE) : TE := fun σ H Q => ta σ H fun x H1 => ∃ (l : Addr) (xs : List V), x = V.ref l ∧ (SqL K H1 l xs ∨ SqT K H1 l xs) ∧
  ∃ ks : List Str, xs = ks.map V.str ∧ (sortU ltS ks).length < 63 ∧ ∀ p, H1 p = none → Q (.ref p) (upd H1 p (.lst ((sortU ltS ks).map V.str)))
section
variable {X : Cx} {pins : List (Addr × Obj)} {σ : L2.St} {H : Hp} {s : Shared}
theorem pe_ss2 {a : Expr} {ta : TE} {p p2 q pos : Pos} (hc : X.calm = true) (hu : X.A.units + 65 < cLine) (hg : Gl X "sorted") (hm : X.mg "sorted" = none) (hg2 : Gl X "set") (hm2 : X.mg "set" = none) (ha : PE X a ta)
    (na : starEach [a] X.env = (false, eval a X.env) :: starEach [] X.env := by rfl) : PE X (.Call (.Name "sorted" p) [.Call (.Name "set" p2) [a] [] q] [] pos) (tSS2 X.K ta) := by
  refine ⟨fun pins s σ H Q I h => ?_⟩
  refine Call_ (ld_blt I hg hm PyProof.Rows.boot_sorted ?_)
  refine PyProof.Rows.callWith_builtin1 (PyProof.Rows.args_cons ?_ rfl) rfl rfl
  refine Call_ (ld_blt I hg2 hm2 PyProof.Rows.boot_set ?_)
  refine PyProof.Rows.callWith_type1 (PyProof.Rows.args_cons (thn (ha.run pins s σ H _ I h) fun v s1 ⟨x, H1, I1, r1, q1⟩ => PyProof.Rows.args_nil ?_) na) na rfl
  obtain ⟨l, xs, rfl, hseq, ks, ex, few, q1⟩ := q1
  cases r1
  obtain ⟨its, r, hl⟩ : ∃ its : List Value, Vals xs its ∧ (s1.heap.IsList l its.toArray ∨ s1.heap.IsTuple l its.toArray) := by
    rcases hseq with z | z
    · obtain ⟨its, r, pl, _⟩ := I1.list z
      exact ⟨its, r, .inl pl.isList⟩
    · obtain ⟨its, r, pl, _⟩ := I1.tuple z
      exact ⟨its, r, .inr pl⟩
  have len : its.length = xs.length := r.length.symm
  have hd := I1.ok.hd hc
  -- the end, alike for both
  have fin : ∀ (s3 : Shared) (h' : Heap) (tk : Nat) (d : Addr) (out : List Value) (ys : List V), Stay s1.heap h' → Stay h' s3.heap → s3.gens = s1.gens → s3.os = s1.os → h'.get? d = none → (∃ n, s3.heap.get? d = some (seqObj "list" out.toArray n)) → h'.objs.size ≤ d → Vals ys out → ys.length ≤ sizeLine →
      (∀ p, H1 p = none → Q (.ref p) (upd H1 p (.lst ys))) → ∃ x H', Inv X pins σ H' s3 ∧ RelV x (.ref d) ∧ Q x H' := fun s3 h' tk d out ys st1 st2 eg eo hn hp hsz hv hly hq => by
    obtain ⟨n, hp⟩ := hp
    have I2 : Inv X pins σ H1 { s1 with heap := h', toks := tk } := I1.kept fun b o e => st1 b o e
    have fr : H1 d = none := I2.hok.fresh hsz
    refine ⟨.ref d, upd H1 d (.lst ys), ?_, rfl, hq d fr⟩
    refine Inv.call' (ch := []) I2 eo (Un.laid st2 hsz fr) (I2.hok.laid st2 hsz ⟨hly, out, n, hv, ?_⟩) (by rw [eg]; exact I2.bare) (fun _ z => nomatch z)
    exact hp
  · subst ex
    obtain ⟨k1, k2⟩ := vals_txt r
    refine set_seq2 (key := txt) (hs := fun v => hashStr X.w (txt v)) (I := IsTxt) (its := its.toArray) hd hl grow_tx (by simpa using k2) (ks := sortU ltS ks) (fun v mv => (mem_sortU tot_S).mpr (by rw [← k1]; exact List.mem_map_of_mem (by simpa using mv))) few fun h' tk L B tk2 st => ?_
    refine PyProof.Rows.args_nil ?_
    refine sorted_gath (s := { s1 with heap := h', toks := tk }) (tot_S.swo txt) hd B.gath (fun h1 b vs two pm hb kp s2 e2 => ?_) fun s3 d out hs pm st2 eg eo hn hp hsz => ?_
    · subst e2
      exact txt_sortable two fun v hv => B.ok v (pm.mem_iff.mp hv)
    · have ok : ∀ v ∈ out, IsTxt v := fun v hv => B.ok v (pm.mem_iff.mp hv)
      have e : out.map txt = sortU ltS ks := sortU_eq tot_S (List.pairwise_map.mpr hs) ((pm.map txt).nodup_iff.mpr B.nd) fun x => by
        rw [took2_keys tk2 pm x, k1]
      have hv := txt_vals ok
      rw [e] at hv
      have lo : out.length < 64 := by rw [pm.length_eq]; exact B.few
      exact fin s3 h' tk d out _ st st2 eg eo hn hp hsz hv (by rw [hv.length, sizeLine_eq]; omega) q1
end
def ss2G (ds : List D) : Res EV := match strsOf ds with
  | some xs => if (sortU ltS xs).length < 63 then .ok (.own ((sortU ltS xs).map .str)) else .bad
  | none => .bad
def ss2M (m : ME) : ME := fun ρ φ => (m ρ φ).bind fun r => match r.1.toD with
  | .list ds => (ss2G ds).bind fun e => .ok (e, r.2)
  | .tuple ds => (ss2G ds).bind fun e => .ok (e, r.2)
  | _ => .bad
section
variable {X : Cx} {q : Pk} {pos p1 p2 p3 : Pos} {e : Expr} {me : ME}
theorem de_ss2 (hc : X.calm = true) (hu : X.A.units + 65 < cLine) (hg1 : Gl X "sorted") (hm1 : X.mg "sorted" = none) (hg2 : Gl X "set") (hm2 : X.mg "set" = none) (he : DE X q e me)
    (na : starEach [e] X.env = (false, eval e X.env) :: starEach [] X.env := by rfl) :
    DE X q (.Call (.Name "sorted" p1) [.Call (.Name "set" p2) [e] [] p3] [] pos) (ss2M me) := (pe_ss2 hc hu hg1 hm1 hg2 hm2 he na).imp fun σ H Q w => by
  obtain ⟨P, ρ, φ, e, φ', a, h, k⟩ := w
  obtain ⟨⟨e1, φ1⟩, h1, h⟩ := Res.bind_ok h
  dsimp only at h
  refine part a h1 fun v H1 a1 u1 r1 => ?_
  have rr := r1.rep a.live
  have go : ∀ (l : Addr) (ds : List D) (xs : List V), (SqL (q.at X.K).K H1 l xs ∨ SqT (q.at X.K).K H1 l xs) → RepAll (q.at X.K) (hide P H1) ds xs → (ss2G ds).bind (fun e => Res.ok (e, φ1)) = .ok (e, φ') →
      ∃ (l' : Addr) (xs : List V), V.ref l = V.ref l' ∧ (SqL X.K H1 l' xs ∨ SqT X.K H1 l' xs) ∧
  ∃ ks : List Str, xs = ks.map V.str ∧ (sortU ltS ks).length < 63 ∧ ∀ p, H1 p = none → Q (.ref p) (upd H1 p (.lst ((sortU ltS ks).map V.str))) := fun l ds xs hs hr hh => by
    obtain ⟨e2, g, hh⟩ := Res.bind_ok hh
    cases hh
    unfold ss2G at g
    split at g
    · rename_i ks hk
      split at g
      · rename_i few
        cases g
        rw [strsOf_eq hk] at hr
        exact ⟨l, xs, rfl, hs, ks, hr.strs, few, fun n nn => k _ _ (u1.trans (Ext.new nn).up) (a1.fo.ext (hide_ext (Ext.new nn))) (rep_newL (RepAll.of_strs (sortU ltS ks)) u1 nn)⟩
      · cases g
    · cases g
  split at h
  · rename_i ds ed
    rw [ed] at rr
    obtain ⟨l, xs, rfl, g1, g2⟩ := rr
    exact go l ds xs (.inl (SqL.of (hide_of g1).2)) g2 h
  · rename_i ds ed
    rw [ed] at rr
    obtain ⟨l, xs, rfl, g1, g2⟩ := rr
    exact go l ds xs (.inr (TupN.at g1 fun c o _ z => (hide_of z).2).sq) g2 h
  · cases h
end
end VI
namespace VI
open PySem PySem.Spec PyProof.Rows L2
section
variable {X : Cx} {q : Pk} {me : ME}
theorem ds_lcO {i : Nat} {y : Str} {py spos : Pos} {elt tg iter : Expr} {ifs : List Expr} {scope : Scope} {own : List (Str × Nat)} {α : Type} {R : RI α} {mi : MI α} {set : α → Env' → Option Env'} {ws : List Nat} {mt : MT} (vs : List Nat)
    (hc : X.calm = true) (hN : X.N.Nodup) (hy : X.N[i]? = some y) (hyl : X.env.scope.names.lookup y = some .local) (hsw : swapsWith (.ListComp elt [⟨tg, iter, ifs, 0⟩] scope pos) (some (.Name y py)) spos.line X.env = pure true)
    (hi : DI X q tg iter R mi) (ok : BlkOk X.N X.env.scope scope own) (hvs : ∀ i ∈ ws, i ∈ own.map (·.2))
    (hg : ∃ g : TG, (∀ (s : Shared) (H : Hp) (C : Addr) (cl : List (Str × Addr)) (fp : List Addr), PG (X.blk s H scope (compEnvC scope cl C X.env) fp) tg g) ∧
      ∀ (P : Addr → Prop) (H : Hp) (ρ : Env') (σ : L2.St) (a : α) (v : V) (ρ' : Env') (Q : L2.St → Hp → Prop), EnvR (q.at X.K) (hide P H) ρ σ → R P H a v → set a ρ = some ρ' →
        (∀ σ', EnvR (q.at X.K) (hide P H) ρ' σ' → Chg ws σ σ' → (∀ i, i ∉ ws → ρ'[i]? = ρ[i]?) → Q σ' H) → g v σ H Q)
    (ht : ∀ (s : Shared) (H : Hp) (C : Addr) (cl : List (Str × Addr)) (fp : List Addr), DTs (X.blk s H scope (compEnvC scope cl C X.env) fp) q ifs mt)
    (he : ∀ (s : Shared) (H : Hp) (C : Addr) (cl : List (Str × Addr)) (fp : List Addr), DE (X.blk s H scope (compEnvC scope cl C X.env) fp) q elt me) (hs : ∀ x, foldedSetIterable iter X.env x = pure x) :
    DS X q (.Assign [.Name y py] (.ListComp elt [⟨tg, iter, ifs, 0⟩] scope pos) spos) (asgM vs i (lcM (own.map (·.2)) mi set mt me)) := by
  obtain ⟨wi, h1, h2⟩ := hi
  obtain ⟨g, h3, h4⟩ := hg
  exact ds_asg_of vs (ps_setLc (tt := tDT (q.at X.K) mt) (te := tD (q.at X.K) me) hc hN hy hyl hsw h1 ok h3 ht he hs) (wish_lc h2 h4 hvs)
end
section
variable {X : Cx}
def rSortedT (K : PySem.W.Frag) : List V → Hp → VK → Prop := fun vs H Q => ∃ (a : Addr) (bs : List (Addr × List Str)), vs = [V.ref a] ∧ SqL K H a (bs.map fun b => V.ref b.1) ∧ (∀ b ∈ bs, SqT K H b.1 (b.2.map V.str)) ∧ bs.length < 64 ∧ (bs.map (·.2)).Nodup ∧
  ∀ (p : Addr) (cs : List (Addr × List Str)), H p = none → cs.map (·.2) = sortU ltL (bs.map (·.2)) → (∀ c ∈ cs, c ∈ bs) → Q (.ref p) (upd H p (.lst (cs.map fun b => V.ref b.1)))
theorem cr_sortedT (hu : X.A.units + 65 < cLine) : CallR X (.builtin "sorted") (rSortedT X.K) := by
  intro pins s σ H vs us Q I r h
  obtain ⟨a, bs, rfl, hs, ht, h64, nd, q⟩ := h
  obtain ⟨its, rv, hl, _⟩ := I.list hs
  rw [Vals.ref1 r]
  have ei := vals_tt rv
  subst ei
  have ok : ∀ b ∈ bs, IsTT X.prog X.w s.heap (.ref b.1) b.2 := fun b hb => Inv_tt I (ht b hb)
  have ok' : ∀ v ∈ (bs.map fun b => Value.ref b.1), ∃ k, IsTT X.prog X.w s.heap v k := fun v hv => by
    obtain ⟨b, hb, e⟩ := List.mem_map.mp hv
    rw [← e]
    exact ⟨_, ok b hb⟩
  have hL : (bs.map fun b => Value.ref b.1).length ≤ sizeLine := by rw [List.length_map, sizeLine_eq]; omega
  have here := PySem.W.copyHeap_at s.heap (bs.map fun b => Value.ref b.1)
  have old : ∀ b o, s.heap.get? b = some o → (PySem.W.copyHeap s.heap (bs.map fun b => Value.ref b.1)).get? b = some o := fun b o e => PySem.W.copyHeap_old e
  refine PySem.W.sorted_of_sort hl.isList hL (PyProof.Rows.args_sorted1 _) (fun _ => PyProof.Rows.args_list_sort _) fun E' => ?_
  refine SrtO.list_sort_ord (s := { s with heap := PySem.W.copyHeap s.heap (bs.map fun b => Value.ref b.1) }) (tot_L.swo (keyT X.prog X.w s.heap)) here hL
    (fun two => tt_sortable (h0 := s.heap) (by show X.A.units + 2 < cLine; omega) two (fun c o e => ⟨fun z => ?_, old c o e⟩) ok') fun out hs2 hb => ⟨rfl, ?_⟩
  · have q' : c < s.heap.objs.size := Heap.lt_size e
    rw [z] at q'
    exact absurd q' (Nat.not_lt_of_le (Nat.le_succ _))
  · obtain ⟨ep, he'⟩ := PyProof.Rows.sortedHeap_at (vs := bs.map fun b => Value.ref b.1) (out := out.toArray) here
    have pm := hb.perm
    obtain ⟨cs, e1, e2⟩ := lift_tt out fun v hv => pm.mem_iff.mp hv
    subst e1
    have ek : (cs.map fun b => Value.ref b.1).map (keyT X.prog X.w s.heap) = cs.map (·.2) := by
      rw [List.map_map]
      exact List.map_congr_left fun c hc => keyT_of (ok c (e2 c hc))
    have ek2 : (bs.map fun b => Value.ref b.1).map (keyT X.prog X.w s.heap) = bs.map (·.2) := by
      rw [List.map_map]
      exact List.map_congr_left fun c hc => keyT_of (ok c hc)
    have e : cs.map (·.2) = sortU ltL (bs.map (·.2)) := by
      rw [← ek]
      refine sortU_eq tot_L (List.pairwise_map.mpr hs2) ((pm.map _).nodup_iff.mpr (by rw [ek2]; exact nd)) fun x => ?_
      rw [(pm.map _).mem_iff, ek2]
    have lo : cs.length = bs.length := by
      have := pm.length_eq
      rw [List.length_map, List.length_map] at this
      exact this
    have hlen : (cs.map fun b => V.ref b.1).length ≤ sizeLine := by rw [List.length_map, lo, sizeLine_eq]; omega
    exact ⟨.ref _, upd H (s.heap.objs.size + 1) (.lst (cs.map fun b => V.ref b.1)), I.laid (t' := s.toks) (fun b o e => (PyProof.Rows.sortedHeap_old (Nat.ne_of_lt (Nat.lt_succ_of_lt (Heap.lt_size e))) (Heap.lt_size (old b o e))).trans (old b o e)) (Nat.le_succ _) ⟨hlen, _, ep, tt_vals cs, he'⟩, rfl, q _ cs (I.hok.fresh (Nat.le_succ _)) e e2⟩
def srt2G : List D → Res EV
  | [.list ds] => match srtL ds with
    | .ok e => .ok e
    | _ => match tupsOf ds with
      | some xs => if xs.length < 64 ∧ xs.Nodup then .ok (.own ((sortU ltL xs).map tupD)) else .bad
      | none => .bad
  | _ => .bad
theorem cg_srt2 {q : Pk} (hu : X.A.units + 65 < cLine) : CallG X q (.builtin "sorted") srt2G := by
  refine ⟨_, cr_sortedS.or (cr_sortedT hu), ?_⟩
  intro P H xs ds e Q l r h k
  unfold srt2G at h
  split at h
  · rename_i ds
    obtain ⟨v, r', rfl, ⟨a, ys, rfl, h1, h2⟩, rfl⟩ := r
    split at h
    · rename_i e' hs
      cases h
      unfold srtL at hs
      split at hs
      · rename_i ks hk
        split at hs
        · rename_i hz
          cases hs
          rw [strsOf_eq hk] at h2
          rw [RepAll.strs h2] at h1
          refine .inl ⟨a, ks, rfl, SqL.of (hide_of h1).2, hz.1, fun zs p hp hs hn => ?_⟩
          have e : zs = sortU ltS ks := sortU_eq tot_S (sorted_pw hs) (hp.nodup_iff.mpr hz.2) fun x => hp.mem_iff
          rw [e]
          exact k _ _ (Ext.new hn) (rep_newL (RepAll.of_strs _) (Up.refl H) hn)
        · cases hs
      · cases hs
    · split at h
      · rename_i xs hx
        split at h
        · rename_i hz
          cases h
          rw [tupsOf_eq hx] at h2
          obtain ⟨bs, b1, b2, b3⟩ := rep_tups h2
          rw [b2] at h1
          refine .inr ⟨a, bs, rfl, SqL.of (hide_of h1).2, fun b m => (TupN.at (b3 b m) fun c o _ z => (hide_of z).2).sq, by rw [← b1, List.length_map] at hz; exact hz.1, by rw [b1]; exact hz.2, fun p cs hn ec sub => ?_⟩
          have rep := tups_rep (p := q.at X.K) (G := hide P H) (cs := cs) fun c m => b3 c (sub c m)
          rw [ec, b1] at rep
          exact k _ _ (Ext.new hn) (rep_newL rep (Up.refl H) hn)
        · cases h
      · cases h
  · cases h
theorem op_lt_tt (hu : X.A.units < cLine) : OpR X (compareOp .Lt) (fun x y H Q => ∃ (a b : Addr) (k j : List Str), x = .ref a ∧ y = .ref b ∧ SqT X.K H a (k.map V.str) ∧ SqT X.K H b (j.map V.str) ∧ Q (.bl (ltL k j)) H) := by
  rintro pins s σ H x y v u Q I rx ry ⟨a, b, k, j, rfl, rfl, h1, h2, q⟩
  cases rx
  cases ry
  obtain ⟨_, e, t1⟩ := Inv_tt I h1
  cases e
  obtain ⟨_, e, t2⟩ := Inv_tt I h2
  cases e
  show wpAny _ _ (richCompare .Lt (.ref a) (.ref b)) _ _ _
  exact wpAny_richCompare_same_room (op := .Lt) t1.typeIs t2.typeIs F.slot_tuple_lt (tt_call_lt t1 t2 ⟨(fun z => nomatch z), ⟨.bl _, H, I, rfl, q⟩⟩) hu
def lt2G : D → D → Res EV
  | .tuple ds, .tuple es => match strsOf ds, strsOf es with
    | some x, some y => rb (ltL x y)
    | _, _ => .bad
  | d, e => ltG d e
theorem og_lt2 {q : Pk} (hu : X.A.units + 64 < cLine) : OpG X q (compareOp .Lt) lt2G := by
  refine ⟨_, (op_lt.or op_lt_str).or (op_lt_tt (by omega)), ?_⟩
  intro P H x y d1 d2 e Q l r1 r2 h k
  unfold lt2G at h
  split at h
  · split at h
    · rename_i k1 k2 e1 e2
      cases h
      obtain ⟨a, xs, rfl, h1, h2⟩ := r1
      obtain ⟨b, ys, rfl, h3, h4⟩ := r2
      rw [strsOf_eq e1] at h2
      rw [strsOf_eq e2] at h4
      rw [RepAll.strs h2] at h1
      rw [RepAll.strs h4] at h3
      exact .inr ⟨a, b, k1, k2, rfl, rfl, (TupN.at h1 fun c o _ z => (hide_of z).2).sq, (TupN.at h3 fun c o _ z => (hide_of z).2).sq, k _ H (Ext.refl H) rfl⟩
    · cases h
  · unfold ltG rb at h
    split at h
    · cases h; cases r1; cases r2
      exact .inl (.inl ⟨_, _, rfl, rfl, k _ H (Ext.refl H) rfl⟩)
    · cases h; cases r1; cases r2
      exact .inl (.inr ⟨_, _, rfl, rfl, k _ H (Ext.refl H) rfl⟩)
    · cases h
end
end VI
namespace VI
open PySem PySem.Spec PyProof.Rows L2
section
variable {X : Cx} {q : Pk} {a b : Expr} {ma mb : ME} {pos : Pos}
theorem mt_sindex : MtR X "str.index" (fun x xs H Q => ∃ a b i rest, x = .str a ∧ xs = [.str b] ∧ Builtin.Str.occurrences a b 0 a.length 1 = i :: rest ∧ Q (.int i) H) := by
  intro pins s σ H x xs v us Q I rx rs h
  obtain ⟨a, b, i, rest, rfl, rfl, ho, h⟩ := h
  obtain ⟨t, rfl⟩ := rx
  cases rs with
  | cons r1 rs =>
    cases rs
    obtain ⟨u, rfl⟩ := r1
    exact PySem.SC.index ho ⟨.int i, H, I.tok _, ⟨_, rfl⟩, h⟩
def sixG : D → D → Res EV
  | .str a, .str b => match Builtin.Str.occurrences a b 0 a.length 1 with
    | i :: _ => .ok (.dat (.int i))
    | [] => .bad
  | _, _ => .bad
theorem de_sindex {apos : Pos} (ha : DE X q a ma) (hb : DE X q b mb) (hbase : attributeBase a "index" X.env (eval a X.env) = eval a X.env := by rfl)
    (hfew : ((backTo pos (starEach [b] X.env)).all (fun x => !x.1) && (backToKw pos (keywordEach [] X.env)).all (fun x => x.1.isSome) && decide ([b].length + ([] : List Keyword).length + (if ([] : List Keyword).isEmpty then 0 else 1) < 30)) = true := by rfl)
    (hline : (apos.endLine == pos.line) = true := by rfl) (hs : starEach [b] X.env = (false, eval b X.env) :: starEach [] X.env := by rfl) : DE X q (.Call (.Attribute a "index" apos) [b] [] pos) (op2 sixG ma mb) :=
  (pe_bm PySem.F.plainAttrs_str PySem.F.slot_str_index PySem.F.type_str_index mt_sindex ha (pa_cons hb pa_nil hs) hbase hfew hline hs).imp fun σ H Q w => by
    obtain ⟨P, ρ, φ, e, φ', a, h, k⟩ := w
    obtain ⟨e1, φ1, e2, h1, h2, h3⟩ := op2_ok h
    unfold sixG at h3
    split at h3
    · rename_i x y he1 he2
      split at h3
      · rename_i i rest ho
        cases h3
        refine part a h1 fun v1 H1 a1 u1 r1 => ?_
        have q1 := r1.rep a.live
        rw [he1] at q1
        cases q1
        refine ⟨rfl, ?_⟩
        refine part a1 h2 fun v2 H2 a2 u2 r2 => ?_
        have q2 := r2.rep a1.live
        rw [he2] at q2
        cases q2
        exact ⟨x, y, i, rest, rfl, rfl, ho, k _ _ (u1.trans u2) a2.fo rfl⟩
      · cases h3
    · cases h3
end
end VI
namespace VI
open PySem PySem.Spec PyProof.Rows L2
open L2H (RoomH PinOk cxH inv_startH)
/-- what a def promises that is called while the error p is handled -/
structure FnE (P : Program) (w : World) (K : PySem.W.Frag) (mg : Str → Option Value) (base : Heap) (CX : CXT) (k : Nat) (f : Addr) (fd : FuncData) (ps : List Str) (sp : Sp) (p : Addr × Obj) : Prop where
  len : ∀ vs H Q E, sp vs H Q E → vs.length = ps.length
  run : ∀ (A : Around) (outer : List Env) (s : Shared) (H : Hp) (args : Args) (us : List Value) (vs : List V) (Q : VK) (E : XK), A.guards = some [] → RoomH k A → A.handled = some (.ref p.1) → PinOk outer H s p → Env0 P w K mg base A outer s H → BindsTo s fd args (ps.zip us) → Vals vs us → sp vs H Q E →
    codeAny (model P w) A (.call (.ref f) args) (CR CX outer P w H s Q E) s
theorem fnE_of {CX : CXT} {P : Program} {w : World} {K : PySem.W.Frag} {mg : Str → Option Value} {base : Heap} {k : Nat} {x qual : Str} {st : Stmt} {f : Addr} {fd : FuncData} {N ps : List Str} {sp : Sp} {p : Addr × Obj}
    (F : Fun K x qual st f fd) (S : FnScope N ps (defScope st)) (len : ∀ vs H Q E, sp vs H Q E → vs.length = ps.length)
    (hbody : ∀ (cdv : Value) (A : Around) (outer : List Env) (s : Shared) (H : Hp) (vs : List V) (Q : VK) (E : XK), fd.code = cdv → A.guards = some [] → A.handled = some (.ref p.1) →
      RoomH k (A.deeper (envOfC qual (defScope st) s.heap.objs.size f cdv)) → sp vs H Q E →
      ∃ t, PSs (cxH CX P w K mg base N qual (defScope st) f cdv A outer s H E p) (defBody st) t ∧ t { nx := fun _ H' => Q .non H', rt := Q } (L2.start N vs) H) :
    FnE P w K mg base CX (k + 1) f fd ps sp p := by
  obtain ⟨oc, od, kV, doc, pm, an, cdv, ct, osl, rfl, lk, hcd⟩ := F.ex
  refine ⟨len, fun A outer s H args us vs Q E hg hr hot hpin e0 hb r hsp => ?_⟩
  have hl := len _ _ _ _ hsp
  have KX : K.In s.heap := e0.mod.kin.keeps fun b o e => (e0.bs b o e).1
  have lim : s.heap.NoLimit := e0.mod.nolimit.keeps fun b o e => (e0.bs b o e).1
  have hkind : ∀ y ∈ ps.zip us, (defScope st).names.lookup y.1 = some .local ∨ ((defScope st).names.lookup y.1 = some .cell ∧ ((cellsFrom (s.heap.objs.size + 1) (defScope st).names []).lookup y.1).isSome = true) := fun ⟨n, v⟩ hy => by
    rcases S.par n (List.of_mem_zip hy).1 with q | q
    · exact .inl q
    · exact .inr ⟨q, PySem.W.cellsFrom_some _ _ _ (.inl q)⟩
  refine codeAny_call_function hr.depth (KX _ _ lk) rfl S.co S.gen rfl (PySem.W.codeRec_of KX hcd) (hb _ _ _ _ ?_)
  refine wpAny_newFunctionEnv_cells S.kind hkind fun env he s1 x => ?_
  subst he
  refine ⟨lim.keeps x.toInCall.keep, codeAny_func ?_⟩
  obtain ⟨t, ht, hq⟩ := hbody cdv A outer s H vs Q E rfl hg hot (hr.deeper _) hsp
  have I : Inv (cxH CX P w K mg base N qual (defScope st) f cdv A outer s H E p) [] (L2.start N vs) H s1 := inv_startH S hpin e0 hl r x
  refine wpAny_mono (ht.run [] s1 (L2.start N vs) H _ I hq) (fun fl s' hs => ?_) fun e s' hs => hs
  have fin : ∀ {σ' : L2.St} {H' : Hp} {v : V} {u : Value}, Inv (cxH CX P w K mg base N qual (defScope st) f cdv A outer s H E p) [] σ' H' s' → RelV v u → Q v H' → CE outer P w H s Q u s' :=
    fun {σ' H' v u} J rv q => ⟨v, H', J.os, J.bare, J.base, J.hok, rv, q⟩
  cases fl with
  | ret u =>
    obtain ⟨v, σ', H', J, rv, q⟩ := hs
    exact fin J rv q
  | next =>
    obtain ⟨σ', H', J, q⟩ := hs
    exact fin (v := V.non) (u := Value.none) J rfl q
  | brk =>
    obtain ⟨_, _, _, q⟩ := hs
    exact False.elim q
  | cont =>
    obtain ⟨_, _, _, q⟩ := hs
    exact False.elim q
/-- its body stands in a context that is a suite's -/
theorem cxH_suite {CX : CXT} {P : Program} {w : World} {K : PySem.W.Frag} {mg : Str → Option Value} {base : Heap} {N : List Str} {qual : Str} {sc : Scope} {f : Addr} {cdv : Value} {A : Around} {outer : List Env} {s : Shared} {H : Hp} {E : XK} {p : Addr × Obj} (h : A.handled = some (.ref p.1)) :
    (cxH CX P w K mg base N qual sc f cdv A outer s H E p).nox = (cxOf CX P w K mg base N qual sc f cdv A outer s H E).nox.suite p.1 [p] := by
  have e : ((A.deeper (envOfC qual sc s.heap.objs.size f cdv)).mark (some (.ref p.1))) = A.deeper (envOfC qual sc s.heap.objs.size f cdv) := by
    cases A
    cases h
    rfl
  show ({ cxOf CX P w K mg base N qual sc f cdv A outer s H E with calm := false, pn := [p], xe := fun _ _ => False } : Cx) = { cxOf CX P w K mg base N qual sc f cdv A outer s H E with A := ((A.deeper (envOfC qual sc s.heap.objs.size f cdv)).mark (some (.ref p.1))), calm := false, pn := [p], xe := fun _ _ => False }
  rw [e]
  rfl
section
variable {Y : Cx} {CX : CXT} {k : Nat} {f a : Addr} {oe : Obj} {pn : List (Addr × Obj)} {fd : FuncData} {ps : List Str} {sp : Sp} {E : XK} {x : Str} {q pos : Pos} {e : Expr} {es : List Expr} {t : TA}
theorem pe_callE (F : FnE Y.prog Y.w Y.K Y.mg Y.base CX k f fd ps sp (a, oe)) (hG : Y.A.guards = some []) (hr : RoomH k Y.A) (hg : Gl Y x) (hm : Y.mg x = some (.ref f)) (hk : PySem.W.keepIn Y.K (.ref f) = true) (hb : Binds Y.K fd ps []) (hx : Passes CX (Y.suite a ((a, oe) :: pn)) E)
    (ha : PA (Y.suite a ((a, oe) :: pn)) (e :: es) t) (hdb : (x == ("__debug__" : Str)) = false := by decide) (he : starEach (e :: es) Y.env = (false, eval e Y.env) :: starEach es Y.env := by rfl) (hpl : (backTo pos (starEach es Y.env)).any (·.1) = false := by rfl) :
    PE (Y.suite a ((a, oe) :: pn)) (.Call (.Name x q) (e :: es) [] pos) (fun σ H Q => t σ H fun vs H1 => sp vs H1 Q E) := by
  refine ⟨fun pins s σ H Q I h => ?_⟩
  refine wpAny_Call_Name_kw (ld_glob I hg hm ?_ hdb)
  refine PySem.W.callWith_K (h₀ := Y.base) I.ok.mod.kin hk (thn (ha.run pos pins s σ H _ I h) fun us s1 ⟨vs, H1, I1, r, q⟩ => ⟨I1.kIn, ?_⟩) he hpl
  have hl : us.length = ps.length := by rw [← r.length]; exact F.len _ _ _ _ q
  have b := hb s1 us I1.kIn (by rw [List.append_nil]; exact hl)
  rw [List.append_nil] at b
  have P1 := I1.pin (a, oe) (List.mem_append_left _ List.mem_cons_self)
  have hpin : PinOk Y.stack H1 s1 (a, oe) := ⟨P1.1, P1.2.1, fun hm => (List.mem_cons.mp (I1.stkSub a hm)).elim P1.2.2.1 P1.2.2.2.1, P1.2.2.2.2⟩
  have hh : (Y.A.mark (some (.ref a))).handled = some (.ref a) := rfl
  have hr' : RoomH k (Y.A.mark (some (.ref a))) := ⟨hr.dp, hr.un⟩
  refine wpAny_call (codeAny_mono (F.run (Y.A.mark (some (.ref a))) Y.stack s1 H1 ⟨us, []⟩ us vs Q E hG hr' hh hpin I1.env0 b r q) fun r s' hq => ?_)
  cases r with
  | error e => exact hx pins σ H1 s1 e s' I1 hq
  | ok fl =>
    cases fl with
    | ret u => exact I1.after hq
    | next => exact False.elim hq
    | brk => exact False.elim hq
    | cont => exact False.elim hq
end
def spE (K : PySem.W.Frag) (k2 k3 k4 : Str) (T : List (Addr × Str)) (x : Ex) (n : Nat) (m : MF) : Sp := fun vs H Q _ => ∃ (fa ca : Addr) (P : Addr → Prop) (φ : FS) (ds : List D) (e : EV) (φ' : FS), LamX.Tabs T H ∧ ds.length = n ∧ Live P H ∧ FO ⟨K, fa, ca, k2, k3, k4, T, some x⟩ φ (hide P H) ∧
  RepAll ⟨K, fa, ca, k2, k3, k4, T, some x⟩ (hide P H) ds vs ∧ m ds φ = .ok (e, φ') ∧ ∀ v H', Up T H H' → FO ⟨K, fa, ca, k2, k3, k4, T, some x⟩ φ' (hide P H') → RepE ⟨K, fa, ca, k2, k3, k4, T, some x⟩ P H H' e v → Q v H'
theorem spE_len {K : PySem.W.Frag} {k2 k3 k4 : Str} {T : List (Addr × Str)} {x : Ex} {n : Nat} {m : MF} : ∀ vs H Q E, spE K k2 k3 k4 T x n m vs H Q E → vs.length = n := fun vs H Q E h => by
  obtain ⟨fa, ca, P, φ, ds, e, φ', _, h1, _, _, h2, _⟩ := h
  exact h2.len.trans h1
theorem fn_E {P : Program} {w : World} {K : PySem.W.Frag} {mg : Str → Option Value} {base : Heap} {k : Nat} {x qual : Str} {st : Stmt} {f : Addr} {fd : FuncData} {N ps : List Str} {k2 k3 k4 : Str} {T : List (Addr × Str)} {mb : MS} {n : Nat} {xx : Ex} {oe : Obj}
    (F : Fun K x qual st f fd) (S : FnScope N ps (defScope st)) (hn : ps.length = n)
    (body : ∀ (fa ca : Addr) (cdv : Value) (A : Around) (outer : List Env) (s : Shared) (H : Hp) (E : XK), fd.code = cdv → A.guards = some [] → RoomH k (A.deeper (envOfC qual (defScope st) s.heap.objs.size f cdv)) →
      DSs ((cxOf CX0 P w K mg base N qual (defScope st) f cdv A outer s H E).nox.suite xx.ea [(xx.ea, oe)]) ⟨fa, ca, k2, k3, k4, T, some xx⟩ (defBody st) mb) :
    FnE P w K mg base CX0 (k + 1) f fd ps (spE K k2 k3 k4 T xx n (fnM N.length mb)) (xx.ea, oe) := by
  refine fnE_of F S (fun vs H Q E h => (spE_len vs H Q E h).trans hn.symm) fun cdv A outer s H vs Q E hcv hg hh hr h => ?_
  obtain ⟨fa, ca, P1, φ, ds, e, φ', tb0, hl, l, fo, ra, hm, kk⟩ := h
  have bd := body fa ca cdv A outer s H E hcv hg hr
  rw [← cxH_suite (p := (xx.ea, oe)) hh] at bd
  refine ⟨_, bd.nox, ?_⟩
  have hN : vs.length ≤ N.length := by
    have h1 : vs.length = ps.length := by rw [ra.len, hl, hn]
    have h2 := congrArg List.length S.pre
    rw [List.length_take] at h2
    omega
  have S0 : StR ⟨K, fa, ca, k2, k3, k4, T, some xx⟩ H P1 H (startS N.length ds) φ (L2.start N vs) := stR_start tb0 l fo ra hN
  unfold fnM at hm
  obtain ⟨⟨fl, ρ1, φ1⟩, h1, hm⟩ := Res.bind_ok hm
  refine ⟨H, P1, startS N.length ds, φ, (fl, ρ1, φ1), S0, h1, ?_⟩
  cases fl with
  | ret e1 => cases hm; exact fun v H' u f r => kk v H' u f r
  | nx =>
    cases hm
    exact fun σ' H' S' _ => kk .non H' S'.sl.up (S'.fo.less fun b z => .inl z) rfl
  | bk => cases hm
  | ct => cases hm
section
variable {Y : Cx} {q : Pk} {k n : Nat} {f a : Addr} {oe : Obj} {pn : List (Addr × Obj)} {fd : FuncData} {ps : List Str} {x : Str} {p pos : Pos} {e : Expr} {es : List Expr} {m : MF} {ms : MA} {xx : Ex}
theorem de_callE (hq : q.ex = some xx) (F : FnE Y.prog Y.w Y.K Y.mg Y.base CX0 k f fd ps (spE Y.K q.k2 q.k3 q.k4 q.T xx n m) (a, oe)) (hG : Y.A.guards = some []) (hr : RoomH k Y.A) (hg : Gl Y x) (hm : Y.mg x = some (.ref f)) (hk : PySem.W.keepIn Y.K (.ref f) = true) (hb : Binds Y.K fd ps [])
    (ha : DA (Y.suite a ((a, oe) :: pn)) q (e :: es) ms) (hdb : (x == ("__debug__" : Str)) = false := by decide) (he : starEach (e :: es) Y.env = (false, eval e Y.env) :: starEach es Y.env := by rfl) (hpl : (backTo pos (starEach es Y.env)).any (·.1) = false := by rfl) :
    DE (Y.suite a ((a, oe) :: pn)) q (.Call (.Name x p) (e :: es) [] pos) (appM n m ms) := (pe_callE F hG hr hg hm hk hb pass0 ha hdb he hpl).imp fun σ H Q w => by
  obtain ⟨P, ρ, φ, e, φ', a, h, kk⟩ := w
  obtain ⟨⟨ds, φ1⟩, h1, h⟩ := Res.bind_ok h
  dsimp only at h
  obtain ⟨fa, ca, k2, k3, k4, T, ex⟩ := q
  dsimp only at hq
  subst hq
  split at h
  · refine partA a h1 fun vs H1 a1 u1 r1 => ⟨fa, ca, P, φ1, ds, e, φ', a1.tb, by assumption, a1.live, a1.fo, r1, h, fun v H2 u2 f2 r2 => ?_⟩
    exact kk v H2 (u1.trans u2) f2 (r2.old u1)
  · cases h
end
end VI
namespace VI
open PySem PySem.Spec PyProof.Rows L2
theorem roomE {k : Nat} {A : Around} (r : Room k A) : L2H.RoomH k A := ⟨r.dp, r.un⟩
end VI
namespace VI
open PySem PySem.Spec PyProof.Rows L2
theorem ltL_flip {x y : Str} {r s : List Str} (h : x ≠ y) : (!ltL (y :: s) (x :: r)) = !ltS y x := by
  rw [ltL_cons, if_neg (Ne.symm h)]
theorem lex_drop_le {e r : Nat → Bool} {k j : List Str} (he : ∀ i (x y : Str), k[i]? = some x → j[i]? = some y → e i = decide (x = y)) (hr : ∀ i (x y : Str), k[i]? = some x → j[i]? = some y → r i = !ltS y x) :
    ∀ (m i : Nat), i + m = min k.length j.length → Ob.lexAt e r (decide (k.length ≤ j.length)) i m = !ltL (j.drop i) (k.drop i)
  | 0, i, h => by
    rw [Ob.lexAt_zero]
    rcases Nat.lt_or_ge j.length k.length with c | c
    · have e1 : i = j.length := by omega
      rw [decide_eq_false (by omega), List.drop_eq_nil_of_le (as := j) (by omega), List.drop_eq_getElem_cons (l := k) (by omega)]
      rfl
    · rw [decide_eq_true c, List.drop_eq_nil_of_le (as := k) (by omega)]
      cases j.drop i <;> rfl
  | m + 1, i, h => by
    have h1 : i < k.length := by omega
    have h2 : i < j.length := by omega
    rw [Ob.lexAt_succ, lex_drop_le he hr m (i + 1) (by omega), List.drop_eq_getElem_cons h1, List.drop_eq_getElem_cons h2]
    have a := he i _ _ (List.getElem?_eq_getElem h1) (List.getElem?_eq_getElem h2)
    have b := hr i _ _ (List.getElem?_eq_getElem h1) (List.getElem?_eq_getElem h2)
    rw [ltL_cons, a, b]
    by_cases c : k[i] = j[i]
    · rw [decide_eq_true c, if_pos rfl, if_pos c.symm]
    · rw [decide_eq_false c, if_neg Bool.false_ne_true, if_neg (Ne.symm c)]
section
variable {P : Program} {w : World} {A : Around} {s : Shared} {E : Value → Shared → Prop}
theorem tt_call_le {a b : Addr} {k j : List Str} {Q : Value → Shared → Prop} (h1 : IsTupleKey (strKind P w) s.heap k a) (h2 : IsTupleKey (strKind P w) s.heap j b) (h : Q (.bool (!ltL j k)) s) : wpAny (model P w) A (call (.builtin "tuple.__le__") [.ref a, .ref b]) Q E s := by
  have ty := h1.typeIs
  obtain ⟨⟨cls, dd, data, sl⟩, its, n, ho, oc, od, all⟩ := h1
  obtain ⟨⟨cls2, dd2, data2, sl2⟩, its2, n2, ho2, oc2, od2, all2⟩ := h2
  simp only at oc od oc2 od2
  subst oc od oc2 od2
  have l1 := all.length
  have l2 := all2.length
  have l1 : k.length = its.size := l1.trans (Array.length_toList ..)
  have l2 : j.length = its2.size := l2.trans (Array.length_toList ..)
  have g1 : ∀ i (hi : i < its.size), ∃ x t, k[i]? = some x ∧ its[i] = Value.str x t := fun i hi => items_at all i _ (by rw [Array.getElem?_toList]; exact Array.getElem?_eq_getElem hi)
  have g2 : ∀ i (hi : i < its2.size), ∃ x t, j[i]? = some x ∧ its2[i] = Value.str x t := fun i hi => items_at all2 i _ (by rw [Array.getElem?_toList]; exact Array.getElem?_eq_getElem hi)
  refine call_meets F.slot_tuple_le ty F.entry_tuple_le (F.args_tuple_le_2 _ _) (Ob.tuple_leAt a b its its2 n n2 dd dd2 sl sl2 (fun i => decide (k.getD i ⟨#[]⟩ = j.getD i ⟨#[]⟩)) (fun i => !ltS (j.getD i ⟨#[]⟩) (k.getD i ⟨#[]⟩))) ⟨ho, ho2, fun i c1 c2 => ?_, fun i c1 c2 _ => ?_, ?_⟩
  · obtain ⟨x, t, e1, e2⟩ := g1 i c1
    obtain ⟨y, u, e3, e4⟩ := g2 i c2
    rw [e2, e4, List.getD_eq_getElem?_getD, List.getD_eq_getElem?_getD, e1, e3]
    have e5 : (x == y) = decide (x = y) := by
      by_cases c : x = y
      · rw [decide_eq_true c, c, beq_self_eq_true]
      · rw [decide_eq_false c, beq_eq_false_iff_ne.mpr c]
    show SeqAt.EqAt _ s (.str x t) (.str y u) (decide (x = y))
    rw [← e5]
    exact SeqAt.EqAt.str_str x t y u
  · obtain ⟨x, t, e1, e2⟩ := g1 i c1
    obtain ⟨y, u, e3, e4⟩ := g2 i c2
    rw [e2, e4, List.getD_eq_getElem?_getD, List.getD_eq_getElem?_getD, e1, e3]
    exact fun prog w' E' Q' q => PySem.P.le_str q
  · have z := lex_drop_le (k := k) (j := j) (e := fun i => decide (k.getD i ⟨#[]⟩ = j.getD i ⟨#[]⟩)) (r := fun i => !ltS (j.getD i ⟨#[]⟩) (k.getD i ⟨#[]⟩)) (fun i x y e1 e2 => by
      show decide (k.getD i _ = j.getD i _) = _
      rw [List.getD_eq_getElem?_getD, List.getD_eq_getElem?_getD, e1, e2]
      rfl) (fun i x y e1 e2 => by
      show (!ltS (j.getD i _) (k.getD i _)) = _
      rw [List.getD_eq_getElem?_getD, List.getD_eq_getElem?_getD, e1, e2]
      rfl) (min k.length j.length) 0 (by omega)
    rw [List.drop_zero, List.drop_zero, l1, l2] at z
    first
      | (show wants Q E _ _; rw [z]; exact h)
      | (rw [z]; exact h)
end
section
variable {X : Cx}
theorem op_le_tt (hu : X.A.units < cLine) : OpR X (compareOp .LtE) (fun x y H Q => ∃ (a b : Addr) (k j : List Str), x = .ref a ∧ y = .ref b ∧ SqT X.K H a (k.map V.str) ∧ SqT X.K H b (j.map V.str) ∧ Q (.bl (!ltL j k)) H) := by
  rintro pins s σ H x y v u Q I rx ry ⟨a, b, k, j, rfl, rfl, h1, h2, q⟩
  cases rx
  cases ry
  obtain ⟨_, e, t1⟩ := Inv_tt I h1
  cases e
  obtain ⟨_, e, t2⟩ := Inv_tt I h2
  cases e
  show wpAny _ _ (richCompare .LtE (.ref a) (.ref b)) _ _ _
  exact wpAny_richCompare_same_room (op := .LtE) t1.typeIs t2.typeIs F.slot_tuple_le (tt_call_le t1 t2 ⟨(fun z => nomatch z), ⟨.bl _, H, I, rfl, q⟩⟩) hu
def le2G : D → D → Res EV
  | .tuple ds, .tuple es => match strsOf ds, strsOf es with
    | some x, some y => rb (!ltL y x)
    | _, _ => .bad
  | d, e => leG d e
theorem og_le2 {q : Pk} (hu : X.A.units + 64 < cLine) : OpG X q (compareOp .LtE) le2G := by
  obtain ⟨op, h1, h2⟩ := og_le (X := X) (q := q)
  refine ⟨_, h1.or (op_le_tt (by omega)), ?_⟩
  intro P H x y d1 d2 e Q l r1 r2 h k
  unfold le2G at h
  split at h
  · split at h
    · rename_i k1 k2 e1 e2
      cases h
      obtain ⟨a, xs, rfl, h1, h2⟩ := r1
      obtain ⟨b, ys, rfl, h3, h4⟩ := r2
      rw [strsOf_eq e1] at h2
      rw [strsOf_eq e2] at h4
      rw [RepAll.strs h2] at h1
      rw [RepAll.strs h4] at h3
      exact .inr ⟨a, b, k1, k2, rfl, rfl, (TupN.at h1 fun c o _ z => (hide_of z).2).sq, (TupN.at h3 fun c o _ z => (hide_of z).2).sq, k _ H (Ext.refl H) rfl⟩
    · cases h
  · exact .inl (h2 P H x y d1 d2 e Q l r1 r2 h k)
end
end VI
namespace VI
open PySem PySem.Spec PyProof.Rows L2
section
variable {X : Cx} {q : Pk} {pos : Pos} {a : Expr} {ma : ME}
def negM (ma : ME) : ME := fun ρ φ => (ma ρ φ).bind fun r => match r.1 with
  | .dat (.int i) => .ok (.dat (.int (-i)), r.2)
  | _ => .bad
theorem de_negE (ha : DE X q a ma) : DE X q (.UnaryOp .USub a pos) (negM ma) := (pe_un un_neg ha).imp fun σ H Q w => by
  obtain ⟨P, ρ, φ, e, φ', a, h, k⟩ := w
  obtain ⟨⟨c1, φ1⟩, h1, h⟩ := Res.bind_ok h
  refine part a h1 fun v H1 a1 u1 r1 => ?_
  dsimp only at h
  split at h
  · cases r1
    cases h
    exact ⟨_, rfl, k _ H1 u1 a1.fo rfl⟩
  · cases h
end
end VI
namespace VI
open PySem PySem.Spec PyProof.Rows L2
theorem empty_app (x : Str) : Str.empty ++ x = x := by
  cases x with
  | mk a => exact congrArg Str.mk (by first | exact Array.empty_append | simp)
def f3G (w : Str) : D → D → Res EV
  | .str x, .str y => if x.length + w.length + y.length ≤ 16777216 then .ok (.dat (.str (x ++ w ++ y))) else .bad
  | _, _ => .bad
theorem app_len (x y : Str) : (x ++ y).length = x.length + y.length := by
  cases x with
  | mk a => cases y with
    | mk b => exact Array.size_append
section
variable {X : Cx} {q : Pk} {pos p1 p2 p3 : Pos} {a b : Expr} {ma mb : ME}
theorem de_f3 {w : Str} {j : Nat} (ha : DE X q a ma) (hb : DE X q b mb) : DE X q (.JoinedStr [.FormattedValue a (-1) none p1, .Constant (.str w) j p2, .FormattedValue b (-1) none p3] pos) (op2 (f3G w) ma mb) :=
  (pe_joined (.cons (pe_fmt ha) (.cons pe_str (.cons (pe_fmt hb) .nil)))).imp fun σ H Q wsh => by
    obtain ⟨P, ρ, φ, e, φ', a, h, k⟩ := wsh
    obtain ⟨e1, φ1, e2, h1, h2, h3⟩ := op2_ok h
    unfold f3G at h3
    split at h3
    · rename_i x y he1 he2
      split at h3
      · rename_i hz
        cases h3
        have sl : sizeLine = 16777216 := by decide
        refine part a h1 fun v1 H1 a1 u1 r1 => ?_
        have q1 := r1.rep a.live
        rw [he1] at q1
        cases q1
        refine .inl ⟨x, rfl, by omega, x, rfl, by rw [empty_app]; omega, ?_⟩
        refine ⟨w, rfl, by rw [empty_app, app_len]; omega, ?_⟩
        refine part a1 h2 fun v2 H2 a2 u2 r2 => ?_
        have q2 := r2.rep a1.live
        rw [he2] at q2
        cases q2
        refine .inl ⟨y, rfl, by omega, y, rfl, by rw [empty_app, app_len, app_len]; omega, ?_⟩
        rw [empty_app]
        exact k _ H2 (u1.trans u2) a2.fo rfl
      · cases h3
    · cases h3
end
end VI
namespace VI
open PySem PySem.Spec PyProof.Rows L2
def rLst (K : PySem.W.Frag) : List V → Hp → VK → Prop := fun xs H Q => ∃ p ys, xs = [.ref p] ∧ (SqL K H p ys ∨ SqT K H p ys) ∧ ∀ l, H l = none → Q (.ref l) (upd H l (.lst ys))
theorem cr_lst {X : Cx} : CallR X (.type "list") (rLst X.K) := call_list_of
def tFeedL (K : PySem.W.Frag) (k2 k3 k4 : Str) : L2.TS := tRet (tDisp [(tC (.str "cells"), tCB (rLst K) (tCons (L2.tSl (rSlL K) (tVar 0) tNoPart (tPart (tC (.int 63)))) tNil)),
  (tC (.str k2), tC (.int 0)), (tC (.str k3), tC (.int 0)), (tC (.str k4), tC (.int 0))])
theorem feedL_run {K : PySem.W.Frag} {k2 k3 k4 : Str} {T : List (Addr × Str)} {D : Ends} {H : Hp} {vs : List V} {E : XK} {N : List Str} (hN : N.length = 1) (ne : ("cells" : Str) ≠ k2 ∧ ("cells" : Str) ≠ k3 ∧ ("cells" : Str) ≠ k4 ∧ k2 ≠ k3 ∧ k2 ≠ k4 ∧ k3 ≠ k4) (h : spFeed K k2 k3 k4 T vs H D.rt E) :
    tFeedL K k2 k3 k4 D (L2.start N vs) H := by
  obtain ⟨a, ns, rfl, hs, hl, q⟩ := h
  have es : L2.start N [V.ref a] = [some (.ref a)] := by
    unfold L2.start
    rw [hN]
    rfl
  rw [es]
  intro p hp
  have x0 : Ext H (upd H p (.dK [])) := Ext.new hp
  have hs0 : SqL K (upd H p (.dK [])) a (ns.map V.int) := Same.seq (fun b o e => x0.all b o e) hs
  refine ⟨.ref a, rfl, 63, rfl, a, ns.map V.int, rfl, hs0, fun c nc => ?_⟩
  rw [cut_63 hl]
  have x1 : Ext (upd H p (.dK [])) (upd (upd H p (.dK [])) c (.lst (ns.map V.int))) := Ext.new nc
  have pc : p ≠ c := fun z => by rw [z, upd_same] at nc; cases nc
  generalize hH1 : upd (upd H p (.dK [])) c (.lst (ns.map V.int)) = H1 at x1 ⊢
  have c1 : H1 c = some (.lst (ns.map V.int)) := by rw [← hH1, upd_same]
  have p1 : H1 p = some (.dK []) := by rw [← hH1, upd_ne pc, upd_same]
  refine ⟨c, _, rfl, .inl (.inl (.inl c1)), fun d nd => ?_⟩
  have x2 : Ext H1 (upd H1 d (.lst (ns.map V.int))) := Ext.new nd
  have pd : p ≠ d := ne_of_none p1 nd
  have w1 := x2.all
  have w2 : upd H1 d (.lst (ns.map V.int)) d = some (.lst (ns.map V.int)) := upd_same
  generalize upd H1 d (.lst (ns.map V.int)) = H' at w1 w2 ⊢
  refine ⟨w1 p _ p1, [(.inr "cells", .ref d), (.inr k2, .int 0), (.inr k3, .int 0), (.inr k4, .int 0)], rfl, (by show 4 ≤ 15; decide), ?_⟩
  have xe : Ext H (upd H' p (.dK (mergeK [] [(.inr "cells", .ref d), (.inr k2, .int 0), (.inr k3, .int 0), (.inr k4, .int 0)]))) := ⟨fun b o e => by
    rw [upd_ne (ne_of_none e hp)]
    exact w1 b o (x1.all b o (x0.all b o e))⟩
  obtain ⟨n1, n2, n3, n4, n5, n6⟩ := ne
  have em : mergeK [] [(.inr "cells", V.ref d), (.inr k2, V.int 0), (.inr k3, V.int 0), (.inr k4, V.int 0)] = [(.inr "cells", V.ref d), (.inr k2, V.int 0), (.inr k3, V.int 0), (.inr k4, V.int 0)] := by
    simp [mergeK, putK, n1, n2, n3, n4, n5, n6]
  rw [em] at xe ⊢
  exact q p d _ xe ⟨upd_same, by rw [upd_ne (Ne.symm pd)]; exact w2, ExO.no rfl⟩
end VI
namespace VI
open PySem PySem.Spec PyProof.Rows L2
section
variable {prog : Program} {w : World} {A : Around} {E : Value → Shared → Prop} {s : Shared}
/-- the heap when a tuple's items stand in a list of their own -/
abbrev gotH (g : Heap) (vs : List Value) : Heap := (g.push (seqObj "list" #[] 0)).update g.objs.size (Obj.mapSeq (· ++ vs.toArray))
theorem gather_t {t : Addr} {vs : List Value} {Q : List Value → Shared → Prop} (ht : s.heap.IsTuple t vs.toArray) (hs : vs.length ≤ sizeLine) (k : Q vs { s with heap := gotH s.heap vs }) : wpAny (model prog w) A (collect (.ref t)) Q E s := by
  obtain ⟨ob, h1, h2, n, h3⟩ := ht
  have h4 : (s.heap.push (seqObj "list" #[] 0)).get? t = some ob := Heap.get?_push_of_some _ h1
  have h5 : (s.heap.push (seqObj "list" #[] 0)).get? s.heap.objs.size = some (seqObj "list" #[] 0) := Heap.get?_push_size _ rfl
  have fits : (#[] ++ vs.toArray).size ≤ sizeLine + 1 := by simp only [Array.size_append, List.size_toArray, List.length_nil]; omega
  have all : ((#[] : Array Value) ++ vs.toArray).toList = vs := by simp
  have last : wpAny (model prog w) A (do
      let o ← load s.heap.objs.size
      match o.data with
      | .seq xs _ => pure xs.toList
      | _ => unsupported "internal:collect") Q E { s with heap := gotH s.heap vs } := wpAny_bind (wpAny_load (get?_update_seq h5 _) (by
    show wpAny _ _ (pure ((#[] : Array Value) ++ vs.toArray).toList) Q E _
    rw [all]
    exact wpAny_pure k))
  have h6 : s.heap.objs.size ≠ t := fun e => absurd (Heap.lt_size h1) (by rw [e]; exact Nat.lt_irrefl _)
  have tt : (Value.type "tuple" == Value.type "tuple") = true := rfl
  unfold collect
  refine wpAny_bind (wpAny_runValue (codeAny_builtin entry_proto_collect' (?first : wpAny _ _ (do again (.builtin "list.__iadd__" ⟨[← newList [], .ref t], []⟩)) _ _ s)))
  refine wpAny_bind (wpAny_newList (wpAny_pure ⟨Code.quiet_builtin _ (by decide +kernel), codeAny_builtin entry_list_iadd' (?second : wpAny _ _ (Builtin.List.listExtendWith (.ref s.heap.objs.size) (.ref t) (.ref s.heap.objs.size)) _ _ { s with heap := s.heap.push (seqObj "list" #[] 0) })⟩))
  unfold Builtin.List.listExtendWith
  refine wpAny_bind (wpAny_typeOf (T := "tuple") ⟨ob, h4, h2⟩ ?_)
  rw [if_pos (by rw [tt]; simp)]
  refine wpAny_bind (listItems_at h4 h3 (wpAny_bind (listItems_at (n := 0) h5 rfl ?_)))
  rw [if_neg (by simp)]
  refine wpAny_bind (listUpdate_at (n := 0) h5 rfl (wpAny_pure ?_) (Nat.zero_le _) fits)
  exact last
theorem sort_t {t : Addr} {vs : List Value} {ss : List Str} {Q : Value → Shared → Prop} (ht : s.heap.IsTuple t vs.toArray) (hS : StrsAre vs ss) (few : vs.length < 64)
    (k : ∀ (out : Array Value) (ys : List Str), StrsAre out.toList ys → ys.Perm ss → sortedS ys = true → Q (.ref (s.heap.objs.size + 1)) { s with heap := sortedAll s.heap vs out }) : wpAny (model prog w) A (call (.builtin "sorted") [.ref t]) Q E s := by
  have sz : (gotH s.heap vs).objs.size = s.heap.objs.size + 1 := by rw [Heap.size_update, size_push']
  have at1 : ((gotH s.heap vs).push (seqObj "list" vs.toArray 0)).get? (s.heap.objs.size + 1) = some (seqObj "list" vs.toArray 0) := by rw [← sz]; exact Heap.get?_push_size _ rfl
  refine Calls.call_function_entry kind_sorted plain_sorted entry_sorted (args_sorted1 _) ?_
  unfold Builtin.«sorted»
  refine wpAny_bind (m := checkCount "sorted" 1 1 _) (wpAny_pure (wpAny_bind (gather_t ht (by rw [sizeLine_eq]; omega) (wpAny_bind (wpAny_newList ?_)))))
  show wpAny _ _ _ _ _ { s with heap := (gotH s.heap vs).push (seqObj "list" vs.toArray 0) }
  rw [show (gotH s.heap vs).objs.size = _ from sz]
  refine wpAny_bind (wpAny_holding (wpAny_call_entry slot_list_sort ⟨_, at1, rfl⟩ entry_list_sort (list_sort_treeK strKind_oneLt at1 hS.keysOf (fun a b r e => keyKind_strs (by rw [← e]; exact hS)) few fun st hp ho => ⟨_, rfl, ?_⟩) (args_list_sort _)))
  obtain ⟨ys, g1, g2, g3⟩ := sorted_out_str hS hp ho
  exact wpAny_pure ⟨_, rfl, k _ ys g1 g2 g3⟩
end
section
variable {X : Cx}
def rSortedTup (K : PySem.W.Frag) : List V → Hp → VK → Prop := fun vs H Q => ∃ (a : Addr) (xs : List Str), vs = [V.ref a] ∧ SqT K H a (xs.map V.str) ∧ xs.length < 64 ∧
  ∀ (ys : List Str) (p : Addr), ys.Perm xs → sortedS ys = true → H p = none → Q (.ref p) (upd H p (.lst (ys.map V.str)))
theorem cr_sortedTup : CallR X (.builtin "sorted") (rSortedTup X.K) := by
  intro pins s σ H vs us Q I r h
  obtain ⟨a, xs, rfl, hs, few, q⟩ := h
  obtain ⟨its, rv, pl, _⟩ := I.tuple hs
  rw [Vals.ref1 r]
  have len := rv.length
  rw [List.length_map] at len
  refine sort_t pl rv.strs (by rw [← len]; exact few) fun out ys g1 g2 g3 => ?_
  obtain ⟨e, he⟩ := sortedAll_at s.heap its out
  have fits : (ys.map V.str).length ≤ sizeLine := by rw [List.length_map, g2.length_eq, sizeLine_eq]; omega
  exact ⟨.ref _, upd H (s.heap.objs.size + 1) (.lst (ys.map V.str)), I.laid (t' := s.toks) (fun _ _ => sortedAll_old) (Nat.le_succ _) ⟨fits, out.toList, e, vals_of_strs g1, he⟩, rfl, q ys _ g2 g3 (I.hok.fresh (Nat.le_succ _))⟩
def srt3G : List D → Res EV
  | [.tuple ds] => srtL ds
  | xs => srt2G xs
theorem cg_srt3 {q : Pk} (hu : X.A.units + 65 < cLine) : CallG X q (.builtin "sorted") srt3G := by
  obtain ⟨r2, h2, g2⟩ := cg_srt2 (X := X) (q := q) hu
  refine ⟨_, h2.or cr_sortedTup, ?_⟩
  intro P H xs ds e Q l r h k
  unfold srt3G at h
  split at h
  · rename_i dt
    obtain ⟨v, r', rfl, ⟨a, ys, rfl, h1, h2⟩, rfl⟩ := r
    unfold srtL at h
    split at h
    · rename_i ks hk
      split at h
      · rename_i hz
        cases h
        rw [strsOf_eq hk] at h2
        rw [RepAll.strs h2] at h1
        refine .inr ⟨a, ks, rfl, (TupN.at h1 fun c o _ z => (hide_of z).2).sq, hz.1, fun zs p hp hs hn => ?_⟩
        have e : zs = sortU ltS ks := sortU_eq tot_S (sorted_pw hs) (hp.nodup_iff.mpr hz.2) fun x => hp.mem_iff
        rw [e]
        exact k _ _ (Ext.new hn) (rep_newL (RepAll.of_strs _) (Up.refl H) hn)
      · cases h
    · cases h
  · exact .inl (g2 P H xs _ e Q l r h k)
end
end VI
namespace VI
open PySem PySem.Spec PyProof.Rows L2
mutual
def plain : D → Bool
  | .none => true
  | .bool _ => true
  | .int _ => false
  | .str x => PyData.strOk x && PyData.strOk (reprText x)
  | .list ds => plainAll ds
  | .tuple ds => plainAll ds
  | .dict _ => false
def plainAll : List D → Bool
  | [] => true
  | d :: ds => plain d && plainAll ds
end
mutual
def sz : D → Nat
  | .none => 4
  | .bool _ => 5
  | .int _ => 0
  | .str x => (reprText x).length
  | .list ds => szAll ds + 4
  | .tuple ds => szAll ds + 4
  | .dict _ => 0
def szAll : List D → Nat
  | [] => 0
  | d :: ds => sz d + 2 + szAll ds
end
theorem strLen_app (x y : Str) : (x ++ y).length = x.length + y.length := strLen_append x y
theorem tupleText_le (ts : List Str) : (tupleText ts).length ≤ piled ts + 3 := by
  unfold tupleText
  rw [strLen_app, strLen_app]
  have e1 : ((("(" : String) : Str)).length = 1 := rfl
  have e2 : ((if (ts.length == 1) = true then (",)" : String) else ")" : String) : Str).length ≤ 2 := by split <;> decide
  by_cases h : ts = []
  · subst h
    have e3 : (Str.join ", " []).length = 0 := rfl
    rw [e1, e3]
    omega
  · have := join_length_add ts h
    rw [e1]
    omega
theorem listText_le (ts : List Str) : (listText ts).length ≤ piled ts + 3 := by
  unfold listText
  cases ts with
  | nil => exact (by decide : (textFrom 0 "[" [] ++ (("]" : String) : Str)).length ≤ 0 + 3)
  | cons t r =>
    have h := textFrom_length_pos r 1 ((("[" : String) : Str) ++ (("" : String) : Str) ++ t) (by omega)
    have e : textFrom 0 "[" (t :: r) = textFrom 1 ((("[" : String) : Str) ++ (("" : String) : Str) ++ t) r := rfl
    rw [strLen_app, e, h, strLen_app, strLen_app, piled_cons]
    have e1 : ((("[" : String) : Str)).length = 1 := rfl
    have e2 : ((("]" : String) : Str)).length = 1 := rfl
    have e3 : ((("" : String) : Str)).length = 0 := rfl
    omega
mutual
theorem shown_le : ∀ d : D, plain d = true → d.shown.length ≤ sz d
  | .none, _ => (by decide : (PyData.none).shown.length ≤ 4)
  | .bool true, _ => (by decide : (PyData.bool true).shown.length ≤ 5)
  | .bool false, _ => (by decide : (PyData.bool false).shown.length ≤ 5)
  | .int _, h => by simp [plain] at h
  | .str x, _ => Nat.le_refl _
  | .list ds, h => by
    have := shown_all ds (by simpa only [plain] using h)
    have h2 := listText_le (PyData.shownAll ds)
    show (listText (PyData.shownAll ds)).length ≤ szAll ds + 4
    omega
  | .tuple ds, h => by
    have := shown_all ds (by simpa only [plain] using h)
    have h2 := tupleText_le (PyData.shownAll ds)
    show (tupleText (PyData.shownAll ds)).length ≤ szAll ds + 4
    omega
  | .dict _, h => by simp [plain] at h
theorem shown_all : ∀ ds : List D, plainAll ds = true → piled (PyData.shownAll ds) ≤ szAll ds
  | [], _ => Nat.le_refl _
  | d :: ds, h => by
    simp only [plainAll, Bool.and_eq_true] at h
    have h1 := shown_le d h.1
    have h2 := shown_all ds h.2
    show piled (d.shown :: PyData.shownAll ds) ≤ sz d + 2 + szAll ds
    rw [piled_cons]
    omega
end
mutual
theorem lay_plain : ∀ d : D, plain d = true → d.canLay0 = true ∧ d.showable = true
  | .none, _ => ⟨rfl, rfl⟩
  | .bool _, _ => ⟨rfl, rfl⟩
  | .int _, h => by simp [plain] at h
  | .str x, h => by
    simp only [plain, Bool.and_eq_true] at h
    exact ⟨h.1, rfl⟩
  | .list ds, h => lay_all ds (by simpa only [plain] using h)
  | .tuple ds, h => lay_all ds (by simpa only [plain] using h)
  | .dict _, h => by simp [plain] at h
theorem lay_all : ∀ ds : List D, plainAll ds = true → PyData.canLayAll0 ds = true ∧ PyData.showableAll ds = true
  | [], _ => ⟨rfl, rfl⟩
  | d :: ds, h => by
    simp only [plainAll, Bool.and_eq_true] at h
    obtain ⟨a, b⟩ := lay_plain d h.1
    obtain ⟨a2, b2⟩ := lay_all ds h.2
    exact ⟨by simp [PyData.canLayAll0, a, a2], by simp [PyData.showableAll, b, b2]⟩
end
theorem strOk_iff {x : Str} : PyData.strOk x = true ↔ ∀ c ∈ x.cps.toList, c < 0x110000 := by
  unfold PyData.strOk
  rw [← Array.all_toList, List.all_eq_true]
  exact ⟨fun h c m => of_decide_eq_true (h c m), fun h c m => decide_eq_true (h c m)⟩
theorem strOk_app {x y : Str} (h1 : PyData.strOk x = true) (h2 : PyData.strOk y = true) : PyData.strOk (x ++ y) = true := by
  rw [strOk_iff] at *
  intro c m
  have e : (x ++ y).cps.toList = x.cps.toList ++ y.cps.toList := Array.toList_append
  rw [e] at m
  rcases List.mem_append.mp m with q | q
  · exact h1 c q
  · exact h2 c q
theorem strOk_join : ∀ ts : List Str, (∀ t ∈ ts, PyData.strOk t = true) → PyData.strOk (Str.join ", " ts) = true
  | [], _ => (by decide +kernel : PyData.strOk (Str.join ", " []) = true)
  | [x], h => h x List.mem_cons_self
  | x :: y :: r, h => strOk_app (strOk_app (h x List.mem_cons_self) (by decide +kernel)) (strOk_join (y :: r) fun t m => h t (List.mem_cons_of_mem _ m))
theorem strOk_from : ∀ (ts : List Str) (k : Nat) (acc : Str), (∀ t ∈ ts, PyData.strOk t = true) → PyData.strOk acc = true → PyData.strOk (textFrom k acc ts) = true
  | [], _, acc, _, h => h
  | t :: ts, k, acc, ht, h => by
    show PyData.strOk (textFrom (k + 1) (acc ++ (if k > 0 then ", " else "" : String) ++ t) ts) = true
    refine strOk_from ts (k + 1) _ (fun u m => ht u (List.mem_cons_of_mem _ m)) (strOk_app (strOk_app h ?_) (ht t List.mem_cons_self))
    split <;> decide +kernel
theorem strOk_tuple {ts : List Str} (h : ∀ t ∈ ts, PyData.strOk t = true) : PyData.strOk (tupleText ts) = true := by
  unfold tupleText
  refine strOk_app (strOk_app (by decide +kernel) (strOk_join ts h)) ?_
  split <;> decide +kernel
theorem strOk_list {ts : List Str} (h : ∀ t ∈ ts, PyData.strOk t = true) : PyData.strOk (listText ts) = true := strOk_app (strOk_from ts 0 _ h (by decide +kernel)) (by decide +kernel)
mutual
theorem shown_ok : ∀ d : D, plain d = true → PyData.strOk d.shown = true
  | .none, _ => (by decide +kernel : PyData.strOk (PyData.none).shown = true)
  | .bool true, _ => (by decide +kernel : PyData.strOk (PyData.bool true).shown = true)
  | .bool false, _ => (by decide +kernel : PyData.strOk (PyData.bool false).shown = true)
  | .int _, h => by simp [plain] at h
  | .str x, h => by
    simp only [plain, Bool.and_eq_true] at h
    exact h.2
  | .list ds, h => strOk_list (shown_oks ds (by simpa only [plain] using h))
  | .tuple ds, h => strOk_tuple (shown_oks ds (by simpa only [plain] using h))
  | .dict _, h => by simp [plain] at h
theorem shown_oks : ∀ ds : List D, plainAll ds = true → ∀ t ∈ PyData.shownAll ds, PyData.strOk t = true
  | [], _, t, m => by cases m
  | d :: ds, h, t, m => by
    simp only [plainAll, Bool.and_eq_true] at h
    rcases List.mem_cons.mp (show t ∈ d.shown :: PyData.shownAll ds from m) with e | q
    · rw [e]; exact shown_ok d h.1
    · exact shown_oks ds h.2 t q
end
theorem shaped_of {d : D} (h : plain d = true) (hd : d.depth ≤ 64) : SeqAt.shaped d = true := by
  unfold SeqAt.shaped
  rw [(lay_plain d h).1, decide_eq_true hd]
  rfl
theorem repr_of {d : D} (h : plain d = true) (hd : d.depth ≤ 64) (hs : sz d ≤ 1000000) : reprG [d] = .ok (.dat (.str d.shown)) := by
  show (if _ then _ else _) = _
  rw [if_pos ⟨shaped_of h hd, (lay_plain d h).2, Nat.le_trans (shown_le d h) (small6 hs)⟩]
end VI
namespace VI
open PySem PySem.Spec PyProof.Rows L2
section
variable {ρ : Env'} {σ : EnvS} {φ φ1 φ2 : FS} {m m1 m2 : ME} {ms : MA} {t t1 t2 : MT} {s s1 s2 : MS} {g : D → D → Res EV} {gs : List D → Res EV} {d d1 d2 : D} {ds : List D} {e : EV} {vs : List Nat} {i : Nat} {α : Type}
@[simp] theorem bind_e {β γ : Type} {a : β} {f : β → Res γ} : Res.bind (.ok a) f = f a := nrfl rfl
@[simp] theorem toD_dat : EV.toD (.dat d) = d := nrfl rfl
@[simp] theorem toD_own : EV.toD (.own ds) = .list ds := nrfl rfl
@[simp] theorem rb_e {b : Bool} : rb b = .ok (.dat (.bool b)) := nrfl rfl
@[simp] theorem cD_e : cD d ρ φ = .ok (.dat d, φ) := nrfl rfl
theorem vD_e (h : ρ[i]? = some (some d)) : vD i ρ φ = .ok (.dat d, φ) := by
  unfold vD
  rw [h]
@[simp] theorem vD0 : vD 0 (some d :: ρ) φ = .ok (.dat d, φ) := nrfl rfl
@[simp] theorem vDs {x : Option D} : vD (i + 1) (x :: ρ) φ = vD i ρ φ := nrfl rfl
@[simp] theorem nilA_e : nilA ρ φ = .ok ([], φ) := nrfl rfl
@[simp] theorem consA_e : consA m ms ρ φ = (m ρ φ).bind fun r => (ms ρ r.2).bind fun r2 => .ok (r.1.toD :: r2.1, r2.2) := nrfl rfl
@[simp] theorem callM_e : callM gs ms ρ φ = (ms ρ φ).bind fun r => (gs r.1).bind fun e => .ok (e, r.2) := nrfl rfl
@[simp] theorem op2_e : op2 g m1 m2 ρ φ = (m1 ρ φ).bind fun r1 => (m2 ρ r1.2).bind fun r2 => (g r1.1.toD r2.1.toD).bind fun e => .ok (e, r2.2) := nrfl rfl
@[simp] theorem tst_b : tst m ρ φ = (m ρ φ).bind fun r => match r.1 with | .dat (.bool b) => .ok (b, r.2) | _ => .bad := nrfl rfl
@[simp] theorem soM_b : soM m ρ φ = (m ρ φ).bind fun r => match r.1 with | .dat (.int i) => .ok (some i, r.2) | _ => .bad := nrfl rfl
theorem tst_e {b : Bool} (h : m ρ φ = .ok (.dat (.bool b), φ1)) : tst m ρ φ = .ok (b, φ1) := by
  unfold tst
  rw [h]
  rfl
@[simp] theorem notT_e : notT t ρ φ = (t ρ φ).bind fun r => .ok (!r.1, r.2) := nrfl rfl
@[simp] theorem orT_e : orT t1 t2 ρ φ = (t1 ρ φ).bind fun r => if r.1 = true then .ok (true, r.2) else t2 ρ r.2 := nrfl rfl
@[simp] theorem andT_e : andT t1 t2 ρ φ = (t1 ρ φ).bind fun r => if r.1 = true then t2 ρ r.2 else .ok (false, r.2) := nrfl rfl
theorem andM_t (h : m1 ρ φ = .ok (.dat (.bool true), φ1)) : andM m1 m2 ρ φ = m2 ρ φ1 := by
  unfold andM
  rw [h]
  rfl
theorem andM_f (h : m1 ρ φ = .ok (.dat (.bool false), φ1)) : andM m1 m2 ρ φ = .ok (.dat (.bool false), φ1) := by
  unfold andM
  rw [h]
  rfl
theorem andM_b {b c : Bool} (h : m1 ρ φ = .ok (.dat (.bool b), φ1)) (h2 : b = true → m2 ρ φ1 = .ok (.dat (.bool c), φ1)) : andM m1 m2 ρ φ = .ok (.dat (.bool (b && c)), φ1) := by
  cases b with
  | true => rw [andM_t h, h2 rfl]; rfl
  | false => rw [andM_f h]; rfl
@[simp] theorem ifM_e : ifM t m1 m2 ρ φ = (t ρ φ).bind fun r => if r.1 = true then m1 ρ r.2 else m2 ρ r.2 := nrfl rfl
@[simp] theorem tupM_e : tupM ms ρ φ = (ms ρ φ).bind fun r => if r.1.length ≤ 1000000 then .ok (.dat (.tuple r.1), r.2) else .bad := nrfl rfl
@[simp] theorem lstM_e : lstM ms ρ φ = (ms ρ φ).bind fun r => if r.1.length ≤ 1000000 then .ok (.own r.1, r.2) else .bad := nrfl rfl
@[simp] theorem isiM_e {T : String} : isiM T m ρ φ = (m ρ φ).bind fun r => isiD T r.1.toD r.2 := nrfl rfl
@[simp] theorem isiD_n {T : String} : isiD T .none φ = .ok (.dat (.bool (isiB T .none)), φ) := nrfl rfl
@[simp] theorem isiD_b {T : String} {b : Bool} : isiD T (.bool b) φ = .ok (.dat (.bool (isiB T (.bool b))), φ) := nrfl rfl
@[simp] theorem isiD_i {T : String} {z : Int} : isiD T (.int z) φ = .ok (.dat (.bool (isiB T (.int z))), φ) := nrfl rfl
@[simp] theorem isiD_s {T : String} {z : Str} : isiD T (.str z) φ = .ok (.dat (.bool (isiB T (.str z))), φ) := nrfl rfl
@[simp] theorem isiD_l {T : String} {ds : List D} : isiD T (.list ds) φ = .ok (.dat (.bool (isiB T (.list ds))), φ) := nrfl rfl
@[simp] theorem isiD_t {T : String} {ds : List D} : isiD T (.tuple ds) φ = .ok (.dat (.bool (isiB T (.tuple ds))), φ) := nrfl rfl
theorem isiD_p {T : String} {d : D} (h : plnB d = true) : isiD T d φ = .ok (.dat (.bool (isiB T d)), φ) := if_pos h
@[simp] theorem isi_tup : isiB "tuple" (.tuple ds) = true := nrfl rfl
@[simp] theorem isi_str {x : Str} : isiB "str" (.str x) = true := nrfl rfl
@[simp] theorem slM_e {lo hi : MO} : slM m lo hi ρ φ = (m ρ φ).bind fun r => (lo ρ r.2).bind fun r1 => (hi ρ r1.2).bind fun r2 => (slG r.1.toD r1.1 r2.1).bind fun e => .ok (e, r2.2) := nrfl rfl
@[simp] theorem noM_e : noM ρ φ = .ok (none, φ) := nrfl rfl
theorem soM_e {z : Int} (h : m ρ φ = .ok (.dat (.int z), φ1)) : soM m ρ φ = .ok (some z, φ1) := by
  unfold soM
  rw [h]
  rfl
theorem lst2 {e1 e2 : EV} (h1 : m1 ρ φ = .ok (e1, φ1)) (h2 : m2 ρ φ1 = .ok (e2, φ2)) : lstM (consA m1 (consA m2 nilA)) ρ φ = .ok (.own [e1.toD, e2.toD], φ2) := by
  rw [lstM_e, consA_e, h1, bind_e, consA_e, h2]
  rfl
theorem app_e {n : Nat} {f : MF} (h : ms ρ φ = .ok (ds, φ1)) (hn : ds.length = n) : appM n f ms ρ φ = f ds φ1 := by
  unfold appM
  rw [h, bind_e, if_pos hn]
@[simp] theorem app0_e {f : MF} : appM 0 f nilA ρ φ = f [] φ := nrfl rfl
theorem bind_assoc' {β γ δ : Type} {r : Res β} {f : β → Res γ} {g : γ → Res δ} : (r.bind f).bind g = r.bind fun x => (f x).bind g := by
  cases r <;> rfl
@[simp] theorem app1_e {f : MF} : appM 1 f (consA m nilA) ρ φ = (m ρ φ).bind fun r => f [r.1.toD] r.2 := by
  unfold appM consA
  cases m ρ φ <;> rfl
@[simp] theorem app2_e {f : MF} : appM 2 f (consA m1 (consA m2 nilA)) ρ φ = (m1 ρ φ).bind fun r1 => (m2 ρ r1.2).bind fun r2 => f [r1.1.toD, r2.1.toD] r2.2 := by
  unfold appM consA
  cases m1 ρ φ with
  | ok r1 =>
    simp only [bind_e]
    cases m2 ρ r1.2 <;> rfl
  | exc c xs => rfl
  | bad => rfl
@[simp] theorem app3_e {f : MF} {m3 : ME} : appM 3 f (consA m1 (consA m2 (consA m3 nilA))) ρ φ = (m1 ρ φ).bind fun r1 => (m2 ρ r1.2).bind fun r2 => (m3 ρ r2.2).bind fun r3 => f [r1.1.toD, r2.1.toD, r3.1.toD] r3.2 := by
  unfold appM consA
  cases m1 ρ φ with
  | ok r1 =>
    simp only [bind_e]
    cases m2 ρ r1.2 with
    | ok r2 =>
      simp only [bind_e]
      cases m3 ρ r2.2 <;> rfl
    | exc c xs => rfl
    | bad => rfl
  | exc c xs => rfl
  | bad => rfl
@[simp] theorem soft_n : soft [] [] = [] := nrfl rfl
theorem soft_c {x : Option EV} : soft [] (x :: σ) = soft1 [] 0 x :: soft [] σ := by
  unfold soft
  rw [List.mapIdx_cons]
  congr 1
@[simp] theorem soft_o : soft [] (none :: σ) = none :: soft [] σ := soft_c
@[simp] theorem soft_d : soft [] (some (.dat d) :: σ) = some d :: soft [] σ := soft_c
@[simp] theorem soft_w : soft [] (some (.own ds) :: σ) = none :: soft [] σ := by rw [soft_c]; simp [soft1]
@[simp] theorem settle_nil : settle [] σ = σ := by
  unfold settle
  refine (List.mapIdx_eq_iff.mpr fun i => ?_)
  cases σ[i]? with
  | none => rfl
  | some x => cases x with
    | none => rfl
    | some y => cases y <;> simp [settle1]
@[simp] theorem aft_nil : aft [] e σ = σ := by
  unfold aft
  rw [settle_nil]
  split <;> rfl
@[simp] theorem start_nil {n : Nat} : startS n [] = List.replicate n none := nrfl rfl
@[simp] theorem start_cons {n : Nat} : startS (n + 1) (d :: ds) = some (.dat d) :: startS n ds := by
  unfold startS
  simp
@[simp] theorem nxM_e : nxM σ φ = .ok (.nx, σ, φ) := nrfl rfl
theorem seq_nx {σ1 : EnvS} (h : s1 σ φ = .ok (.nx, σ1, φ1)) : seqM s1 s2 σ φ = s2 σ1 φ1 := by
  unfold seqM
  rw [h]
  rfl
theorem seq_rt {σ1 : EnvS} (h : s1 σ φ = .ok (.ret e, σ1, φ1)) : seqM s1 s2 σ φ = .ok (.ret e, σ1, φ1) := by
  unfold seqM
  rw [h]
  rfl
theorem if_t (h : t (soft vs σ) φ = .ok (true, φ1)) : ifS vs t s1 s2 σ φ = s1 σ φ1 := by
  unfold ifS
  rw [h]
  rfl
theorem if_f (h : t (soft vs σ) φ = .ok (false, φ1)) : ifS vs t s1 s2 σ φ = s2 σ φ1 := by
  unfold ifS
  rw [h]
  rfl
theorem ret_e (h : m (soft vs σ) φ = .ok (e, φ1)) : retM vs m σ φ = .ok (.ret e, σ, φ1) := by
  unfold retM
  rw [h]
  rfl
theorem drop_e (h : m (soft vs σ) φ = .ok (e, φ1)) : dropM vs m σ φ = .ok (.nx, σ, φ1) := by
  unfold dropM
  rw [h]
  rfl
theorem asgD_e (h : m (soft vs σ) φ = .ok (e, φ1)) (hi : i < σ.length) : asgD vs i m σ φ = .ok (.nx, (aft vs e σ).set i (some (.dat e.toD)), φ1) := by
  unfold asgD
  rw [h, bind_e, if_pos hi]
theorem asgM_e (h : m (soft vs σ) φ = .ok (e, φ1)) (hi : i < σ.length) : asgM vs i m σ φ = .ok (.nx, (aft vs e σ).set i (some e), φ1) := by
  unfold asgM
  rw [h, bind_e, if_pos hi]
theorem fn_rt {n : Nat} {σ1 : EnvS} (h : s (startS n ds) φ = .ok (.ret e, σ1, φ1)) : fnM n s ds φ = .ok (e, φ1) := by
  unfold fnM
  rw [h]
  rfl
theorem fn_nx {n : Nat} {σ1 : EnvS} (h : s (startS n ds) φ = .ok (.nx, σ1, φ1)) : fnM n s ds φ = .ok (.dat .none, φ1) := by
  unfold fnM
  rw [h]
  rfl
theorem lcGo_pure {set : α → Env' → Option Env'} {ρ0 : Env'} {b : α → Bool} {f : α → D} : ∀ as : List α, (∀ a ∈ as, ∃ ρ1, set a ρ0 = some ρ1 ∧ t ρ1 φ = .ok (b a, φ) ∧ (b a = true → ∃ e, m ρ1 φ = .ok (e, φ) ∧ e.toD = f a)) →
    lcGo set t m ρ0 as φ = .ok ((as.filter b).map f, φ)
  | [], _ => rfl
  | a :: as, h => by
    obtain ⟨ρ1, h1, h2, h3⟩ := h a List.mem_cons_self
    have ih := lcGo_pure as fun x hx => h x (List.mem_cons_of_mem _ hx)
    unfold lcGo
    rw [h1]
    dsimp only
    rw [h2, bind_e]
    cases hb : b a with
    | true =>
      obtain ⟨e, h4, h5⟩ := h3 hb
      rw [if_pos rfl, h4, bind_e, ih, bind_e, List.filter_cons, hb, if_pos rfl, List.map_cons, h5]
    | false => rw [if_neg Bool.false_ne_true, ih, List.filter_cons, hb, if_neg Bool.false_ne_true]
theorem lc_pure {own : List Nat} {mi : MI α} {set : α → Env' → Option Env'} {as : List α} (b : α → Bool) (f : α → D) (hi : mi ρ φ = .ok (as, φ1)) (hl : as.length ≤ 1000000)
    (h : ∀ a ∈ as, ∃ ρ1, set a (wipeD ρ own) = some ρ1 ∧ t ρ1 φ1 = .ok (b a, φ1) ∧ (b a = true → ∃ e, m ρ1 φ1 = .ok (e, φ1) ∧ e.toD = f a)) : lcM own mi set t m ρ φ = .ok (.own ((as.filter b).map f), φ1) := by
  unfold lcM
  rw [hi, bind_e, if_pos hl, lcGo_pure as h]
  rfl
theorem lc_all {own : List Nat} {mi : MI α} {set : α → Env' → Option Env'} {as : List α} (f : α → D) (hi : mi ρ φ = .ok (as, φ1)) (hl : as.length ≤ 1000000)
    (h : ∀ a ∈ as, ∃ ρ1, set a (wipeD ρ own) = some ρ1 ∧ ∃ e, m ρ1 φ1 = .ok (e, φ1) ∧ e.toD = f a) : lcM own mi set yesT m ρ φ = .ok (.own (as.map f), φ1) := by
  have := lc_pure (t := yesT) (own := own) (set := set) (m := m) (fun _ => true) f hi hl fun a ha => by
    obtain ⟨ρ1, h1, e, h2, h3⟩ := h a ha
    exact ⟨ρ1, h1, rfl, fun _ => ⟨e, h2, h3⟩⟩
  rwa [List.filter_eq_self.mpr fun _ _ => rfl] at this
/-- a loop that leaves at the first hit -/
theorem forGo_find {set : α → EnvS → Option EnvS} {mb : MS} {as : List α} (I : EnvS → Prop) (b : α → Bool) (e : EV) (h : ∀ a ∈ as, ∀ σ, I σ → ∃ σ1, set a σ = some σ1 ∧ (b a = true → ∃ σ2, mb σ1 φ = .ok (.ret e, σ2, φ)) ∧ (b a = false → ∃ σ2, I σ2 ∧ mb σ1 φ = .ok (.nx, σ2, φ))) : ∀ σ, I σ →
    (as.any b = true → ∃ σ', forGo set mb as σ φ = .ok (.ret e, σ', φ)) ∧ (as.any b = false → ∃ σ', I σ' ∧ forGo set mb as σ φ = .ok (.nx, σ', φ)) := by
  induction as with
  | nil => exact fun σ hI => ⟨fun z => (by cases z), fun _ => ⟨σ, hI, rfl⟩⟩
  | cons a as ih =>
    intro σ hI
    obtain ⟨σ1, h1, h2, h3⟩ := h a List.mem_cons_self σ hI
    unfold forGo
    rw [h1]
    dsimp only
    cases hb : b a with
    | true =>
      obtain ⟨σ2, h4⟩ := h2 hb
      exact ⟨fun _ => ⟨σ2, by rw [h4]; rfl⟩, fun z => by rw [List.any_cons, hb] at z; cases z⟩
    | false =>
      obtain ⟨σ2, h4, h5⟩ := h3 hb
      obtain ⟨g1, g2⟩ := ih (fun x hx => h x (List.mem_cons_of_mem _ hx)) σ2 h4
      rw [List.any_cons, hb, Bool.false_or]
      refine ⟨fun z => ?_, fun z => ?_⟩
      · obtain ⟨σ', g⟩ := g1 z
        exact ⟨σ', by rw [h5]; exact g⟩
      · obtain ⟨σ', g, k⟩ := g2 z
        exact ⟨σ', g, by rw [h5]; exact k⟩
/-- a loop that keeps an invariant -/
theorem forGo_inv {set : α → EnvS → Option EnvS} {mb : MS} (I : List α → EnvS → FS → Prop) : ∀ (as done : List α), (∀ pre a post σ φ, done ++ as = pre ++ a :: post → I pre σ φ → ∃ σ1, set a σ = some σ1 ∧ ∃ σ2 φ2, mb σ1 φ = .ok (.nx, σ2, φ2) ∧ I (pre ++ [a]) σ2 φ2) →
    ∀ σ φ, I done σ φ → ∃ σ' φ', forGo set mb as σ φ = .ok (.nx, σ', φ') ∧ I (done ++ as) σ' φ'
  | [], done, _, σ, φ, h => ⟨σ, φ, rfl, by rw [List.append_nil]; exact h⟩
  | a :: as, done, step, σ, φ, h => by
    obtain ⟨σ1, h1, σ2, φ2, h2, h3⟩ := step done a as σ φ rfl h
    have e : done ++ [a] ++ as = done ++ a :: as := by rw [List.append_assoc]; rfl
    obtain ⟨σ', φ', h4, h5⟩ := forGo_inv I as (done ++ [a]) (fun pre b post σ φ q => step pre b post σ φ (e ▸ q)) σ2 φ2 h3
    refine ⟨σ', φ', ?_, by rw [← e]; exact h5⟩
    unfold forGo
    rw [h1]
    dsimp only
    rw [h2]
    exact h4
theorem for_e {mi : MI α} {set : α → EnvS → Option EnvS} {mb : MS} {as : List α} (h : mi (soft vs σ) φ = .ok (as, φ1)) : forM vs mi set mb σ φ = forGo set mb as (settle vs σ) φ1 := by
  unfold forM
  rw [h]
  rfl
theorem forC_e {mi : MI α} {set : α → EnvS → Option EnvS} {mb : MS} {as : List α} (h : mi (soft vs σ) φ = .ok (as, φ1)) : forC vs mi set mb σ φ = forGo set mb as σ φ1 := by
  unfold forC
  rw [h]
  rfl
theorem setNS_e (hi : i < σ.length) : setNS i d σ = some (σ.set i (some (.dat d))) := by
  unfold setNS
  rw [if_pos hi]
theorem seqI_t (h : m ρ φ = .ok (.dat (.tuple ds), φ1)) : seqI m ρ φ = .ok (ds, φ1) := by
  unfold seqI
  rw [h]
  rfl
theorem seqI_l (h : m ρ φ = .ok (.dat (.list ds), φ1)) : seqI m ρ φ = .ok (ds, φ1) := by
  unfold seqI
  rw [h]
  rfl
theorem seqI_w (h : m ρ φ = .ok (.own ds, φ1)) : seqI m ρ φ = .ok (ds, φ1) := by
  unfold seqI
  rw [h]
  rfl
theorem seqI_s {x : Str} (h : m ρ φ = .ok (.dat (.str x), φ1)) : seqI m ρ φ = .ok (x.cps.toList.map fun c => .str ⟨#[c]⟩, φ1) := by
  unfold seqI
  rw [h]
  rfl
theorem boolsOf_map : ∀ bs : List Bool, boolsOf (bs.map .bool) = some bs
  | [] => rfl
  | b :: r => by
    rw [List.map_cons]
    show (boolsOf (r.map .bool)).map (b :: ·) = _
    rw [boolsOf_map r]
    rfl
theorem allG_e (bs : List Bool) : allG [.list (bs.map .bool)] = .ok (.dat (.bool (bs.all fun b => b))) := by
  show (match boolsOf (bs.map .bool) with | some bs => rb (bs.all fun b => b) | none => .bad) = _
  rw [boolsOf_map]
  rfl
theorem anyG_e (bs : List Bool) : anyG [.list (bs.map .bool)] = .ok (.dat (.bool (bs.any fun b => b))) := by
  show (match boolsOf (bs.map .bool) with | some bs => rb (bs.any fun b => b) | none => .bad) = _
  rw [boolsOf_map]
  rfl
@[simp] theorem tupleG_l : tupleG [.list ds] = .ok (.dat (.tuple ds)) := nrfl rfl
@[simp] theorem tupleG_t : tupleG [.tuple ds] = .ok (.dat (.tuple ds)) := nrfl rfl
@[simp] theorem lenG_t : lenG [.tuple ds] = .ok (.dat (.int ds.length)) := nrfl rfl
@[simp] theorem lenG_l : lenG [.list ds] = .ok (.dat (.int ds.length)) := nrfl rfl
end
theorem eqv_str {x y : Str} : PyData.eqv (.str x) (.str y) = decide (x = y) := by
  show (x == y) = _
  by_cases h : x = y
  · rw [decide_eq_true h, h, beq_self_eq_true]
  · rw [decide_eq_false h, beq_eq_false_iff_ne.mpr h]
theorem eqvAll_map {α : Type} [DecidableEq α] {g : α → D} (h : ∀ x y, PyData.eqv (g x) (g y) = decide (x = y)) : ∀ xs ys : List α, PyData.eqvAll (xs.map g) (ys.map g) = decide (xs = ys)
  | [], [] => rfl
  | [], y :: ys => rfl
  | x :: xs, [] => rfl
  | x :: xs, y :: ys => by
    show (PyData.eqv (g x) (g y) && PyData.eqvAll (xs.map g) (ys.map g)) = _
    rw [h, eqvAll_map h xs ys]
    by_cases h1 : x = y
    · subst h1
      by_cases h2 : xs = ys
      · subst h2; simp
      · simp [h2]
    · simp [h1]
theorem any_map {α β : Type} (f : α → β) (b : β → Bool) (l : List α) : (l.map f).any b = l.any fun x => b (f x) := by
  induction l with
  | nil => rfl
  | cons x l ih => rw [List.map_cons, List.any_cons, List.any_cons, ih]
def strD : D → Str
  | .str x => x
  | _ => ⟨#[]⟩
def lotD : D → List Str
  | .tuple ds => ds.map strD
  | _ => []
theorem lot_tup (xs : List Str) : lotD (tupD xs) = xs := by
  show (xs.map PyData.str).map strD = xs
  rw [List.map_map]
  exact List.map_id'' (fun _ => rfl) xs
def famD (f : List (List Str)) : D := .tuple (f.map tupD)
def netD (hs : List Str) (fs : List (List (List Str))) : D := .tuple [tupD hs, .tuple (fs.map famD)]
theorem eqv_tup (xs ys : List Str) : PyData.eqv (tupD xs) (tupD ys) = decide (xs = ys) := eqvAll_map (fun _ _ => eqv_str) xs ys
theorem eqv_fam (f g : List (List Str)) : PyData.eqv (famD f) (famD g) = decide (f = g) := eqvAll_map eqv_tup f g
def memB (x : Str) (ys : List Str) : Bool := decide (x ∈ ys)
theorem memB_iff {x : Str} {ys : List Str} : memB x ys = true ↔ x ∈ ys := decide_eq_true_iff
theorem memB_no {x : Str} {ys : List Str} : memB x ys = false ↔ x ∉ ys := decide_eq_false_iff_not
theorem any_str (x : Str) : ∀ ys : List Str, ((ys.map PyData.str).any fun z => PyData.eqv z (.str x)) = memB x ys
  | [] => rfl
  | y :: ys => by
    rw [List.map_cons, List.any_cons, any_str x ys, eqv_str]
    unfold memB
    by_cases h : y = x
    · subst h; simp
    · simp [h, Ne.symm h]
def Ok (x : Str) : Prop := (PyData.strOk x && PyData.strOk (reprText x)) = true ∧ (reprText x).length ≤ 10 ∧ 1 ≤ x.length ∧ x.length ≤ 8 ∧ x.cps.toList.all (fun c => decide (97 ≤ c) && decide (c ≤ 122)) = true
def Oks (xs : List Str) : Prop := ∀ x ∈ xs, Ok x
theorem plain_all {α : Type} {g : α → D} : ∀ {xs : List α}, (∀ x ∈ xs, plain (g x) = true) → plainAll (xs.map g) = true
  | [], _ => rfl
  | x :: xs, h => by
    show (plain (g x) && plainAll (xs.map g)) = true
    rw [h x List.mem_cons_self, plain_all fun y hy => h y (List.mem_cons_of_mem _ hy)]
    rfl
theorem depth_all {α : Type} {g : α → D} {n : Nat} : ∀ {xs : List α}, (∀ x ∈ xs, (g x).depth ≤ n) → PyData.depthAll (xs.map g) ≤ n
  | [], _ => Nat.zero_le _
  | x :: xs, h => by
    have h1 := h x List.mem_cons_self
    have h2 := depth_all fun y hy => h y (List.mem_cons_of_mem _ hy)
    show max (g x).depth (PyData.depthAll (xs.map g)) ≤ n
    omega
theorem sz_all {α : Type} {g : α → D} {n : Nat} : ∀ {xs : List α}, (∀ x ∈ xs, sz (g x) ≤ n) → szAll (xs.map g) ≤ (n + 2) * xs.length
  | [], _ => Nat.zero_le _
  | x :: xs, h => by
    have h1 := h x List.mem_cons_self
    have h2 := sz_all fun y hy => h y (List.mem_cons_of_mem _ hy)
    show sz (g x) + 2 + szAll (xs.map g) ≤ (n + 2) * (xs.length + 1)
    rw [Nat.mul_add]
    omega
/-- plain, not deep, not long -/
structure Fit (d : D) (k n : Nat) : Prop where
  pl : plain d = true
  dp : d.depth ≤ k
  sz : sz d ≤ n
theorem Fit.mono {d : D} {k n k' n' : Nat} (h : Fit d k n) (h1 : k ≤ k') (h2 : n ≤ n') : Fit d k' n' := ⟨h.pl, Nat.le_trans h.dp h1, Nat.le_trans h.sz h2⟩
theorem Fit.tup {α : Type} {g : α → D} {xs : List α} {k n : Nat} (h : ∀ x ∈ xs, Fit (g x) k n) : Fit (.tuple (xs.map g)) (k + 1) ((n + 2) * xs.length + 4) :=
  ⟨plain_all fun x hx => (h x hx).pl, Nat.succ_le_succ (depth_all fun x hx => (h x hx).dp), Nat.add_le_add_right (sz_all fun x hx => (h x hx).sz) 4⟩
theorem Fit.lst {α : Type} {g : α → D} {xs : List α} {k n : Nat} (h : ∀ x ∈ xs, Fit (g x) k n) : Fit (.list (xs.map g)) (k + 1) ((n + 2) * xs.length + 4) :=
  ⟨plain_all fun x hx => (h x hx).pl, Nat.succ_le_succ (depth_all fun x hx => (h x hx).dp), Nat.add_le_add_right (sz_all fun x hx => (h x hx).sz) 4⟩
theorem Fit.str {x : Str} (h : Ok x) : Fit (.str x) 0 10 := ⟨h.1, Nat.zero_le _, h.2.1⟩
theorem Fit.lot {xs : List Str} (h : Oks xs) : Fit (tupD xs) 1 (12 * xs.length + 4) := Fit.tup fun x hx => Fit.str (h x hx)
theorem Fit.shaped {d : D} {k n : Nat} (h : Fit d k n) (hk : k ≤ 64 := by omega) : SeqAt.shaped d = true := shaped_of h.pl (Nat.le_trans h.dp hk)
theorem Fit.repr {d : D} {k n : Nat} (h : Fit d k n) (hk : k ≤ 64 := by omega) (hn : n ≤ 1000000 := by omega) : reprG [d] = .ok (.dat (.str d.shown)) := repr_of h.pl (Nat.le_trans h.dp hk) (Nat.le_trans h.sz hn)
theorem eqG_shown {d : D} {k n : Nat} (h : Fit d k n) : eqG (.str d.shown) (.str d.shown) = .ok (.dat (.bool true)) := by
  have ok : SeqAt.shaped (.str d.shown) = true := by
    unfold SeqAt.shaped
    have e : (PyData.str d.shown).canLay0 = true := shown_ok d h.pl
    rw [e]
    rfl
  unfold eqG
  rw [if_pos ⟨ok, ok⟩, eqv_str, decide_eq_true rfl]
  rfl
theorem neG_shown {d : D} {k n : Nat} (h : Fit d k n) : neG (.str d.shown) (.str d.shown) = .ok (.dat (.bool false)) := by
  have ok : SeqAt.shaped (.str d.shown) = true := by
    unfold SeqAt.shaped
    have e : (PyData.str d.shown).canLay0 = true := shown_ok d h.pl
    rw [e]
    rfl
  unfold neG
  rw [if_pos ⟨ok, ok⟩, eqv_str, decide_eq_true rfl]
  rfl
theorem eqG_e {d e : D} {k n k' n' : Nat} (h : Fit d k n) (h' : Fit e k' n') (hk : k ≤ 64 := by omega) (hk' : k' ≤ 64 := by omega) : eqG d e = .ok (.dat (.bool (PyData.eqv d e))) := by
  unfold eqG
  rw [if_pos ⟨h.shaped hk, h'.shaped hk'⟩]
  rfl
theorem neG_e {d e : D} {k n k' n' : Nat} (h : Fit d k n) (h' : Fit e k' n') (hk : k ≤ 64 := by omega) (hk' : k' ≤ 64 := by omega) : neG d e = .ok (.dat (.bool (!PyData.eqv d e))) := by
  unfold neG
  rw [if_pos ⟨h.shaped hk, h'.shaped hk'⟩]
  rfl
theorem inG_e {x : Str} {ys : List Str} {neg : Bool} (hx : Ok x) (h : Oks ys) : inG neg (.str x) (tupD ys) = .ok (.dat (.bool (neg ^^ memB x ys))) := by
  show (if SeqAt.shaped (.str x) = true ∧ SeqAt.shaped (.list (ys.map .str)) = true then rb (neg ^^ (ys.map PyData.str).any fun z => PyData.eqv z (.str x)) else .bad) = _
  rw [if_pos ⟨(Fit.str hx).shaped, (Fit.lst (k := 0) (n := 10) fun y hy => Fit.str (h y hy)).shaped⟩, any_str]
  rfl
end VI
namespace VI
open PySem PySem.Spec PyProof.Rows L2
theorem cut_from {α : Type} (xs : List α) (n : Nat) : cutD xs (some (n : Int)) none = xs.drop n := by
  unfold cutD
  rw [HT.sIx_nat, HT.sIx_none]
  by_cases h : n ≤ xs.length
  · rw [Nat.min_eq_left h, ← List.length_drop, List.take_length]
  · rw [Nat.min_eq_right (by omega), List.drop_eq_nil_of_le (Nat.le_refl _), List.drop_eq_nil_of_le (by omega), List.take_nil]
theorem cut_to {α : Type} (xs : List α) (n : Nat) : cutD xs none (some (n : Int)) = xs.take n := by
  unfold cutD
  rw [HT.sIx_nat, HT.sIx_none, List.drop_zero, Nat.sub_zero]
  by_cases h : n ≤ xs.length
  · rw [Nat.min_eq_left h]
  · rw [Nat.min_eq_right (by omega), List.take_length, List.take_of_length_le (by omega)]
theorem cut1 {α : Type} (xs : List α) : cutD xs (some 1) none = xs.drop 1 := cut_from xs 1
@[simp] theorem slG_t {ds : List D} {lo hi : Option Int} : slG (.tuple ds) lo hi = .ok (.dat (.tuple (cutD ds lo hi))) := nrfl rfl
@[simp] theorem slG_l {ds : List D} {lo hi : Option Int} : slG (.list ds) lo hi = .ok (.own (cutD ds lo hi)) := nrfl rfl
theorem zip_map' {α β : Type} (f : α → β) : ∀ xs ys : List α, (xs.map f).zip (ys.map f) = (xs.zip ys).map fun p => (f p.1, f p.2)
  | [], _ => by simp
  | _ :: _, [] => by simp
  | x :: xs, y :: ys => by
    rw [List.map_cons, List.map_cons, List.zip_cons_cons, List.zip_cons_cons, zip_map' f xs ys, List.map_cons]
theorem all_map {α : Type} (f : α → Bool) (l : List α) : ((l.map f).all fun b => b) = l.all f := by
  induction l with
  | nil => rfl
  | cons x l ih => rw [List.map_cons, List.all_cons, List.all_cons, ih]
theorem any_map' {α : Type} (f : α → Bool) (l : List α) : ((l.map f).any fun b => b) = l.any f := any_map f _ l
def subL (xs ys : List Str) : Bool := xs.all fun x => memB x ys
def ascB (xs : List Str) : Bool := (xs.zip (xs.drop 1)).all fun p => ltS p.1 p.2
def maxU (l : List (List Str)) : List (List Str) := l.filter fun x => (l.filter fun y => decide (y ≠ x) && subL x y).isEmpty
def topU (f : List (List Str)) : List (List Str) := maxU (sortU ltL f)
abbrev Asc (xs : List Str) : Prop := xs.Pairwise fun x y => ltS x y = true
theorem subL_iff {xs ys : List Str} : subL xs ys = true ↔ ∀ x ∈ xs, x ∈ ys := by
  unfold subL
  rw [List.all_eq_true]
  exact ⟨fun h x m => memB_iff.mp (h x m), fun h x m => memB_iff.mpr (h x m)⟩
theorem ascB_of : ∀ {xs : List Str}, Asc xs → ascB xs = true
  | [], _ => rfl
  | [_], _ => rfl
  | x :: y :: r, h => by
    obtain ⟨h1, h2⟩ := List.pairwise_cons.mp h
    have ih := ascB_of h2
    show (ltS x y && ascB (y :: r)) = true
    rw [h1 y List.mem_cons_self, ih]
    rfl
theorem Asc.sub {xs ys : List Str} (h : Asc ys) (s : xs.Sublist ys) : Asc xs := h.sublist s
theorem asc_sublist : ∀ {ys xs : List Str}, Asc xs → Asc ys → (∀ x ∈ xs, x ∈ ys) → xs.Sublist ys
  | [], [], _, _, _ => .slnil
  | [], x :: xs, _, _, h => by have z := h x List.mem_cons_self; cases z
  | y :: ys, [], _, _, _ => List.nil_sublist _
  | y :: ys, x :: xs, h1, h2, h => by
    obtain ⟨a1, b1⟩ := List.pairwise_cons.mp h1
    obtain ⟨a2, b2⟩ := List.pairwise_cons.mp h2
    by_cases e : x = y
    · subst e
      refine .cons_cons x (asc_sublist b1 b2 fun z hz => ?_)
      rcases List.mem_cons.mp (h z (List.mem_cons_of_mem _ hz)) with q | q
      · have g := a1 z hz
        rw [q, tot_S.irr] at g
        cases g
      · exact q
    · have hx : x ∈ ys := by
        rcases List.mem_cons.mp (h x List.mem_cons_self) with q | q
        · exact absurd q e
        · exact q
      have lt := a2 x hx
      refine .cons y (asc_sublist h1 b2 fun z hz => ?_)
      rcases List.mem_cons.mp (h z hz) with q | q
      · rcases List.mem_cons.mp hz with q2 | q2
        · exact absurd (q2.symm.trans q) e
        · have g := a1 z q2
          rw [q] at g
          have g2 := tot_S.trans _ _ _ lt g
          rw [tot_S.irr] at g2
          cases g2
      · exact q
theorem mem_topU {f : List (List Str)} {x : List Str} : x ∈ topU f ↔ x ∈ f ∧ ∀ y ∈ f, y ≠ x → subL x y = false := by
  unfold topU maxU
  rw [List.mem_filter, mem_sortU tot_L, List.isEmpty_iff, List.filter_eq_nil_iff]
  refine and_congr_right fun _ => ⟨fun h y hy ne => ?_, fun h y hy => ?_⟩
  · have q := h y ((mem_sortU tot_L).mpr hy)
    rw [decide_eq_true ne, Bool.true_and] at q
    cases e : subL x y with
    | true => exact absurd e q
    | false => rfl
  · by_cases ne : y = x
    · rw [decide_eq_false (by simp [ne])]
      simp
    · rw [h y ((mem_sortU tot_L).mp hy) ne]
      simp
theorem topU_asc (f : List (List Str)) : (topU f).Pairwise fun x y => ltL x y = true := (sortU_asc tot_L f).sublist List.filter_sublist
theorem topU_idem (f : List (List Str)) : topU (topU f) = topU f := by
  refine asc_same tot_L (topU_asc _) (topU_asc _) fun x => ?_
  rw [mem_topU]
  exact ⟨fun h => h.1, fun h => ⟨h, fun y hy ne => (mem_topU.mp h).2 y (mem_topU.mp hy).1 ne⟩⟩
theorem topU_ne {f : List (List Str)} (ha : ∀ x ∈ f, Asc x) (hn : f ≠ []) : topU f ≠ [] := by
  -- one of the longest
  have long : ∀ g : List (List Str), g ≠ [] → ∃ x ∈ g, ∀ y ∈ g, y.length ≤ x.length := by
    intro g
    induction g with
    | nil => intro h; exact absurd rfl h
    | cons a g ih =>
      intro _
      by_cases hg : g = []
      · subst hg
        exact ⟨a, List.mem_cons_self, fun y hy => by rw [List.mem_singleton.mp hy]; exact Nat.le_refl _⟩
      · obtain ⟨x, hx, h⟩ := ih hg
        by_cases c : a.length ≤ x.length
        · refine ⟨x, List.mem_cons_of_mem _ hx, fun y hy => ?_⟩
          rcases List.mem_cons.mp hy with e | m
          · rw [e]; exact c
          · exact h y m
        · refine ⟨a, List.mem_cons_self, fun y hy => ?_⟩
          rcases List.mem_cons.mp hy with e | m
          · rw [e]; exact Nat.le_refl _
          · have := h y m
            omega
  obtain ⟨x, hx, h⟩ := long f hn
  have m : x ∈ topU f := mem_topU.mpr ⟨hx, fun y hy ne => by
    cases e : subL x y with
    | false => rfl
    | true =>
      have s := asc_sublist (ha x hx) (ha y hy) (subL_iff.mp e)
      exact absurd (s.eq_of_length_le (h y hy)).symm ne⟩
  exact fun e => by rw [e] at m; cases m
theorem sortU_id {f : List (List Str)} (h : f.Pairwise fun x y => ltL x y = true) : sortU ltL f = f := asc_same tot_L (sortU_asc tot_L f) h fun x => mem_sortU tot_L
end VI
namespace VI
open PySem PySem.Spec PyProof.Rows L2
section
variable {ρ : Env'} {φ φ1 : FS} {m : ME}
theorem ssG_tup {f : List (List Str)} (h : f.length < 64) : ssG (f.map tupD) = .ok (.own ((sortU ltL f).map tupD)) := by
  unfold ssG
  rw [if_pos (by rw [List.length_map]; exact h)]
  cases f with
  | nil => rfl
  | cons x r =>
    have e : strsOf ((x :: r).map tupD) = none := rfl
    rw [e, tupsOf_map]
theorem ssG_str {f : List Str} (h : f.length < 64) : ssG (f.map PyData.str) = .ok (.own ((sortU ltS f).map PyData.str)) := by
  unfold ssG
  rw [if_pos (by rw [List.length_map]; exact h), strsOf_map]
theorem ssM_e {e e2 : EV} {ds : List D} (h : m ρ φ = .ok (e, φ1)) (he : e.toD = .list ds ∨ e.toD = .tuple ds) (hs : ssG ds = .ok e2) : ssM m ρ φ = .ok (e2, φ1) := by
  unfold ssM
  rw [h, bind_e]
  rcases he with he | he <;> rw [he] <;> dsimp only <;> rw [hs] <;> rfl
end
end VI
namespace VI
open PySem PySem.Spec PyProof.Rows L2
theorem insU_len {α : Type} {lt : α → α → Bool} {x : α} : ∀ {l : List α}, (insU lt x l).length ≤ l.length + 1
  | [] => Nat.le_refl _
  | y :: r => by
    unfold insU
    split
    · exact Nat.le_refl _
    · split
      · exact Nat.succ_le_succ insU_len
      · exact Nat.le_succ _
theorem sortU_len {α : Type} {lt : α → α → Bool} : ∀ {l : List α}, (sortU lt l).length ≤ l.length
  | [] => Nat.le_refl _
  | x :: r => Nat.le_trans insU_len (Nat.succ_le_succ sortU_len)
theorem topU_len {f : List (List Str)} : (topU f).length ≤ f.length := Nat.le_trans (List.length_filter_le _ _) sortU_len
theorem maxU_any (l : List (List Str)) (x : List Str) : (!((l.filter fun y => decide (y ≠ x)).any fun y => subL x y)) = (l.filter fun y => decide (y ≠ x) && subL x y).isEmpty := by
  induction l with
  | nil => rfl
  | cons y l ih =>
    by_cases h : y = x
    · simpa [List.filter_cons, h] using ih
    · cases h2 : subL x y with
      | true => simp [List.filter_cons, h, h2]
      | false => simpa [List.filter_cons, h, h2] using ih
end VI
namespace VI
open PySem PySem.Spec PyProof.Rows L2
section
variable {ρ : Env'} {σ : EnvS} {φ φ1 : FS} {m m1 m2 m3 : ME}
theorem chn_tt {g g' : D → D → Res EV} {e1 e2 e3 : EV} {b : Bool} (h1 : m1 ρ φ = .ok (e1, φ)) (h2 : m2 ρ φ = .ok (e2, φ)) (h3 : m3 ρ φ = .ok (e3, φ)) (g1 : g e1.toD e2.toD = .ok (.dat (.bool true))) (g2 : g' e2.toD e3.toD = .ok (.dat (.bool b))) : chn g g' m1 m2 m3 ρ φ = .ok (.dat (.bool b), φ) := by
  unfold chn
  rw [h1, bind_e, h2, bind_e, g1, bind_e]
  dsimp only
  rw [h3, bind_e, g2]
  rfl
theorem le_one {x : Str} {n c : Nat} (hx : x.cps.toList = [n]) (h : n ≤ c) : leG (.str x) (.str ⟨#[c]⟩) = .ok (.dat (.bool true)) := by
  show rb (!decide ((#[c] : Array Nat).toList < x.cps.toList)) = _
  rw [hx]
  have e : ¬ [c] < [n] := fun z => by
    have z : [c] < [n] := z
    rcases List.cons_lt_cons_iff.mp z with q | ⟨_, q⟩
    · omega
    · cases q
  rw [show decide ((#[c] : Array Nat).toList < [n]) = false from decide_eq_false e]
  rfl
theorem one_le {x : Str} {n c : Nat} (hx : x.cps.toList = [n]) (h : c ≤ n) : leG (.str ⟨#[c]⟩) (.str x) = .ok (.dat (.bool true)) := by
  show rb (!decide (x.cps.toList < (#[c] : Array Nat).toList)) = _
  rw [hx]
  have e : ¬ [n] < [c] := fun z => by
    rcases List.cons_lt_cons_iff.mp z with q | ⟨_, q⟩
    · omega
    · cases q
  rw [show decide ([n] < (#[c] : Array Nat).toList) = false from decide_eq_false e]
  rfl
theorem unp_e {vs is : List Nat} {ds : List D} (h : m (soft vs σ) φ = .ok (.dat (.tuple ds), φ1)) (hi : is.length = ds.length) : unpM vs is m σ φ = .ok (.nx, setsE is (ds.map .dat) (aft vs (.dat (.tuple ds)) σ), φ1) := by
  unfold unpM
  rw [h, bind_e]
  dsimp only
  rw [if_pos hi]
@[simp] theorem setsE_c {i : Nat} {is : List Nat} {e : EV} {es : List EV} : setsE (i :: is) (e :: es) σ = setsE is es (σ.set i (some e)) := nrfl rfl
@[simp] theorem setsE_n {es : List EV} : setsE [] es σ = σ := nrfl rfl
end
theorem idxG_e {hs : List Str} {x : Str} {i : Nat} (h : hs.findIdx? (· == x) = some i) : idxG (tupD hs) (.str x) = .ok (.dat (.int i)) := by
  show (match strsOf (hs.map .str) with | some ys => _ | none => _) = _
  rw [strsOf_map]
  dsimp only
  rw [h]
theorem ixG_n {ds : List D} {i : Nat} {d : D} (h : ds[i]? = some d) : ixG (.tuple ds) (.int i) = .ok (.dat d) := by
  show atD ds i = _
  unfold atD
  have hi : i < ds.length := (List.getElem?_eq_some_iff.mp h).1
  have e : atI ds (i : Int) = some d := by
    unfold atI
    have e1 : ixN ds.length (i : Int) = some i := by
      unfold ixN
      rw [if_pos (by omega), if_pos (by omega)]
      rfl
    rw [e1]
    exact h
  rw [e]
theorem ixG_l {ds : List D} {i : Nat} {d : D} (h : ds[i]? = some d) : ixG (.list ds) (.int i) = .ok (.dat d) := ixG_n h
end VI
namespace VI
open PySem PySem.Spec PyProof.Rows L2
section
variable {ρ : Env'} {σ : EnvS} {φ φ1 φ2 : FS} {m m1 m2 m3 : ME} {i : Nat} {vs : List Nat}
theorem fp_e {n : Int} {put : FS → Int → FS} (h : m (soft [] σ) φ = .ok (.dat (.int n), φ1)) (hf : isFeed i (soft [] σ) = true) : fpM i m put σ φ = .ok (.nx, σ, put φ1 n) := by
  unfold fpM
  rw [h, bind_e]
  dsimp only
  rw [if_pos hf]
theorem fgI_e {get : FS → Int} (hf : isFeed i ρ = true) : fgI i get ρ φ = .ok (.dat (.int (get φ)), φ) := if_pos hf
theorem fgC_e (hf : isFeed i ρ = true) : fgC i ρ φ = .ok (.dat (.list (φ.cells.map .int)), φ) := if_pos hf
@[simp] theorem feed0 : isFeed 0 (some (.dict []) :: ρ) = true := nrfl rfl
@[simp] theorem feeds {x : Option D} : isFeed (i + 1) (x :: ρ) = isFeed i ρ := nrfl rfl
@[simp] theorem fgI0 {get : FS → Int} : fgI 0 get (some (.dict []) :: ρ) φ = .ok (.dat (.int (get φ)), φ) := fgI_e rfl
@[simp] theorem fgC0 : fgC 0 (some (.dict []) :: ρ) φ = .ok (.dat (.list (φ.cells.map .int)), φ) := fgC_e rfl
@[simp] theorem intG_e {z : Int} : intG [.int z] = .ok (.dat (.int z)) := nrfl rfl
@[simp] theorem add_ii {a b : Int} : addG (.int a) (.int b) = .ok (.dat (.int (a + b))) := nrfl rfl
@[simp] theorem gt_ii {a b : Int} : gtG (.int a) (.int b) = .ok (.dat (.bool (decide (b < a)))) := nrfl rfl
@[simp] theorem ge_ii {a b : Int} : geG (.int a) (.int b) = .ok (.dat (.bool (decide (b ≤ a)))) := nrfl rfl
@[simp] theorem lt_ii {a b : Int} : ltG (.int a) (.int b) = .ok (.dat (.bool (decide (a < b)))) := nrfl rfl
theorem mod_ii {a b : Int} (h : 0 < b) : modG (.int a) (.int b) = .ok (.dat (.int (a % b))) := if_pos h
theorem fd_ii {a b : Int} (h : 0 < b) (h2 : b < 2 ^ 64) : fdG (.int a) (.int b) = .ok (.dat (.int (a / b))) := if_pos ⟨h, h2⟩
theorem mul_l {a b : Int} (h : -(2 ^ 64) < a) (h2 : a < 2 ^ 64) : mulG (.int a) (.int b) = .ok (.dat (.int (a * b))) := if_pos (.inl ⟨h, h2⟩)
theorem mul_r {a b : Int} (h : -(2 ^ 64) < b) (h2 : b < 2 ^ 64) : mulG (.int a) (.int b) = .ok (.dat (.int (a * b))) := if_pos (.inr ⟨h, h2⟩)
theorem atI_in {ds : List D} {z : Int} (h : 0 ≤ z) (h2 : z < ds.length) : ∃ d ∈ ds, ixG (.list ds) (.int z) = .ok (.dat d) := by
  obtain ⟨n, e⟩ := Int.eq_ofNat_of_zero_le h
  subst e
  have hn : n < ds.length := by omega
  exact ⟨ds[n], List.getElem_mem hn, ixG_l (List.getElem?_eq_getElem hn)⟩
theorem par_e {is : List Nat} {ms : MAE} {es : List EV} (h : ms (soft vs σ) φ = .ok (es, φ1)) (hi : is.length = es.length) : parM vs is ms σ φ = .ok (.nx, setsE is es (settle vs σ), φ1) := by
  unfold parM
  rw [h, bind_e, if_pos hi]
@[simp] theorem nilE_e : nilE ρ φ = .ok ([], φ) := nrfl rfl
@[simp] theorem consD_e {ms : MAE} : consD m ms ρ φ = (m ρ φ).bind fun r => (ms ρ r.2).bind fun r2 => .ok (.dat r.1.toD :: r2.1, r2.2) := nrfl rfl
@[simp] theorem consE_e {ms : MAE} : consE m ms ρ φ = (m ρ φ).bind fun r => (ms ρ r.2).bind fun r2 => .ok (r.1 :: r2.1, r2.2) := nrfl rfl
end
end VI
namespace VI
open PySem PySem.Spec PyProof.Rows L2
def minU (l : List (List Str)) : List (List Str) := l.filter fun x => (l.filter fun y => decide (y ≠ x) && subL y x).isEmpty
def lsU (f : List (List Str)) : List (List Str) := minU (sortU ltL f)
theorem mem_lsU {f : List (List Str)} {x : List Str} : x ∈ lsU f ↔ x ∈ f ∧ ∀ y ∈ f, y ≠ x → subL y x = false := by
  unfold lsU minU
  rw [List.mem_filter, mem_sortU tot_L, List.isEmpty_iff, List.filter_eq_nil_iff]
  refine and_congr_right fun _ => ⟨fun h y my ne => ?_, fun h y my => ?_⟩
  · have := h y ((mem_sortU tot_L).mpr my)
    cases e : subL y x with
    | false => rfl
    | true => exact absurd (by rw [e, decide_eq_true ne]; rfl) this
  · intro z
    rw [Bool.and_eq_true, decide_eq_true_eq] at z
    have := h y ((mem_sortU tot_L).mp my) z.1
    rw [this] at z
    cases z.2
theorem lsU_asc (f : List (List Str)) : (lsU f).Pairwise fun x y => ltL x y = true := (sortU_asc tot_L f).sublist List.filter_sublist
/-- a lot of these houses that meets each of the family -/
structure Trv (V : List Str) (F : List (List Str)) (x : List Str) : Prop where
  sub : x.Sublist V
  hit : ∀ q ∈ F, ∃ h, h ∈ q ∧ h ∈ x
structure MinT (V : List Str) (F : List (List Str)) (x : List Str) : Prop where
  tr : Trv V F x
  min : ∀ y, Trv V F y → (∀ z ∈ y, z ∈ x) → y = x
section
variable {V : List Str} {F : List (List Str)}
theorem sub_eq (hV : Asc V) {x y : List Str} (hx : x.Sublist V) (hy : y.Sublist V) (h : ∀ z, z ∈ x ↔ z ∈ y) : x = y := by
  have a := asc_sublist (hV.sublist hx) (hV.sublist hy) fun z m => (h z).mp m
  have b := asc_sublist (hV.sublist hy) (hV.sublist hx) fun z m => (h z).mpr m
  exact a.eq_of_length (Nat.le_antisymm a.length_le b.length_le)
theorem min_below (hV : Asc V) : ∀ (n : Nat) (x : List Str), x.length ≤ n → Trv V F x → ∃ m, MinT V F m ∧ ∀ z ∈ m, z ∈ x
  | 0, x, hn, t => by
    have e : x = [] := List.length_eq_zero_iff.mp (Nat.le_zero.mp hn)
    subst e
    exact ⟨[], ⟨t, fun y _ h => by
      cases y with
      | nil => rfl
      | cons a r => cases h a (by simp)⟩, fun z m => m⟩
  | n + 1, x, hn, t => by
    by_cases h : ∃ y, Trv V F y ∧ (∀ z ∈ y, z ∈ x) ∧ y ≠ x
    · obtain ⟨y, ty, sy, ne⟩ := h
      have s := asc_sublist (hV.sublist ty.sub) (hV.sublist t.sub) sy
      have l : y.length < x.length := by
        rcases Nat.lt_or_ge y.length x.length with l | l
        · exact l
        · exact absurd (s.eq_of_length (Nat.le_antisymm s.length_le l)) ne
      obtain ⟨m, hm, sm⟩ := min_below hV n y (by omega) ty
      exact ⟨m, hm, fun z mz => sy z (sm z mz)⟩
    · refine ⟨x, ⟨t, fun y ty sy => ?_⟩, fun z m => m⟩
      exact Classical.byContradiction fun ne => h ⟨y, ty, sy, ne⟩
/-- one more in a lot -/
def insV (V : List Str) (h : Str) (k : List Str) : List Str := V.filter fun z => decide (z ∈ k) || decide (z = h)
theorem mem_insV {h z : Str} {k : List Str} (hk : k.Sublist V) (hh : h ∈ V) : z ∈ insV V h k ↔ z ∈ k ∨ z = h := by
  unfold insV
  rw [List.mem_filter, Bool.or_eq_true, decide_eq_true_eq, decide_eq_true_eq]
  exact ⟨fun m => m.2, fun m => ⟨m.elim (fun q => hk.subset q) (fun q => q ▸ hh), m⟩⟩
def hitB (q k : List Str) : Bool := q.any fun h => decide (h ∈ k)
theorem hitB_iff {q k : List Str} : hitB q k = true ↔ ∃ h, h ∈ q ∧ h ∈ k := by
  unfold hitB
  rw [List.any_eq_true]
  simp only [decide_eq_true_eq]
def stepV (V q k : List Str) : List (List Str) := if hitB q k = true then [k] else q.map fun h => insV V h k
theorem step_tr {q k x : List Str} (tk : Trv V F k) (hq : ∀ h ∈ q, h ∈ V) (m : x ∈ stepV V q k) : Trv V (F ++ [q]) x ∧ ∀ z ∈ k, z ∈ x := by
  unfold stepV at m
  split at m
  · rename_i h
    rw [List.mem_singleton.mp m]
    refine ⟨⟨tk.sub, fun p mp => ?_⟩, fun z mz => mz⟩
    rcases List.mem_append.mp mp with mp | mp
    · exact tk.hit p mp
    · rw [List.mem_singleton.mp mp]; exact hitB_iff.mp h
  · obtain ⟨h, mh, rfl⟩ := List.mem_map.mp m
    have mem := fun z => mem_insV (z := z) tk.sub (hq h mh)
    refine ⟨⟨List.filter_sublist, fun p mp => ?_⟩, fun z mz => (mem z).mpr (.inl mz)⟩
    rcases List.mem_append.mp mp with mp | mp
    · obtain ⟨g, g1, g2⟩ := tk.hit p mp
      exact ⟨g, g1, (mem g).mpr (.inl g2)⟩
    · rw [List.mem_singleton.mp mp]
      exact ⟨h, mh, (mem h).mpr (.inr rfl)⟩
theorem step_below {q k t : List Str} (tk : k.Sublist V) (hq : ∀ h ∈ q, h ∈ V) (hk : ∀ z ∈ k, z ∈ t) (ht : ∃ h, h ∈ q ∧ h ∈ t) : ∃ c ∈ stepV V q k, ∀ z ∈ c, z ∈ t := by
  unfold stepV
  split
  · exact ⟨k, List.mem_singleton.mpr rfl, hk⟩
  · obtain ⟨h, h1, h2⟩ := ht
    refine ⟨_, List.mem_map.mpr ⟨h, h1, rfl⟩, fun z mz => ?_⟩
    rcases (mem_insV tk (hq h h1)).mp mz with m | m
    · exact hk z m
    · rw [m]; exact h2
/-- one more family member -/
theorem berge (hV : Asc V) {K : List (List Str)} {q : List Str} (hK : ∀ x, x ∈ K ↔ MinT V F x) (hq : ∀ h ∈ q, h ∈ V) (x : List Str) : x ∈ lsU (K.flatMap (stepV V q)) ↔ MinT V (F ++ [q]) x := by
  have ct : ∀ c ∈ K.flatMap (stepV V q), Trv V (F ++ [q]) c := fun c m => by
    obtain ⟨k, mk, mc⟩ := List.mem_flatMap.mp m
    exact (step_tr ((hK k).mp mk).tr hq mc).1
  have cb : ∀ t, Trv V (F ++ [q]) t → ∃ c ∈ K.flatMap (stepV V q), ∀ z ∈ c, z ∈ t := fun t ht => by
    have tF : Trv V F t := ⟨ht.sub, fun p mp => ht.hit p (by simp [mp])⟩
    obtain ⟨k, mk, sk⟩ := min_below hV t.length t (Nat.le_refl _) tF
    obtain ⟨c, mc, sc⟩ := step_below mk.tr.sub hq sk (ht.hit q (by simp))
    exact ⟨c, List.mem_flatMap.mpr ⟨k, (hK k).mpr mk, mc⟩, sc⟩
  rw [mem_lsU]
  constructor
  · rintro ⟨m, h⟩
    refine ⟨ct x m, fun y ty sy => ?_⟩
    obtain ⟨c, mc, sc⟩ := cb y ty
    have e : c = x := Classical.byContradiction fun ne => by
      have := h c mc ne
      rw [subL_iff.mpr fun z mz => sy z (sc z mz)] at this
      cases this
    subst e
    exact sub_eq hV ty.sub (ct c m).sub fun z => ⟨sy z, sc z⟩
  · intro h
    obtain ⟨c, mc, sc⟩ := cb x h.tr
    have e := h.min c (ct c mc) sc
    subst e
    refine ⟨mc, fun y my ne => ?_⟩
    cases s : subL y c with
    | false => rfl
    | true => exact absurd (h.min y (ct y my) (subL_iff.mp s)) ne
theorem kernels_go (hV : Asc V) : ∀ (G F K : List (List Str)), (∀ x, x ∈ K ↔ MinT V F x) → (∀ q ∈ G, ∀ h ∈ q, h ∈ V) → ∀ x, x ∈ G.foldl (fun K q => lsU (K.flatMap (stepV V q))) K ↔ MinT V (F ++ G) x
  | [], F, K, hK, _, x => by rw [List.append_nil]; exact hK x
  | q :: G, F, K, hK, hG, x => by
    have ih := kernels_go hV G (F ++ [q]) (lsU (K.flatMap (stepV V q))) (berge hV hK (hG q (by simp))) (fun p m => hG p (by simp [m])) x
    rw [List.append_assoc] at ih
    exact ih
theorem none_min : ∀ x, x ∈ ([[]] : List (List Str)) ↔ MinT V [] x := fun x => by
  rw [List.mem_singleton]
  constructor
  · rintro rfl
    exact ⟨⟨List.nil_sublist _, fun q m => by cases m⟩, fun y _ h => by
      cases y with
      | nil => rfl
      | cons a r => cases h a (by simp)⟩
  · intro h
    exact (h.min [] ⟨List.nil_sublist _, fun q m => by cases m⟩ fun z m => by cases m).symm
def kersV (V : List Str) (F : List (List Str)) : List (List Str) := F.foldl (fun K q => lsU (K.flatMap (stepV V q))) [[]]
theorem kers_iff (hV : Asc V) (hF : ∀ q ∈ F, ∀ h ∈ q, h ∈ V) (x : List Str) : x ∈ kersV V F ↔ MinT V F x := by
  have := kernels_go hV F [] [[]] none_min hF x
  rwa [List.nil_append] at this
theorem dual (hV : Asc V) {T : List (List Str)} (hT : ∀ x, x ∈ T ↔ MinT V F x) (hs : ∀ q ∈ F, q.Sublist V) (anti : ∀ p ∈ F, ∀ q ∈ F, (∀ z ∈ p, z ∈ q) → p = q) (q : List Str) : q ∈ F ↔ MinT V T q := by
  -- what lies outside of a lot
  have out : ∀ s : List Str, (∀ r ∈ F, ∃ h, h ∈ r ∧ h ∉ s) → ∃ t ∈ T, ∀ z ∈ t, z ∉ s := fun s h => by
    have tr : Trv V F (V.filter fun z => !decide (z ∈ s)) := ⟨List.filter_sublist, fun r mr => by
      obtain ⟨g, g1, g2⟩ := h r mr
      exact ⟨g, g1, List.mem_filter.mpr ⟨(hs r mr).subset g1, by simp [g2]⟩⟩⟩
    obtain ⟨m, hm, sm⟩ := min_below hV _ _ (Nat.le_refl _) tr
    refine ⟨m, (hT m).mpr hm, fun z mz z2 => ?_⟩
    have := (List.mem_filter.mp (sm z mz)).2
    simp [z2] at this
  have tq : ∀ p ∈ F, Trv V T p := fun p mp => ⟨hs p mp, fun t mt => by
    obtain ⟨h, h1, h2⟩ := ((hT t).mp mt).tr.hit p mp
    exact ⟨h, h2, h1⟩⟩
  constructor
  · intro mq
    refine ⟨tq q mq, fun y ty sy => ?_⟩
    refine Classical.byContradiction fun ne => ?_
    obtain ⟨t, mt, ht⟩ := out y fun r mr => by
      refine Classical.byContradiction fun no => ?_
      have ry : ∀ z ∈ r, z ∈ y := fun z mz => Classical.byContradiction fun zy => no ⟨z, mz, zy⟩
      have e := anti r mr q mq fun z mz => sy z (ry z mz)
      subst e
      exact ne (sub_eq hV ty.sub (hs r mr) fun z => ⟨sy z, ry z⟩)
    obtain ⟨h, h1, h2⟩ := ty.hit t mt
    exact ht h h1 h2
  · intro h
    have : ∃ r ∈ F, ∀ z ∈ r, z ∈ q := Classical.byContradiction fun no => by
      obtain ⟨t, mt, ht⟩ := out q fun r mr => Classical.byContradiction fun n2 => no ⟨r, mr, fun z mz => Classical.byContradiction fun zq => n2 ⟨z, mz, zq⟩⟩
      obtain ⟨g, g1, g2⟩ := h.tr.hit t mt
      exact ht g g1 g2
    obtain ⟨r, mr, sr⟩ := this
    rw [← h.min r (tq r mr) sr]
    exact mr
end
end VI
namespace VI
open PySem PySem.Spec PyProof.Rows L2
def sat {α : Type} (r : Res α) (Q : α → Prop) (_ : Held Q := held Q) : Prop := ∃ a, r = .ok a ∧ Q a
section
variable {α β : Type} {r r' : Res α} {Q Q' : α → Prop} {a : α}
@[simp] theorem sat_ok : sat (.ok a) Q = Q a := propext ⟨fun ⟨b, e, q⟩ => by cases e; exact q, fun q => ⟨a, rfl, q⟩⟩
@[simp] theorem sat_bad : sat (.bad : Res α) Q = False := propext ⟨(fun h => by obtain ⟨b, e, q⟩ := h; cases e), False.elim⟩
@[simp] theorem sat_bind {f : β → Res α} {s : Res β} : sat (s.bind f) Q = sat s fun b => sat (f b) Q := propext ⟨fun ⟨a, e, q⟩ => by
    obtain ⟨b, e1, e2⟩ := Res.bind_ok e
    exact ⟨b, e1, a, e2, q⟩, fun ⟨b, e1, a, e2, q⟩ => ⟨a, by rw [e1]; exact e2, q⟩⟩
theorem sat_mono (h : sat r Q) (k : ∀ a, Q a → Q' a) : sat r Q' := by
  obtain ⟨a, e, q⟩ := h
  exact ⟨a, e, k a q⟩
theorem sat_of (h : r = .ok a) (q : Q a) : sat r Q := ⟨a, h, q⟩
theorem eq_of (h : sat r fun b => b = a) : r = .ok a := by
  obtain ⟨b, e, q⟩ := h
  rw [e, q]
theorem of_eq (h : r = .ok a) : sat r fun b => b = a := ⟨a, h, rfl⟩
end
def seqD (d : D) (φ : FS) : Res (List D × FS) := match d with
  | .list ds => .ok (ds, φ)
  | .tuple ds => .ok (ds, φ)
  | .str x => .ok (x.cps.toList.map fun c => .str ⟨#[c]⟩, φ)
  | _ => .bad
def revD (d : D) (φ : FS) : Res (EV × FS) := match d with
  | .list ds => .ok (.own ds.reverse, φ)
  | .tuple ds => .ok (.dat (.tuple ds.reverse), φ)
  | _ => .bad
section
variable {ρ : Env'} {σ : EnvS} {φ φ1 φ2 : FS} {m m1 m2 : ME} {ms : MA} {t t1 t2 : MT} {s s1 s2 : MS} {g : D → D → Res EV} {gs : List D → Res EV} {d d1 d2 : D} {ds : List D} {e : EV} {vs is : List Nat} {i n : Nat} {α : Type}
@[simp] theorem seqM_o : seqM s1 s2 σ φ = (s1 σ φ).bind fun r => match r.1 with | .nx => s2 r.2.1 r.2.2 | _ => .ok r := nrfl rfl
@[simp] theorem ifS_o : ifS vs t s1 s2 σ φ = (t (soft vs σ) φ).bind fun r => if r.1 = true then s1 σ r.2 else s2 σ r.2 := nrfl rfl
@[simp] theorem retM_o : retM vs m σ φ = (m (soft vs σ) φ).bind fun r => .ok (.ret r.1, σ, r.2) := nrfl rfl
@[simp] theorem retN_o : retN σ φ = .ok (.ret (.dat .none), σ, φ) := nrfl rfl
@[simp] theorem dropM_o : dropM vs m σ φ = (m (soft vs σ) φ).bind fun r => .ok (.nx, σ, r.2) := nrfl rfl
@[simp] theorem asgD_o : asgD vs i m σ φ = (m (soft vs σ) φ).bind fun r => if i < σ.length then .ok (.nx, (aft vs r.1 σ).set i (some (.dat r.1.toD)), r.2) else .bad := nrfl rfl
@[simp] theorem asgM_o : asgM vs i m σ φ = (m (soft vs σ) φ).bind fun r => if i < σ.length then .ok (.nx, (aft vs r.1 σ).set i (some r.1), r.2) else .bad := nrfl rfl
@[simp] theorem parM_o {msE : MAE} : parM vs is msE σ φ = (msE (soft vs σ) φ).bind fun r => if is.length = r.1.length then .ok (.nx, setsE is r.1 (settle vs σ), r.2) else .bad := nrfl rfl
@[simp] theorem unpM_o : unpM vs is m σ φ = (m (soft vs σ) φ).bind fun r => match r.1 with | .dat (.tuple ds) => if is.length = ds.length then .ok (.nx, setsE is (ds.map .dat) (aft vs r.1 σ), r.2) else .bad | _ => .bad := by
  unfold unpM
  congr 1
@[simp] theorem appendM_o : appendM vs i m σ φ = (m (soft vs σ) φ).bind fun r => match pushAt i r.1.toD (aft vs r.1 σ) with | some σ' => .ok (.nx, σ', r.2) | none => .bad := nrfl rfl
@[simp] theorem forM_o {mi : MI α} {set : α → EnvS → Option EnvS} {mb : MS} : forM vs mi set mb σ φ = (mi (soft vs σ) φ).bind fun r => forGo set mb r.1 (settle vs σ) r.2 := nrfl rfl
@[simp] theorem forC_o {mi : MI α} {set : α → EnvS → Option EnvS} {mb : MS} : forC vs mi set mb σ φ = (mi (soft vs σ) φ).bind fun r => forGo set mb r.1 σ r.2 := nrfl rfl
@[simp] theorem lcM_o {own : List Nat} {mi : MI α} {set : α → Env' → Option Env'} {mt : MT} {me : ME} : lcM own mi set mt me ρ φ = (mi ρ φ).bind fun r => if r.1.length ≤ 1000000 then (lcGo set mt me (wipeD ρ own) r.1 r.2).bind fun r2 => .ok (.own r2.1, r2.2) else .bad := nrfl rfl
@[simp] theorem seqI_o : seqI m ρ φ = (m ρ φ).bind fun r => seqD r.1.toD r.2 := by
  unfold seqI
  congr 1
@[simp] theorem seqD_l : seqD (.list ds) φ = .ok (ds, φ) := nrfl rfl
@[simp] theorem seqD_t : seqD (.tuple ds) φ = .ok (ds, φ) := nrfl rfl
@[simp] theorem seqD_s {x : Str} : seqD (.str x) φ = .ok (x.cps.toList.map fun c => .str ⟨#[c]⟩, φ) := nrfl rfl
@[simp] theorem seqD_tup {xs : List Str} : seqD (tupD xs) φ = .ok (xs.map .str, φ) := nrfl rfl
@[simp] theorem seqD_fam {f : List (List Str)} : seqD (famD f) φ = .ok (f.map tupD, φ) := nrfl rfl
@[simp] theorem len_tup {xs : List Str} : lenG [tupD xs] = .ok (.dat (.int xs.length)) := by show Res.ok (EV.dat (.int (xs.map PyData.str).length)) = _; rw [List.length_map]
@[simp] theorem len_fam {f : List (List Str)} : lenG [famD f] = .ok (.dat (.int f.length)) := by show Res.ok (EV.dat (.int (f.map tupD).length)) = _; rw [List.length_map]
@[simp] theorem listG_t : listG [.tuple ds] = .ok (.own ds) := nrfl rfl
@[simp] theorem listG_l : listG [.list ds] = .ok (.own ds) := nrfl rfl
@[simp] theorem list_tup {xs : List Str} : listG [tupD xs] = .ok (.own (xs.map .str)) := nrfl rfl
@[simp] theorem list_fam {f : List (List Str)} : listG [famD f] = .ok (.own (f.map tupD)) := nrfl rfl
@[simp] theorem tuple_tup {xs : List Str} : tupleG [tupD xs] = .ok (.dat (tupD xs)) := nrfl rfl
@[simp] theorem tuple_fam {f : List (List Str)} : tupleG [famD f] = .ok (.dat (famD f)) := nrfl rfl
@[simp] theorem isi_tupD {xs : List Str} : isiB "tuple" (tupD xs) = true := nrfl rfl
@[simp] theorem isi_famD {f : List (List Str)} : isiB "tuple" (famD f) = true := nrfl rfl
@[simp] theorem isi_netD {hs : List Str} {fs : List (List (List Str))} : isiB "tuple" (netD hs fs) = true := nrfl rfl
@[simp] theorem net_0 {hs : List Str} {fs : List (List (List Str))} : ixG (netD hs fs) (.int 0) = .ok (.dat (tupD hs)) := ixG_n (i := 0) rfl
@[simp] theorem net_1 {hs : List Str} {fs : List (List (List Str))} : ixG (netD hs fs) (.int 1) = .ok (.dat (.tuple (fs.map famD))) := ixG_n (i := 1) rfl
theorem rng1I_o : rng1I m ρ φ = (m ρ φ).bind fun r => match r.1.toD with | .int n => if n < 1000000 ∧ -1000000 < n then .ok ((List.range n.toNat).map fun (i : Nat) => PyData.int (0 + (i : Int)), r.2) else .bad | _ => .bad := rfl
theorem rng2I_o : rng2I m1 m2 ρ φ = (m1 ρ φ).bind fun r => (m2 ρ r.2).bind fun r2 => match r.1.toD, r2.1.toD with | .int m, .int n => if m < 1000000 ∧ -1000000 < m ∧ n < 1000000 ∧ -1000000 < n then .ok ((List.range (n - m).toNat).map fun (i : Nat) => PyData.int (m + (i : Int)), r2.2) else .bad | _, _ => .bad := rfl
@[simp] theorem zipI_o : zipI m1 m2 ρ φ = (m1 ρ φ).bind fun r => (m2 ρ r.2).bind fun r2 => match r.1.toD, r2.1.toD with | .list a, .list b => .ok (a.zip b, r2.2) | .tuple a, .tuple b => .ok (a.zip b, r2.2) | _, _ => .bad := nrfl rfl
@[simp] theorem andM_o : andM m1 m2 ρ φ = (m1 ρ φ).bind fun r => match r.1 with | .dat (.bool true) => m2 ρ r.2 | .dat (.bool false) => .ok (.dat (.bool false), r.2) | _ => .bad := by
  unfold andM
  congr 1
@[simp] theorem orM_o : orM m1 m2 ρ φ = (m1 ρ φ).bind fun r => match r.1 with | .dat (.bool true) => .ok (.dat (.bool true), r.2) | .dat (.bool false) => m2 ρ r.2 | _ => .bad := by
  unfold orM
  congr 1
@[simp] theorem notM_o : notM m ρ φ = (m ρ φ).bind fun r => match r.1 with | .dat (.bool b) => .ok (.dat (.bool (!b)), r.2) | _ => .bad := nrfl rfl
@[simp] theorem appM_o {f : MF} : appM n f ms ρ φ = (ms ρ φ).bind fun r => if r.1.length = n then f r.1 r.2 else .bad := nrfl rfl
@[simp] theorem appN_o {f : MF} : appN is n f ms ρ φ = (ms ρ φ).bind fun r => if (pick is r.1).length = n then f (pick is r.1) r.2 else .bad := nrfl rfl
@[simp] theorem revM_o : revM m ρ φ = (m ρ φ).bind fun r => revD r.1.toD r.2 := by
  unfold revM
  congr 1
@[simp] theorem revD_l : revD (.list ds) φ = .ok (.own ds.reverse, φ) := nrfl rfl
@[simp] theorem revD_t : revD (.tuple ds) φ = .ok (.dat (.tuple ds.reverse), φ) := nrfl rfl
@[simp] theorem revD_tup {xs : List Str} : revD (tupD xs) φ = .ok (.dat (tupD xs.reverse), φ) := by
  show Res.ok (EV.dat (PyData.tuple (xs.map PyData.str).reverse), φ) = _
  rw [← List.map_reverse]
  rfl
theorem fnM_o : fnM n s ds φ = (s (startS n ds) φ).bind fun r => match r.1 with | .ret e => .ok (e, r.2.2) | .nx => .ok (.dat .none, r.2.2) | _ => .bad := rfl
def softF (vs : List Nat) : Nat → EnvS → Env'
  | _, [] => []
  | k, x :: σ => soft1 vs k x :: softF vs (k + 1) σ
theorem softF_e : ∀ (k : Nat) (σ : EnvS), σ.mapIdx (fun i => soft1 vs (k + i)) = softF vs k σ
  | _, [] => rfl
  | k, x :: σ => by
    rw [List.mapIdx_cons]
    show soft1 vs k x :: _ = soft1 vs k x :: softF vs (k + 1) σ
    rw [← softF_e (k + 1) σ]
    congr 2
    funext i
    show soft1 vs (k + (i + 1)) = _
    congr 1
    omega
theorem soft_o' (v : Nat) : soft (v :: vs) σ = softF (v :: vs) 0 σ := by
  rw [← softF_e]
  unfold soft
  congr 1
  funext i
  rw [Nat.zero_add]
@[simp] theorem softF_n {k : Nat} : softF vs k [] = [] := nrfl rfl
@[simp] theorem softF_c {k : Nat} {x : Option EV} : softF vs k (x :: σ) = soft1 vs k x :: softF vs (k + 1) σ := nrfl rfl
@[simp] theorem soft1_n {k : Nat} : soft1 vs k none = none := nrfl rfl
@[simp] theorem soft1_d {k : Nat} : soft1 vs k (some (.dat d)) = some d := nrfl rfl
@[simp] theorem soft1_w {k : Nat} : soft1 vs k (some (.own ds)) = if k ∈ vs then some (.list ds) else none := nrfl rfl
def settleF (vs : List Nat) : Nat → EnvS → EnvS
  | _, [] => []
  | k, x :: σ => settle1 vs k x :: settleF vs (k + 1) σ
theorem settleF_e : ∀ (k : Nat) (σ : EnvS), σ.mapIdx (fun i => settle1 vs (k + i)) = settleF vs k σ
  | _, [] => rfl
  | k, x :: σ => by
    rw [List.mapIdx_cons]
    show settle1 vs k x :: _ = settle1 vs k x :: settleF vs (k + 1) σ
    rw [← settleF_e (k + 1) σ]
    congr 2
    funext i
    show settle1 vs (k + (i + 1)) = _
    congr 1
    omega
theorem settle_o' (v : Nat) : settle (v :: vs) σ = settleF (v :: vs) 0 σ := by
  rw [← settleF_e]
  unfold settle
  congr 1
  funext i
  rw [Nat.zero_add]
@[simp] theorem settleF_n {k : Nat} : settleF vs k [] = [] := nrfl rfl
@[simp] theorem settleF_c {k : Nat} {x : Option EV} : settleF vs k (x :: σ) = settle1 vs k x :: settleF vs (k + 1) σ := nrfl rfl
@[simp] theorem settle1_n {k : Nat} : settle1 vs k none = none := nrfl rfl
@[simp] theorem settle1_d {k : Nat} : settle1 vs k (some (.dat d)) = some (.dat d) := nrfl rfl
@[simp] theorem settle1_w {k : Nat} : settle1 vs k (some (.own ds)) = if k ∈ vs then some (.dat (.list ds)) else some (.own ds) := nrfl rfl
@[simp] theorem lfE_d : lfE (.dat d) = lfD d := nrfl rfl
@[simp] theorem lfD_n : lfD .none = true := nrfl rfl
@[simp] theorem lfD_b {b : Bool} : lfD (.bool b) = true := nrfl rfl
@[simp] theorem lfD_i {z : Int} : lfD (.int z) = true := nrfl rfl
@[simp] theorem lfD_s {z : Str} : lfD (.str z) = true := nrfl rfl
theorem sat_for {set : α → EnvS → Option EnvS} {mb : MS} {as : List α} {Q : Fl × EnvS × FS → Prop} (I : List α → EnvS → FS → Prop)
    (h0 : I [] σ φ) (step : ∀ pre a post σ φ, as = pre ++ a :: post → I pre σ φ → ∃ σ1, set a σ = some σ1 ∧ sat (mb σ1 φ) fun r => (r.1 = .nx ∧ I (pre ++ [a]) r.2.1 r.2.2) ∨ (∃ e, r.1 = .ret e ∧ Q r))
    (fin : ∀ σ φ, I as σ φ → Q (.nx, σ, φ)) : sat (forGo set mb as σ φ) Q := by
  have go : ∀ (post pre : List α) (σ : EnvS) (φ : FS), as = pre ++ post → I pre σ φ → sat (forGo set mb post σ φ) Q := by
    intro post
    induction post with
    | nil =>
      intro pre σ φ e hI
      rw [List.append_nil] at e
      subst e
      exact ⟨_, rfl, fin σ φ hI⟩
    | cons a post ih =>
      intro pre σ φ e hI
      obtain ⟨σ1, h1, ⟨⟨fl, σ2, φ2⟩, h2, h3⟩⟩ := step pre a post σ φ e hI
      unfold forGo
      rw [h1]
      dsimp only
      rw [h2, bind_e]
      rcases h3 with ⟨h3, h4⟩ | ⟨e', h3, h4⟩
      · dsimp only at h3 h4
        subst h3
        exact ih (pre ++ [a]) σ2 φ2 (by rw [e, List.append_assoc]; rfl) h4
      · dsimp only at h3
        subst h3
        exact ⟨_, rfl, h4⟩
  exact go as [] σ φ (by rw [List.nil_append]) h0
/-- a loop that keeps J or leaves by R -/
theorem sat_forJ {set : α → EnvS → Option EnvS} {mb : MS} {as : List α} (J : EnvS → FS → Prop) (R : Fl × EnvS × FS → Prop) (hR : ∀ r, R r → ∃ e, r.1 = .ret e) (h0 : J σ φ)
    (step : ∀ a ∈ as, ∀ σ φ, J σ φ → ∃ σ1, set a σ = some σ1 ∧ sat (mb σ1 φ) fun r => (r.1 = .nx ∧ J r.2.1 r.2.2) ∨ R r) : sat (forGo set mb as σ φ) fun r => (r.1 = .nx ∧ J r.2.1 r.2.2) ∨ R r :=
  sat_for (fun _ σ φ => J σ φ) h0 (fun pre a post σ φ e hJ => by
    obtain ⟨σ1, h1, h2⟩ := step a (by rw [e]; simp) σ φ hJ
    refine ⟨σ1, h1, sat_mono h2 fun r hr => ?_⟩
    rcases hr with hr | hr
    · exact .inl hr
    · obtain ⟨e', he⟩ := hR r hr
      exact .inr ⟨e', he, .inr hr⟩) fun σ φ hJ => .inl ⟨rfl, hJ⟩
theorem sat_lc {set : α → Env' → Option Env'} {mt : MT} {me : ME} {as : List α} {ρ0 : Env'} {Q : List D × FS → Prop} (I : List α → List D → FS → Prop) (h0 : I [] [] φ)
    (step : ∀ pre a post ds φ, as = pre ++ a :: post → I pre ds φ → ∃ ρ1, set a ρ0 = some ρ1 ∧ sat (mt ρ1 φ) fun r => (r.1 = false ∧ I (pre ++ [a]) ds r.2) ∨ (r.1 = true ∧ sat (me ρ1 r.2) fun r1 => I (pre ++ [a]) (ds ++ [r1.1.toD]) r1.2))
    (fin : ∀ ds φ, I as ds φ → Q (ds, φ)) : sat (lcGo set mt me ρ0 as φ) Q := by
  have go : ∀ (post pre : List α) (ds : List D) (φ : FS), as = pre ++ post → I pre ds φ → sat (lcGo set mt me ρ0 post φ) fun r => Q (ds ++ r.1, r.2) := by
    intro post
    induction post with
    | nil =>
      intro pre ds φ e hI
      rw [List.append_nil] at e
      subst e
      exact ⟨_, rfl, by simpa using fin ds φ hI⟩
    | cons a post ih =>
      intro pre ds φ e hI
      obtain ⟨ρ1, h1, ⟨⟨b, φ1⟩, h2, h3⟩⟩ := step pre a post ds φ e hI
      unfold lcGo
      rw [h1]
      dsimp only
      rw [h2, bind_e]
      rcases h3 with ⟨h3, h4⟩ | ⟨h3, h4⟩
      · dsimp only at h3 h4
        subst h3
        exact ih (pre ++ [a]) ds φ1 (by rw [e, List.append_assoc]; rfl) h4
      · dsimp only at h3 h4
        subst h3
        rw [if_pos rfl]
        obtain ⟨⟨e1, φ2⟩, h5, h6⟩ := h4
        obtain ⟨⟨r1, r2⟩, h7, h8⟩ := ih (pre ++ [a]) (ds ++ [e1.toD]) φ2 (by rw [e, List.append_assoc]; rfl) h6
        rw [h5, bind_e, h7, bind_e]
        refine ⟨_, rfl, ?_⟩
        dsimp only at h8 ⊢
        rw [List.append_assoc] at h8
        exact h8
  exact sat_mono (go as [] [] φ (by rw [List.nil_append]) h0) fun r h => by rw [List.nil_append] at h; exact h
/-- without an effect -/
theorem lc_eq {set : α → Env' → Option Env'} {mt : MT} {me : ME} {as : List α} {ρ0 : Env'} (b : α → Bool) (f : α → D)
    (h : ∀ a ∈ as, ∃ ρ1, set a ρ0 = some ρ1 ∧ mt ρ1 φ = .ok (b a, φ) ∧ (b a = true → sat (me ρ1 φ) fun r => r.1.toD = f a ∧ r.2 = φ)) : lcGo set mt me ρ0 as φ = .ok ((as.filter b).map f, φ) :=
  lcGo_pure as fun a m => by
    obtain ⟨ρ1, h1, h2, h3⟩ := h a m
    refine ⟨ρ1, h1, h2, fun z => ?_⟩
    obtain ⟨⟨e, φ'⟩, e1, e2, e3⟩ := h3 z
    dsimp only at e2 e3
    subst e3
    exact ⟨e, e1, e2⟩
theorem lc_eqA {set : α → Env' → Option Env'} {me : ME} {as : List α} {ρ0 : Env'} (f : α → D)
    (h : ∀ a ∈ as, ∃ ρ1, set a ρ0 = some ρ1 ∧ sat (me ρ1 φ) fun r => r.1.toD = f a ∧ r.2 = φ) : lcGo set yesT me ρ0 as φ = .ok (as.map f, φ) := by
  have := lc_eq (mt := yesT) (φ := φ) (fun _ => true) f (as := as) (set := set) (me := me) (ρ0 := ρ0) fun a m => by
    obtain ⟨ρ1, h1, h2⟩ := h a m
    exact ⟨ρ1, h1, rfl, fun _ => h2⟩
  rwa [List.filter_eq_self.mpr fun _ _ => rfl] at this
end
end VI
namespace VI
open PySem PySem.Spec PyProof.Rows L2
section
variable {ρ : Env'} {σ : EnvS} {φ φ1 φ2 : FS} {m m1 m2 : ME} {ms : MA} {t t1 t2 : MT} {s s1 s2 : MS} {g : D → D → Res EV} {gs : List D → Res EV} {d d1 d2 : D} {ds : List D} {e : EV} {vs is : List Nat} {i n : Nat} {α : Type}
@[simp] theorem fpM_o {put : FS → Int → FS} : fpM i m put σ φ = (m (soft [] σ) φ).bind fun r => match r.1 with | .dat (.int n) => if isFeed i (soft [] σ) = true then .ok (.nx, σ, put r.2 n) else .bad | _ => .bad := by
  unfold fpM
  congr 1
@[simp] theorem retV0 {x : EV} : retV 0 (some x :: σ) φ = .ok (.ret x, some x :: σ, φ) := nrfl rfl
@[simp] theorem retV_o : retV i σ φ = (match σ[i]? with | some (some e) => .ok (.ret e, σ, φ) | _ => .bad) := nrfl rfl
@[simp] theorem feed_s {x : Option D} : isFeed (i + 1) (x :: ρ) = isFeed i ρ := nrfl rfl
@[simp] theorem fgI_o {get : FS → Int} : fgI i get ρ φ = if isFeed i ρ = true then .ok (.dat (.int (get φ)), φ) else .bad := nrfl rfl
@[simp] theorem fgC_o : fgC i ρ φ = if isFeed i ρ = true then .ok (.dat (.list (φ.cells.map .int)), φ) else .bad := nrfl rfl
@[simp] theorem mod_o {a b : Int} : modG (.int a) (.int b) = if 0 < b then .ok (.dat (.int (a % b))) else .bad := nrfl rfl
@[simp] theorem fd_o {a b : Int} : fdG (.int a) (.int b) = if 0 < b ∧ b < 2 ^ 64 then .ok (.dat (.int (a / b))) else .bad := nrfl rfl
@[simp] theorem sub_ii {a b : Int} : subG (.int a) (.int b) = .ok (.dat (.int (a - b))) := nrfl rfl
theorem mul_m {a k b : Int} (h : 0 < k) (h2 : k ≤ 2 ^ 64) : mulG (.int (a % k)) (.int b) = .ok (.dat (.int (a % k * b))) :=
  mul_l (by have := Int.emod_nonneg a (show k ≠ 0 by omega); omega) (by have := Int.emod_lt_of_pos a h; omega)
theorem mul_c {a b : Int} (h : (decide (-(2 ^ 64) < a) && decide (a < 2 ^ 64)) = true) : mulG (.int a) (.int b) = .ok (.dat (.int (a * b))) := by
  rw [Bool.and_eq_true, decide_eq_true_eq, decide_eq_true_eq] at h
  exact mul_l h.1 h.2
@[simp] theorem pow_o {a b : Int} : powG (.int a) (.int b) = if 0 ≤ b ∧ b ≤ 1000 ∧ a.natAbs < 2 ^ 64 then .ok (.dat (.int (a ^ b.toNat))) else .bad := nrfl rfl
@[simp] theorem le_ii {a b : Int} : leG (.int a) (.int b) = .ok (.dat (.bool (decide (a ≤ b)))) := nrfl rfl
@[simp] theorem band_o {a b : Int} : bandG (.int a) (.int b) = if 0 ≤ a ∧ b = 1 then .ok (.dat (.int (a % 2))) else .bad := nrfl rfl
@[simp] theorem is_o {neg : Bool} : isG neg d .none = .ok (.dat (.bool (neg ^^ noneB d))) := nrfl rfl
@[simp] theorem soft_v {v : Nat} : soft (v :: vs) σ = softF (v :: vs) 0 σ := soft_o' v
@[simp] theorem settle_v {v : Nat} : settle (v :: vs) σ = settleF (v :: vs) 0 σ := settle_o' v
@[simp] theorem wipe_n : wipeD ρ [] = ρ := nrfl rfl
@[simp] theorem wipe_c {v : Nat} : wipeD ρ (v :: vs) = (wipeD ρ vs).set v none := nrfl rfl
theorem shaped_ints (cs : List Int) : SeqAt.shaped (.list (cs.map .int)) = true := by
  have h1 : ∀ cs : List Int, PyData.canLayAll0 (cs.map .int) = true := fun cs => by
    induction cs with
    | nil => rfl
    | cons c cs ih => exact ih
  have h2 : PyData.depthAll (cs.map .int) ≤ 0 := depth_all fun _ _ => Nat.le_refl _
  unfold SeqAt.shaped
  have e : (PyData.list (cs.map .int)).canLay0 = true := h1 cs
  have e2 : (PyData.list (cs.map .int)).depth ≤ 64 := by
    show PyData.depthAll (cs.map .int) + 1 ≤ 64
    omega
  rw [e, decide_eq_true e2]
  rfl
theorem ne_ints (cs : List Int) : neG (.list (cs.map .int)) (.list []) = .ok (.dat (.bool (!decide (cs = [])))) := by
  unfold neG
  rw [if_pos ⟨shaped_ints cs, shaped_ints []⟩]
  cases cs <;> rfl
@[simp] theorem ne_nil : neG (.list []) (.list []) = .ok (.dat (.bool false)) := ne_ints []
theorem ix_ints {cs : List Int} {z : Int} (h : 0 ≤ z) (h2 : z < cs.length) : ∃ c, ixG (.list (cs.map .int)) (.int z) = .ok (.dat (.int c)) := by
  obtain ⟨d, md, ed⟩ := atI_in (ds := cs.map .int) h (by rw [List.length_map]; exact h2)
  obtain ⟨c, _, ec⟩ := List.mem_map.mp md
  subst ec
  exact ⟨c, ed⟩
end
end VI
namespace VI
open PySem PySem.Spec PyProof.Rows L2
section
variable {ρ : Env'} {σ : EnvS} {φ φ1 φ2 : FS} {m m1 m2 : ME} {d d1 d2 : D} {ds : List D} {e : EV} {vs is : List Nat} {i n : Nat} {α : Type}
@[simp] theorem forGo_n {set : α → EnvS → Option EnvS} {mb : MS} : forGo set mb [] σ φ = .ok (.nx, σ, φ) := nrfl rfl
theorem forGo_c {set : α → EnvS → Option EnvS} {mb : MS} {a : α} {as : List α} : forGo set mb (a :: as) σ φ = (match set a σ with | none => .bad | some σ1 => (mb σ1 φ).bind fun r => match r.1 with | .nx => forGo set mb as r.2.1 r.2.2 | .ct => forGo set mb as r.2.1 r.2.2 | .bk => .ok (.nx, r.2) | .ret e => .ok (.ret e, r.2)) := rfl
@[simp] theorem lcGo_n {set : α → Env' → Option Env'} {mt : MT} {me : ME} : lcGo set mt me ρ [] φ = .ok ([], φ) := nrfl rfl
theorem lcGo_c {set : α → Env' → Option Env'} {mt : MT} {me : ME} {a : α} {as : List α} : lcGo set mt me ρ (a :: as) φ = (match set a ρ with | none => .bad | some ρ1 => (mt ρ1 φ).bind fun r => if r.1 = true then (me ρ1 r.2).bind fun r1 => (lcGo set mt me ρ as r1.2).bind fun r2 => .ok (r1.1.toD :: r2.1, r2.2) else lcGo set mt me ρ as r.2) := rfl
@[simp] theorem setNS_o {a : D} : setNS i a σ = if i < σ.length then some (σ.set i (some (.dat a))) else none := nrfl rfl
@[simp] theorem setN_o {a : D} : setN i a ρ = some (ρ.set i (some a)) := nrfl rfl
@[simp] theorem setP_o {a : D × D} {j : Nat} : setP i j a ρ = some ((ρ.set i (some a.1)).set j (some a.2)) := nrfl rfl
@[simp] theorem pushAt_o : pushAt i d σ = (match σ[i]? with | some (some (.own ds)) => if ds.length < 1000000 then some (σ.set i (some (.own (ds ++ [d])))) else none | _ => none) := nrfl rfl
@[simp] theorem yesT_o : yesT ρ φ = .ok (true, φ) := nrfl rfl
end
theorem sat_rng1 {m : ME} {ρ : Env'} {φ : FS} {Q : List D × FS → Prop} (h : sat (m ρ φ) fun r => ∃ n : Nat, r.1.toD = .int n ∧ n < 1000000 ∧ Q ((List.range n).map fun (i : Nat) => PyData.int (0 + (i : Int)), r.2)) : sat (rng1I m ρ φ) Q := by
  obtain ⟨⟨e, φ1⟩, h1, n, h2, h3, h4⟩ := h
  refine ⟨_, ?_, h4⟩
  unfold rng1I
  rw [h1, bind_e]
  dsimp only at h2 ⊢
  rw [h2]
  dsimp only
  rw [if_pos ⟨by omega, by omega⟩, Int.toNat_natCast]
theorem sat_rng2 {m1 m2 : ME} {ρ : Env'} {φ : FS} {Q : List D × FS → Prop} (h : sat (m1 ρ φ) fun r1 => sat (m2 ρ r1.2) fun r => ∃ a n : Nat, r1.1.toD = .int a ∧ r.1.toD = .int n ∧ a < 1000000 ∧ n < 1000000 ∧ Q ((List.range (n - a)).map fun (i : Nat) => PyData.int ((a : Int) + (i : Int)), r.2)) : sat (rng2I m1 m2 ρ φ) Q := by
  obtain ⟨⟨e, φ1⟩, h1, ⟨e2, φ2⟩, h2, a, n, h3, h4, h5, h6, h7⟩ := h
  refine ⟨_, ?_, h7⟩
  unfold rng2I
  dsimp only at h2 h3 h4
  rw [h1, bind_e, h2, bind_e]
  dsimp only
  rw [h3, h4]
  dsimp only
  rw [if_pos ⟨by omega, by omega, by omega, by omega⟩]
  have e : ((n : Int) - (a : Int)).toNat = n - a := by omega
  rw [e]
@[simp] theorem strD_s {x : Str} : strD (.str x) = x := nrfl rfl
@[simp] theorem lotD_t {xs : List Str} : lotD (tupD xs) = xs := lot_tup xs
@[simp] theorem noneB_n : noneB .none = true := nrfl rfl
@[simp] theorem noneB_t {ds : List D} : noneB (.tuple ds) = false := nrfl rfl
@[simp] theorem noneB_s {x : Str} : noneB (.str x) = false := nrfl rfl
structure Sh (k : Nat) (d : D) : Prop where
  lay : d.canLay0 = true
  dp : d.depth ≤ k
theorem Sh.shaped {k : Nat} {d : D} (h : Sh k d) (hk : k ≤ 64 := by omega) : SeqAt.shaped d = true := by
  unfold SeqAt.shaped
  rw [h.lay, decide_eq_true (Nat.le_trans h.dp hk)]
  rfl
theorem Sh.mono {k k' : Nat} {d : D} (h : Sh k d) (hk : k ≤ k') : Sh k' d := ⟨h.lay, Nat.le_trans h.dp hk⟩
theorem Fit.sh {d : D} {k n : Nat} (h : Fit d k n) : Sh k d := ⟨(lay_plain d h.pl).1, h.dp⟩
theorem layAll_of : ∀ {ds : List D}, (∀ d ∈ ds, d.canLay0 = true) → PyData.canLayAll0 ds = true
  | [], _ => rfl
  | d :: ds, h => by
    have h1 := h d List.mem_cons_self
    have h2 := layAll_of fun x m => h x (List.mem_cons_of_mem _ m)
    simp [PyData.canLayAll0, h1, h2]
theorem dpAll_of {k : Nat} : ∀ {ds : List D}, (∀ d ∈ ds, d.depth ≤ k) → PyData.depthAll ds ≤ k
  | [], _ => Nat.zero_le _
  | d :: ds, h => by
    have h1 := h d List.mem_cons_self
    have h2 := dpAll_of fun x m => h x (List.mem_cons_of_mem _ m)
    show max d.depth (PyData.depthAll ds) ≤ k
    omega
theorem Sh.tup {k : Nat} {ds : List D} (h : ∀ d ∈ ds, Sh k d) : Sh (k + 1) (.tuple ds) := ⟨by
  have := layAll_of fun d m => (h d m).lay
  simpa only [PyData.canLay0] using this, Nat.succ_le_succ (dpAll_of fun d m => (h d m).dp)⟩
theorem Sh.lst {k : Nat} {ds : List D} (h : ∀ d ∈ ds, Sh k d) : Sh (k + 1) (.list ds) := ⟨by
  have := layAll_of fun d m => (h d m).lay
  simpa only [PyData.canLay0] using this, Nat.succ_le_succ (dpAll_of fun d m => (h d m).dp)⟩
theorem layAll_iff : ∀ {ds : List D}, PyData.canLayAll0 ds = true → ∀ d ∈ ds, d.canLay0 = true
  | [], _, d, m => by cases m
  | x :: ds, h, d, m => by
    simp only [PyData.canLayAll0, Bool.and_eq_true] at h
    rcases List.mem_cons.mp m with e | m
    · rw [e]; exact h.1
    · exact layAll_iff h.2 d m
theorem dpAll_iff {k : Nat} : ∀ {ds : List D}, PyData.depthAll ds ≤ k → ∀ d ∈ ds, d.depth ≤ k
  | [], _, d, m => by cases m
  | x :: ds, h, d, m => by
    have h' : max x.depth (PyData.depthAll ds) ≤ k := h
    rcases List.mem_cons.mp m with e | m
    · rw [e]; omega
    · exact dpAll_iff (by omega) d m
theorem Sh.tup_iff {k : Nat} {ds : List D} (h : Sh k (.tuple ds)) : ∀ d ∈ ds, Sh k d := fun d m => by
  refine ⟨layAll_iff (by simpa only [PyData.canLay0] using h.lay) d m, ?_⟩
  have q : PyData.depthAll ds + 1 ≤ k := h.dp
  exact dpAll_iff (by omega) d m
@[simp] theorem Sh.bool {k : Nat} {b : Bool} : Sh k (.bool b) := ⟨rfl, Nat.zero_le _⟩
@[simp] theorem Sh.none {k : Nat} : Sh k .none := ⟨rfl, Nat.zero_le _⟩
@[simp] theorem Sh.int {k : Nat} {z : Int} : Sh k (.int z) := ⟨rfl, Nat.zero_le _⟩
theorem Sh.str {k : Nat} {x : Str} (h : Ok x) : Sh k (.str x) := (Fit.str h).sh.mono (Nat.zero_le _)
theorem Sh.lot {k : Nat} {xs : List Str} (h : Oks xs) (hk : 1 ≤ k := by omega) : Sh k (tupD xs) := (Fit.lot h).sh.mono hk
theorem eq_sh {d e : D} {k k' : Nat} (h : Sh k d) (h' : Sh k' e) (hk : k ≤ 64 := by omega) (hk' : k' ≤ 64 := by omega) : eqG d e = .ok (.dat (.bool (PyData.eqv d e))) := by
  unfold eqG
  rw [if_pos ⟨h.shaped hk, h'.shaped hk'⟩]
  rfl
theorem ne_sh {d e : D} {k k' : Nat} (h : Sh k d) (h' : Sh k' e) (hk : k ≤ 64 := by omega) (hk' : k' ≤ 64 := by omega) : neG d e = .ok (.dat (.bool (!PyData.eqv d e))) := by
  unfold neG
  rw [if_pos ⟨h.shaped hk, h'.shaped hk'⟩]
  rfl
/-- a list beside the empty one -/
theorem eqv_nil (ds : List D) : PyData.eqv (.list ds) (.list []) = ds.isEmpty := by cases ds <;> rfl
theorem eq_nil {ds : List D} {k : Nat} (h : ∀ d ∈ ds, Sh k d) (hk : k ≤ 60 := by omega) : eqG (.list ds) (.list []) = .ok (.dat (.bool ds.isEmpty)) := by
  rw [eq_sh (Sh.lst h) (Sh.lst (k := 0) fun d m => by cases m), eqv_nil]
theorem ne_nilD {ds : List D} {k : Nat} (h : ∀ d ∈ ds, Sh k d) (hk : k ≤ 60 := by omega) : neG (.list ds) (.list []) = .ok (.dat (.bool (!ds.isEmpty))) := by
  rw [ne_sh (Sh.lst h) (Sh.lst (k := 0) fun d m => by cases m), eqv_nil]
def inS (hs : List Str) (d : D) : Bool := hs.any fun y => PyData.eqv (.str y) d
def inF (f : List (List Str)) (d : D) : Bool := f.any fun z => PyData.eqv (tupD z) d
theorem str_eqv {x : Str} {d : D} : PyData.eqv (.str x) d = true ↔ d = .str x := by
  cases d with
  | str y =>
    rw [eqv_str, decide_eq_true_iff]
    exact ⟨fun h => by rw [h], fun h => by cases h; rfl⟩
  | none => exact ⟨fun h => (by cases h), fun h => (by cases h)⟩
  | bool b => exact ⟨fun h => (by cases h), fun h => (by cases h)⟩
  | int b => exact ⟨fun h => (by cases h), fun h => (by cases h)⟩
  | list b => exact ⟨fun h => (by cases h), fun h => (by cases h)⟩
  | tuple b => exact ⟨fun h => (by cases h), fun h => (by cases h)⟩
  | dict b => exact ⟨fun h => (by cases h), fun h => (by cases h)⟩
theorem strs_eqv : ∀ {xs : List Str} {ds : List D}, PyData.eqvAll (xs.map .str) ds = true ↔ ds = xs.map .str
  | [], [] => ⟨fun _ => rfl, fun _ => rfl⟩
  | [], d :: ds => ⟨fun h => (by cases h), fun h => (by cases h)⟩
  | x :: xs, [] => ⟨fun h => (by cases h), fun h => (by cases h)⟩
  | x :: xs, d :: ds => by
    show (PyData.eqv (.str x) d && PyData.eqvAll (xs.map .str) ds) = true ↔ _
    rw [Bool.and_eq_true, str_eqv, strs_eqv, List.map_cons, List.cons.injEq]
theorem tup_eqv {xs : List Str} {d : D} : PyData.eqv (tupD xs) d = true ↔ d = tupD xs := by
  cases d with
  | tuple ds =>
    show PyData.eqvAll (xs.map .str) ds = true ↔ _
    rw [strs_eqv]
    exact ⟨fun h => by rw [h]; rfl, fun h => by cases h; rfl⟩
  | none => exact ⟨fun h => (by cases h), fun h => (by cases h)⟩
  | bool b => exact ⟨fun h => (by cases h), fun h => (by cases h)⟩
  | int b => exact ⟨fun h => (by cases h), fun h => (by cases h)⟩
  | list b => exact ⟨fun h => (by cases h), fun h => (by cases h)⟩
  | str b => exact ⟨fun h => (by cases h), fun h => (by cases h)⟩
  | dict b => exact ⟨fun h => (by cases h), fun h => (by cases h)⟩
theorem inS_iff {hs : List Str} {d : D} : inS hs d = true ↔ ∃ x ∈ hs, d = .str x := by
  unfold inS
  rw [List.any_eq_true]
  exact ⟨fun ⟨x, m, h⟩ => ⟨x, m, str_eqv.mp h⟩, fun ⟨x, m, h⟩ => ⟨x, m, str_eqv.mpr h⟩⟩
theorem inF_iff {f : List (List Str)} {d : D} : inF f d = true ↔ ∃ z ∈ f, d = tupD z := by
  unfold inF
  rw [List.any_eq_true]
  exact ⟨fun ⟨x, m, h⟩ => ⟨x, m, tup_eqv.mp h⟩, fun ⟨x, m, h⟩ => ⟨x, m, tup_eqv.mpr h⟩⟩
theorem inG_t {neg : Bool} {d : D} {xs : List D} : inG neg d (.tuple xs) = if SeqAt.shaped d = true ∧ SeqAt.shaped (.list xs) = true then rb (neg ^^ xs.any fun z => PyData.eqv z d) else .bad := by
  cases d <;> rfl
theorem inG_l {neg : Bool} {d : D} {xs : List D} : inG neg d (.list xs) = if SeqAt.shaped d = true ∧ SeqAt.shaped (.list xs) = true then rb (neg ^^ xs.any fun z => PyData.eqv z d) else .bad := by
  cases d <;> rfl
theorem in_hs {d : D} {hs : List Str} {neg : Bool} {k : Nat} (hd : Sh k d) (h : Oks hs) (hk : k ≤ 60 := by omega) : inG neg d (tupD hs) = .ok (.dat (.bool (neg ^^ inS hs d))) := by
  have s2 : SeqAt.shaped (.list (hs.map .str)) = true := (Sh.lst (k := 0) fun x m => by obtain ⟨y, my, e⟩ := List.mem_map.mp m; subst e; exact Sh.str (h y my)).shaped
  have e : ((hs.map PyData.str).any fun z => PyData.eqv z d) = inS hs d := any_map _ _ _
  show inG neg d (.tuple (hs.map .str)) = _
  rw [inG_t, if_pos ⟨hd.shaped, s2⟩, e]
  rfl
theorem in_fam {d : D} {f : List (List Str)} {neg : Bool} {k : Nat} (hd : Sh k d) (h : ∀ x ∈ f, Oks x) (hk : k ≤ 60 := by omega) : inG neg d (famD f) = .ok (.dat (.bool (neg ^^ inF f d))) := by
  have s2 : SeqAt.shaped (.list (f.map tupD)) = true := (Sh.lst (k := 1) fun x m => by obtain ⟨y, my, e⟩ := List.mem_map.mp m; subst e; exact Sh.lot (h y my)).shaped
  have e : ((f.map tupD).any fun z => PyData.eqv z d) = inF f d := any_map _ _ _
  show inG neg d (.tuple (f.map tupD)) = _
  rw [inG_t, if_pos ⟨hd.shaped, s2⟩, e]
  rfl
theorem lf_all : ∀ {ds : List D}, (∀ d ∈ ds, lfD d = true) → lfAll ds = true
  | [], _ => rfl
  | d :: ds, h => by
    show (lfD d && lfAll ds) = true
    rw [h d List.mem_cons_self, lf_all fun x m => h x (List.mem_cons_of_mem _ m)]
    rfl
theorem lf_tup (xs : List Str) : lfD (tupD xs) = true := lf_all fun d m => by
  obtain ⟨x, _, rfl⟩ := List.mem_map.mp m
  rfl
theorem lf_fam (f : List (List Str)) : lfD (famD f) = true := lf_all fun d m => by
  obtain ⟨x, _, rfl⟩ := List.mem_map.mp m
  exact lf_tup x
theorem add_tt {xs ys : List D} (h : xs.length + ys.length ≤ 1000000) : addG (.tuple xs) (.tuple ys) = .ok (.dat (.tuple (xs ++ ys))) := if_pos h
theorem add_ll {xs ys : List D} (h : xs.length + ys.length ≤ 1000000) : addG (.list xs) (.list ys) = .ok (.own (xs ++ ys)) := if_pos h
theorem cut_from1 {α : Type} (xs : List α) (n : Nat) : cutD xs (some ((n : Int) + 1)) none = xs.drop (n + 1) := by
  have : ((n : Int) + 1) = ((n + 1 : Nat) : Int) := by omega
  rw [this, cut_from]
theorem ix_last {ds : List D} (h : ds ≠ []) : ∃ d ∈ ds, ixG (.list ds) (.int (-1)) = .ok (.dat d) := by
  have lp := List.length_pos_iff.mpr h
  have hn : ds.length - 1 < ds.length := by omega
  refine ⟨ds[ds.length - 1], List.getElem_mem hn, ?_⟩
  show atD ds (-1) = _
  unfold atD
  have e : atI ds (-1 : Int) = some ds[ds.length - 1] := by
    unfold atI
    have e1 : ixN ds.length (-1 : Int) = some (ds.length - 1) := by
      unfold ixN
      rw [if_neg (by omega), if_pos (by omega)]
      congr 1
      omega
    rw [e1]
    exact List.getElem?_eq_getElem hn
  rw [e]
theorem idx_list {hs : List Str} {x : Str} {i : Nat} (ho : Oks hs) (hx : Ok x) (h : hs.findIdx? (· == x) = some i) : idxG (.list (hs.map .str)) (.str x) = .ok (.dat (.int i)) := by
  have s2 : SeqAt.shaped (.list (hs.map .str)) = true := (Sh.lst (k := 0) fun x m => by obtain ⟨y, my, e⟩ := List.mem_map.mp m; subst e; exact Sh.str (ho y my)).shaped
  have e : (hs.map PyData.str).findIdx? (fun z => PyData.eqv z (.str x)) = some i := by
    rw [List.findIdx?_map]
    exact h
  show (if _ then _ else _) = _
  rw [if_pos ⟨s2, (Sh.str (k := 0) hx).shaped⟩, e]
end VI
namespace VI
open PySem PySem.Spec PyProof.Rows L2 PySem.Builtin PySem.Builtin.Str
mutual
def pr : D → Bool
  | .none => true
  | .bool _ => true
  | .int i => decide (i.natAbs.log2 < 1920) && PyData.strOk (Str.ofString (toString i))
  | .str x => PyData.strOk x
  | .list ds => prAll ds
  | .tuple ds => prAll ds
  | .dict _ => false
def prAll : List D → Bool
  | [] => true
  | d :: ds => pr d && prAll ds
end
mutual
def sp : D → Nat
  | .none => 4
  | .bool _ => 5
  | .int i => (Str.ofString (toString i)).length
  | .str x => 10 * x.length + 2
  | .list ds => spAll ds + 4
  | .tuple ds => spAll ds + 4
  | .dict _ => 0
def spAll : List D → Nat
  | [] => 0
  | d :: ds => sp d + 2 + spAll ds
end
theorem chr_ok {q c e : Nat} (hq : q < 0x110000) (hc : c < 0x110000) (h : e ∈ reprChar q c) : e < 0x110000 := by
  have hex : ∀ w, ∀ e ∈ (List.replicate (w - ((Nat.toDigits 16 c).map Char.toNat).length) 48 ++ (Nat.toDigits 16 c).map Char.toNat), e < 0x110000 := fun w e m => by
    rcases List.mem_append.mp m with m | m
    · rw [(List.mem_replicate.mp m).2]; decide
    · obtain ⟨ch, _, rfl⟩ := List.mem_map.mp m
      rcases ch.valid with v | v
      · exact Nat.lt_trans (show ch.val.toNat < 0xd800 from v) (by decide)
      · exact v.2
  unfold reprChar at h
  dsimp only at h
  have two : ∀ a b : Nat, a < 0x110000 → b < 0x110000 → e ∈ [a, b] → e < 0x110000 := fun a b ha hb m => by
    rcases List.mem_cons.mp m with m | m
    · rw [m]; exact ha
    · rw [List.mem_singleton.mp m]; exact hb
  have app : ∀ (a b w : Nat), a < 0x110000 → b < 0x110000 → e ∈ [a, b] ++ (List.replicate (w - ((Nat.toDigits 16 c).map Char.toNat).length) 48 ++ (Nat.toDigits 16 c).map Char.toNat) → e < 0x110000 := fun a b w ha hb m => by
    rcases List.mem_append.mp m with m | m
    · exact two a b ha hb m
    · exact hex w e m
  split at h
  · exact two 92 c (by decide) hc h
  · split at h
    · exact two 92 110 (by decide) (by decide) h
    · split at h
      · exact two 92 114 (by decide) (by decide) h
      · split at h
        · exact two 92 116 (by decide) (by decide) h
        · split at h
          · rw [List.mem_singleton.mp h]; exact hc
          · split at h
            · exact app 92 120 2 (by decide) (by decide) h
            · split at h
              · exact app 92 117 4 (by decide) (by decide) h
              · exact app 92 85 8 (by decide) (by decide) h
theorem ok_repr {x : Str} (h : PyData.strOk x = true) : PyData.strOk (reprText x) = true := by
  rw [strOk_iff] at *
  have hq : reprQuote x < 0x110000 := by unfold reprQuote; split <;> decide
  have go : ∀ (l : List Nat) (acc : Array Nat), (∀ c ∈ l, c < 0x110000) → (∀ c ∈ acc.toList, c < 0x110000) → ∀ c ∈ (l.foldl (fun out c => out ++ (reprChar (reprQuote x) c).toArray) acc).toList, c < 0x110000 := by
    intro l
    induction l with
    | nil => intro acc _ h; exact h
    | cons a l ih =>
      intro acc h1 h2
      refine ih _ (fun c m => h1 c (List.mem_cons_of_mem _ m)) fun c m => ?_
      rw [Array.toList_append] at m
      rcases List.mem_append.mp m with m | m
      · exact h2 c m
      · exact chr_ok hq (h1 a List.mem_cons_self) m
  intro c m
  unfold reprText at m
  dsimp only at m
  rw [Array.toList_push] at m
  rcases List.mem_append.mp m with m | m
  · rw [← Array.foldl_toList] at m
    exact go _ _ h (fun c m => by
      have m2 : c = reprQuote x := by simpa using m
      rw [m2]; exact hq) c m
  · rw [List.mem_singleton.mp m]; exact hq
mutual
theorem pr_le : ∀ d : D, pr d = true → d.shown.length ≤ sp d
  | .none, _ => (by decide : (PyData.none).shown.length ≤ 4)
  | .bool true, _ => (by decide : (PyData.bool true).shown.length ≤ 5)
  | .bool false, _ => (by decide : (PyData.bool false).shown.length ≤ 5)
  | .int _, _ => Nat.le_refl _
  | .str x, h => StrLaws.reprText_len x fun c m => Nat.lt_trans (strOk_iff.mp (by simpa only [pr] using h) c m) (by decide)
  | .list ds, h => by
    have := pr_les ds (by simpa only [pr] using h)
    have h2 := listText_le (PyData.shownAll ds)
    show (listText (PyData.shownAll ds)).length ≤ spAll ds + 4
    omega
  | .tuple ds, h => by
    have := pr_les ds (by simpa only [pr] using h)
    have h2 := tupleText_le (PyData.shownAll ds)
    show (tupleText (PyData.shownAll ds)).length ≤ spAll ds + 4
    omega
  | .dict _, h => by simp [pr] at h
theorem pr_les : ∀ ds : List D, prAll ds = true → piled (PyData.shownAll ds) ≤ spAll ds
  | [], _ => Nat.le_refl _
  | d :: ds, h => by
    simp only [prAll, Bool.and_eq_true] at h
    have h1 := pr_le d h.1
    have h2 := pr_les ds h.2
    show piled (d.shown :: PyData.shownAll ds) ≤ sp d + 2 + spAll ds
    rw [piled_cons]
    omega
end
mutual
theorem lay_pr : ∀ d : D, pr d = true → d.canLay0 = true ∧ d.showable = true
  | .none, _ => ⟨rfl, rfl⟩
  | .bool _, _ => ⟨rfl, rfl⟩
  | .int _, h => by
    simp only [pr, Bool.and_eq_true] at h
    exact ⟨rfl, h.1⟩
  | .str x, h => ⟨by simpa only [pr, PyData.canLay0] using h, rfl⟩
  | .list ds, h => lay_prs ds (by simpa only [pr] using h)
  | .tuple ds, h => lay_prs ds (by simpa only [pr] using h)
  | .dict _, h => by simp [pr] at h
theorem lay_prs : ∀ ds : List D, prAll ds = true → PyData.canLayAll0 ds = true ∧ PyData.showableAll ds = true
  | [], _ => ⟨rfl, rfl⟩
  | d :: ds, h => by
    simp only [prAll, Bool.and_eq_true] at h
    obtain ⟨a, b⟩ := lay_pr d h.1
    obtain ⟨a2, b2⟩ := lay_prs ds h.2
    exact ⟨by simp [PyData.canLayAll0, a, a2], by simp [PyData.showableAll, b, b2]⟩
end
mutual
theorem ok_shown : ∀ d : D, pr d = true → PyData.strOk d.shown = true
  | .none, _ => (by decide +kernel : PyData.strOk (PyData.none).shown = true)
  | .bool true, _ => (by decide +kernel : PyData.strOk (PyData.bool true).shown = true)
  | .bool false, _ => (by decide +kernel : PyData.strOk (PyData.bool false).shown = true)
  | .int _, h => by
    simp only [pr, Bool.and_eq_true] at h
    exact h.2
  | .str x, h => ok_repr (by simpa only [pr] using h)
  | .list ds, h => strOk_list (ok_showns ds (by simpa only [pr] using h))
  | .tuple ds, h => strOk_tuple (ok_showns ds (by simpa only [pr] using h))
  | .dict _, h => by simp [pr] at h
theorem ok_showns : ∀ ds : List D, prAll ds = true → ∀ t ∈ PyData.shownAll ds, PyData.strOk t = true
  | [], _, t, m => by cases m
  | d :: ds, h, t, m => by
    simp only [prAll, Bool.and_eq_true] at h
    rcases List.mem_cons.mp (show t ∈ d.shown :: PyData.shownAll ds from m) with e | q
    · rw [e]; exact ok_shown d h.1
    · exact ok_showns ds h.2 t q
end
/-- printable, so deep and so long at most -/
structure Pt (d : D) (k n : Nat) : Prop where
  pr : pr d = true
  dp : d.depth ≤ k
  sz : sp d ≤ n
def ptB (d : D) (k n : Nat) : Bool := pr d && (decide (d.depth ≤ k) && decide (sp d ≤ n))
theorem ptB_ok {d : D} {k n : Nat} (h : ptB d k n = true) : Pt d k n := by
  unfold ptB at h
  simp only [Bool.and_eq_true, decide_eq_true_eq] at h
  exact ⟨h.1, h.2.1, h.2.2⟩
section
variable {d : D} {k n : Nat}
theorem Pt.sh (h : Pt d k n) : Sh k d := ⟨(lay_pr d h.pr).1, h.dp⟩
theorem Pt.repr (h : Pt d k n) (hk : k ≤ 64 := by omega) (hn : n ≤ 1000000 := by omega) : reprG [d] = .ok (.dat (.str d.shown)) := by
  show (if _ then _ else _) = _
  rw [if_pos ⟨h.sh.shaped hk, (lay_pr d h.pr).2, Nat.le_trans (pr_le d h.pr) (small6 (Nat.le_trans h.sz hn))⟩]
theorem Pt.same (h : Pt d k n) : eqG (.str d.shown) (.str d.shown) = .ok (.dat (.bool true)) := by
  have s : Sh 0 (.str d.shown) := ⟨by simpa only [PyData.canLay0] using ok_shown d h.pr, Nat.le_refl _⟩
  rw [eq_sh s s, eqv_str, decide_eq_true rfl]
theorem Pt.shown (h : Pt d k n) : Pt (.str d.shown) 0 (10 * n + 2) := ⟨by simpa only [VI.pr] using ok_shown d h.pr, Nat.le_refl _, by
  have := pr_le d h.pr
  have := h.sz
  show 10 * d.shown.length + 2 ≤ _
  omega⟩
end
end VI
namespace VI
open PySem PySem.Spec PyProof.Rows L2
theorem spl_all (s : Nat) : ∀ (n : Nat) (l : List Nat), l.length ≤ n → TL.spl [s] 0 [] l ≠ [] ∧ (∀ p ∈ TL.spl [s] 0 [] l, s ∉ p) ∧ TL.joinL [s] (TL.spl [s] 0 [] l) = l ∧ ((TL.spl [s] 0 [] l).map (fun p => p.length + 1)).sum = l.length + 1 := by
  intro n
  induction n with
  | zero =>
    intro l h
    have e : l = [] := List.length_eq_zero_iff.mp (Nat.le_zero.mp h)
    subst e
    have := TL.spl_last1 (s := s) (S := []) (p := []) (acc := []) (by simp)
    rw [this]
    exact ⟨by simp, by simp, rfl, rfl⟩
  | succ n ih =>
    intro l h
    by_cases m : s ∈ l
    · obtain ⟨p, r, e, hp⟩ := List.eq_append_cons_of_mem m
      have q := TL.spl_part1 (s := s) (S := []) (p := p) (rest := r) (acc := []) hp
      have el : l = p ++ ([s] ++ r) := by rw [e]; rfl
      rw [el, q, List.nil_append]
      have hr : r.length ≤ n := by
        have := congrArg List.length e
        rw [List.length_append, List.length_cons] at this
        omega
      obtain ⟨i1, i2, i3, i4⟩ := ih r hr
      refine ⟨by simp, fun z mz => ?_, ?_, ?_⟩
      · rcases List.mem_cons.mp mz with rfl | mz
        · exact hp
        · exact i2 z mz
      · cases hs : TL.spl [s] 0 [] r with
        | nil => exact absurd hs i1
        | cons a b =>
          show p ++ ([s] ++ TL.joinL [s] (a :: b)) = _
          rw [← hs, i3]
      · rw [List.map_cons, List.sum_cons, i4, List.length_append, List.length_append]
        show p.length + 1 + (r.length + 1) = p.length + (1 + r.length) + 1
        omega
    · rw [TL.spl_last1 (S := []) m, List.nil_append]
      exact ⟨by simp, fun z mz => by rw [List.mem_singleton.mp mz]; exact m, rfl, by simp⟩
/-- a text of one plain sign -/
structure One (y : Str) (s : Nat) : Prop where
  tl : TL.tl y = [s]
  pl : y.cps.all (· < 256) = true
section
variable {y x : Str} {s : Nat}
theorem One.len (h : One y s) : y.length = 1 := by rw [TL.len_tl, h.tl]; rfl
theorem One.spl (h : One y s) (x : Str) : (Txt.split x y).map TL.tl = TL.spl [s] 0 [] (TL.tl x) := by
  have := TL.split_spl x y (by rw [h.tl]; simp) (TL.kind_ok h.pl)
  rw [h.tl] at this
  exact this
theorem One.ne (h : One y s) (x : Str) : Txt.split x y ≠ [] := fun e => by
  have := (spl_all s _ (TL.tl x) (Nat.le_refl _)).1
  rw [← h.spl x, e] at this
  exact this rfl
theorem One.free (h : One y s) (x : Str) : ∀ p ∈ Txt.split x y, s ∉ TL.tl p := fun p m => by
  have := (spl_all s _ (TL.tl x) (Nat.le_refl _)).2.1
  rw [← h.spl x] at this
  exact this _ (List.mem_map_of_mem m)
theorem One.join (h : One y s) (x : Str) : Txt.join y (Txt.split x y) = x := by
  have := (spl_all s _ (TL.tl x) (Nat.le_refl _)).2.2.1
  rw [← h.spl x, ← h.tl, ← TL.tl_join, ← TL.join_eq] at this
  exact TL.ext_tl this
theorem One.sum (h : One y s) (x : Str) : ((Txt.split x y).map fun p => p.length + 1).sum = x.length + 1 := by
  have := (spl_all s _ (TL.tl x) (Nat.le_refl _)).2.2.2
  rw [← h.spl x, List.map_map, ← TL.len_tl] at this
  rw [← this]
  congr 1
theorem joinL_mem {S : List Nat} : ∀ {ps : List (List Nat)} {c : Nat}, (∃ p ∈ ps, c ∈ p) → c ∈ TL.joinL S ps
  | [p], c, ⟨q, m, h⟩ => by rw [List.mem_singleton.mp m] at h; exact h
  | p :: q :: r, c, ⟨z, m, h⟩ => by
    show c ∈ p ++ (S ++ TL.joinL S (q :: r))
    rcases List.mem_cons.mp m with rfl | m
    · exact List.mem_append_left _ h
    · exact List.mem_append_right _ (List.mem_append_right _ (joinL_mem ⟨z, m, h⟩))
theorem One.mem (h : One y s) {x p : Str} (m : p ∈ Txt.split x y) {c : Nat} (hc : c ∈ TL.tl p) : c ∈ TL.tl x := by
  have e := h.join x
  rw [TL.join_eq] at e
  rw [← e, TL.tl_join]
  exact joinL_mem ⟨_, List.mem_map_of_mem m, hc⟩
theorem One.back (h : One y s) {ps : List Str} (hne : ps ≠ []) (hp : ∀ p ∈ ps, s ∉ TL.tl p) : Txt.split (Txt.join y ps) y = ps := TL.split_join h.tl h.pl hne hp
/-- one part alone: the sign is not there -/
theorem One.lone (h : One y s) {x k : Str} (e : Txt.split x y = [k]) : k = x ∧ s ∉ TL.tl x := by
  have j := h.join x
  have f := h.free x k (by rw [e]; simp)
  rw [e, TL.join_eq] at j
  have : k = x := j
  rw [this] at f
  exact ⟨this, f⟩
theorem One.has (h : One y s) {x k f : Str} {r : List Str} (e : Txt.split x y = k :: f :: r) : TL.tl x = TL.tl k ++ (s :: TL.joinL [s] ((f :: r).map TL.tl)) := by
  have j := h.join x
  rw [e, TL.join_eq] at j
  rw [← j, TL.tl_join, h.tl]
  rfl
theorem One.in_ (h : One y s) : ∀ {k : Str} {r : List Str}, Txt.split x y = k :: r → (decide (s ∈ TL.tl x)) = !r.isEmpty := fun {k r} e => by
  cases r with
  | nil =>
    rw [decide_eq_false (h.lone e).2]
    rfl
  | cons f r =>
    rw [decide_eq_true]
    · rfl
    · rw [h.has e]
      simp
end
theorem one_colon : One ":" 58 := ⟨by decide +kernel, by decide +kernel⟩
theorem one_plus : One "+" 43 := ⟨by decide +kernel, by decide +kernel⟩
theorem one_blank : One " " 32 := ⟨by decide +kernel, by decide +kernel⟩
theorem one_line : One "\n" 10 := ⟨by decide +kernel, by decide +kernel⟩
/-- what stands behind the first sign -/
theorem cut_after {x k : Str} {s : Nat} {r : List Nat} (e : TL.tl x = TL.tl k ++ (s :: r)) : cutS x (some ((k.length : Int) + 1)) none = ⟨r.toArray⟩ := by
  refine TL.ext_tl ?_
  unfold cutS
  show (((TL.tl x).drop (HT.sIx x.length 0 (some ((k.length : Int) + 1)))).take (HT.sIx x.length x.length none - HT.sIx x.length 0 (some ((k.length : Int) + 1)))).toArray.toList = r
  have hl : x.length = k.length + (r.length + 1) := by
    rw [TL.len_tl, e, List.length_append, List.length_cons, TL.len_tl k]
  have e1 : ((k.length : Int) + 1) = ((k.length + 1 : Nat) : Int) := by omega
  rw [e1, HT.sIx_nat, HT.sIx_none, Nat.min_eq_left (by omega), e]
  have h2 : k.length + 1 = (TL.tl k).length + 1 := by rw [TL.len_tl k]
  have : (TL.tl k ++ s :: r).drop (k.length + 1) = r := by
    rw [h2, ← List.drop_drop, List.drop_left]
    rfl
  rw [this, List.take_of_length_le (by omega)]
end VI
set_option maxHeartbeats 4000000
namespace V23
open PySem PySem.Spec PyProof.Rows L2 VI
def hdlBody (st : Stmt) : List Stmt := match defBody st with
  | [.Try _ [.ExceptHandler _ _ b _] _ _ _] => b
  | _ => []
def topS (i : Nat) : Stmt := PySem.Challenge.pw_ownfears_k23_whole_kernels.main.body.getD i (.Pass ⟨0, 0, 0, 0⟩)
abbrev s_ascend : Stmt := topS 1
abbrev N_ascend : List Str := ["things", "one", "after"]
theorem S_ascend : FnScope N_ascend ["things"] (defScope s_ascend) := ⟨rfl, rfl, rfl, by decide +kernel, rfl, by decide +kernel, by decide +kernel⟩
abbrev s_includes : Stmt := topS 4
abbrev N_includes : List Str := ["lot", "part", "name"]
theorem S_includes : FnScope N_includes ["lot", "part"] (defScope s_includes) := ⟨rfl, rfl, rfl, by decide +kernel, rfl, by decide +kernel, by decide +kernel⟩
abbrev s_common : Stmt := topS 5
abbrev N_common : List Str := ["lot", "other", "name"]
theorem S_common : FnScope N_common ["lot", "other"] (defScope s_common) := ⟨rfl, rfl, rfl, by decide +kernel, rfl, by decide +kernel, by decide +kernel⟩
abbrev s_without : Stmt := topS 6
abbrev N_without : List Str := ["lot", "part", "name"]
theorem S_without : FnScope N_without ["lot", "part"] (defScope s_without) := ⟨rfl, rfl, rfl, by decide +kernel, rfl, by decide +kernel, by decide +kernel⟩
abbrev s_family_of : Stmt := topS 14
abbrev N_family_of : List Str := ["net", "house", "houses", "fears"]
theorem S_family_of : FnScope N_family_of ["net", "house"] (defScope s_family_of) := ⟨rfl, rfl, rfl, by decide +kernel, rfl, by decide +kernel, by decide +kernel⟩
abbrev s_need : Stmt := topS 20
abbrev N_need : List Str := ["usable", "word"]
theorem S_need : FnScope N_need ["usable", "word"] (defScope s_need) := ⟨rfl, rfl, rfl, by decide +kernel, rfl, by decide +kernel, by decide +kernel⟩
abbrev s_is_name : Stmt := topS 22
abbrev N_is_name : List Str := ["thing", "letter"]
theorem S_is_name : FnScope N_is_name ["thing"] (defScope s_is_name) := ⟨rfl, rfl, rfl, by decide +kernel, rfl, by decide +kernel, by decide +kernel⟩
abbrev s_is_tuple_of : Stmt := topS 25
abbrev N_is_tuple_of : List Str := ["thing", "size"]
theorem S_is_tuple_of : FnScope N_is_tuple_of ["thing", "size"] (defScope s_is_tuple_of) := ⟨rfl, rfl, rfl, by decide +kernel, rfl, by decide +kernel, by decide +kernel⟩
abbrev s_w_feed : Stmt := topS 34
abbrev N_w_feed : List Str := ["_law_script", "_law_one"]
theorem S_w_feed : FnScope N_w_feed ["_law_script"] (defScope s_w_feed) := ⟨rfl, rfl, rfl, by decide +kernel, rfl, by decide +kernel, by decide +kernel⟩
abbrev s_w_draw : Stmt := topS 35
abbrev N_w_draw : List Str := ["_law_feed_here", "_law_most", "_law_cell", "_law_mixed", "_law_digit", "_law_cells", "_law_at"]
theorem S_w_draw : FnScope N_w_draw ["_law_feed_here", "_law_most"] (defScope s_w_draw) := ⟨rfl, rfl, rfl, by decide +kernel, rfl, by decide +kernel, by decide +kernel⟩
abbrev s_w_set : Stmt := topS 38
abbrev N_w_set : List Str := ["_law_names"]
theorem S_w_set : FnScope N_w_set ["_law_names"] (defScope s_w_set) := ⟨rfl, rfl, rfl, by decide +kernel, rfl, by decide +kernel, by decide +kernel⟩
abbrev s_w_lies : Stmt := topS 39
abbrev N_w_lies : List Str := ["_law_group", "_law_other_in", "_law_one"]
theorem S_w_lies : FnScope N_w_lies ["_law_group", "_law_other_in"] (defScope s_w_lies) := ⟨rfl, rfl, rfl, by decide +kernel, rfl, by decide +kernel, by decide +kernel⟩
abbrev s_w_others : Stmt := topS 45
abbrev N_w_others : List Str := ["_law_houses", "_law_group", "_law_one"]
theorem S_w_others : FnScope N_w_others ["_law_houses", "_law_group"] (defScope s_w_others) := ⟨rfl, rfl, rfl, by decide +kernel, rfl, by decide +kernel, by decide +kernel⟩
abbrev s_w_common : Stmt := topS 47
abbrev N_w_common : List Str := ["_law_first", "_law_second", "_law_one"]
theorem S_w_common : FnScope N_w_common ["_law_first", "_law_second"] (defScope s_w_common) := ⟨rfl, rfl, rfl, by decide +kernel, rfl, by decide +kernel, by decide +kernel⟩
abbrev s_w_subsets : Stmt := topS 48
abbrev N_w_subsets : List Str := ["_law_names", "_law_found", "_law_one", "_law_rows", "_law_size", "_law_some"]
theorem S_w_subsets : FnScope N_w_subsets ["_law_names"] (defScope s_w_subsets) := ⟨rfl, rfl, rfl, by decide +kernel, rfl, by decide +kernel, by decide +kernel⟩
abbrev s_is_lot_of : Stmt := topS 2
abbrev N_is_lot_of : List Str := ["houses", "thing", "name"]
theorem S_is_lot_of : FnScope N_is_lot_of ["houses", "thing"] (defScope s_is_lot_of) := ⟨rfl, rfl, rfl, by decide +kernel, rfl, by decide +kernel, by decide +kernel⟩
abbrev s_greatest : Stmt := topS 7
abbrev N_greatest : List Str := ["lots", "once", "lot", "other"]
theorem S_greatest : FnScope N_greatest ["lots"] (defScope s_greatest) := ⟨rfl, rfl, rfl, by decide +kernel, rfl, by decide +kernel, by decide +kernel⟩
abbrev s_least : Stmt := topS 8
abbrev N_least : List Str := ["lots", "once", "lot", "other"]
theorem S_least : FnScope N_least ["lots"] (defScope s_least) := ⟨rfl, rfl, rfl, by decide +kernel, rfl, by decide +kernel, by decide +kernel⟩
abbrev s_with_one_of : Stmt := topS 10
abbrev N_with_one_of : List Str := ["kernel", "quorum", "house"]
theorem S_with_one_of : FnScope N_with_one_of ["kernel", "quorum"] (defScope s_with_one_of) := ⟨rfl, rfl, rfl, by decide +kernel, rfl, by decide +kernel, by decide +kernel⟩
abbrev s_meets_each : Stmt := topS 12
abbrev N_meets_each : List Str := ["lot", "family", "quorum"]
theorem S_meets_each : FnScope N_meets_each ["lot", "family"] (defScope s_meets_each) := ⟨rfl, rfl, rfl, by decide +kernel, rfl, by decide +kernel, by decide +kernel⟩
abbrev s_is_name_set : Stmt := topS 23
abbrev N_is_name_set : List Str := ["thing", "name"]
theorem S_is_name_set : FnScope N_is_name_set ["thing"] (defScope s_is_name_set) := ⟨rfl, rfl, rfl, by decide +kernel, rfl, by decide +kernel, by decide +kernel⟩
abbrev s_w_pick : Stmt := topS 36
abbrev N_w_pick : List Str := ["_law_feed_here", "_law_some"]
theorem S_w_pick : FnScope N_w_pick ["_law_feed_here", "_law_some"] (defScope s_w_pick) := ⟨rfl, rfl, rfl, by decide +kernel, rfl, by decide +kernel, by decide +kernel⟩
abbrev s_w_greatest : Stmt := topS 40
abbrev N_w_greatest : List Str := ["_law_groups", "_law_some", "_law_one", "_law_far"]
theorem S_w_greatest : FnScope N_w_greatest ["_law_groups"] (defScope s_w_greatest) := ⟨rfl, rfl, rfl, by decide +kernel, rfl, by decide +kernel, by decide +kernel⟩
abbrev s_w_least : Stmt := topS 41
abbrev N_w_least : List Str := ["_law_groups", "_law_some", "_law_one", "_law_far"]
theorem S_w_least : FnScope N_w_least ["_law_groups"] (defScope s_w_least) := ⟨rfl, rfl, rfl, by decide +kernel, rfl, by decide +kernel, by decide +kernel⟩
abbrev s_w_part : Stmt := topS 42
abbrev N_w_part : List Str := ["_law_feed_here", "_law_names", "_law_share", "_law_one"]
theorem S_w_part : FnScope N_w_part ["_law_feed_here", "_law_names", "_law_share"] (defScope s_w_part) := ⟨rfl, rfl, rfl, by decide +kernel, rfl, by decide +kernel, by decide +kernel⟩
abbrev s_w_plain : Stmt := topS 44
abbrev N_w_plain : List Str := ["_law_web", "_law_found", "_law_family", "_law_one", "_law_group"]
theorem S_w_plain : FnScope N_w_plain ["_law_web"] (defScope s_w_plain) := ⟨rfl, rfl, rfl, by decide +kernel, rfl, by decide +kernel, by decide +kernel⟩
abbrev s_w_kernels : Stmt := topS 49
abbrev N_w_kernels : List Str := ["_law_houses", "_law_family", "_law_found", "_law_some", "_law_one", "_law_pack"]
theorem S_w_kernels : FnScope N_w_kernels ["_law_houses", "_law_family"] (defScope s_w_kernels) := ⟨rfl, rfl, rfl, by decide +kernel, rfl, by decide +kernel, by decide +kernel⟩
abbrev s_is_family_of : Stmt := topS 3
abbrev N_is_family_of : List Str := ["houses", "thing", "lot"]
theorem S_is_family_of : FnScope N_is_family_of ["houses", "thing"] (defScope s_is_family_of) := ⟨rfl, rfl, rfl, by decide +kernel, rfl, by decide +kernel, by decide +kernel⟩
abbrev s_least_kernels : Stmt := topS 11
abbrev N_least_kernels : List Str := ["family", "kernels", "quorum", "kernel", "lot"]
theorem S_least_kernels : FnScope N_least_kernels ["family"] (defScope s_least_kernels) := ⟨rfl, rfl, rfl, by decide +kernel, rfl, by decide +kernel, by decide +kernel⟩
abbrev s_are_houses : Stmt := topS 24
abbrev N_are_houses : List Str := ["thing"]
theorem S_are_houses : FnScope N_are_houses ["thing"] (defScope s_are_houses) := ⟨rfl, rfl, rfl, by decide +kernel, rfl, by decide +kernel, by decide +kernel⟩
abbrev s_w_pool : Stmt := topS 37
abbrev N_w_pool : List Str := ["_law_feed_here", "_law_some"]
theorem S_w_pool : FnScope N_w_pool ["_law_feed_here"] (defScope s_w_pool) := ⟨rfl, rfl, rfl, by decide +kernel, rfl, by decide +kernel, by decide +kernel⟩
abbrev s_w_packs : Stmt := topS 46
abbrev N_w_packs : List Str := ["_law_feed_here", "_law_web", "_law_k", "_law_found", "_law_plain_here", "_law_way", "_law_some", "_law_lap", "_law_one"]
theorem S_w_packs : FnScope N_w_packs ["_law_feed_here", "_law_web"] (defScope s_w_packs) := ⟨rfl, rfl, rfl, by decide +kernel, rfl, by decide +kernel, by decide +kernel⟩
abbrev s_is_net : Stmt := topS 26
abbrev N_is_net : List Str := ["thing", "houses", "fears", "family"]
theorem S_is_net : FnScope N_is_net ["thing"] (defScope s_is_net) := ⟨rfl, rfl, rfl, by decide +kernel, rfl, by decide +kernel, by decide +kernel⟩
abbrev s_are_quorums_of : Stmt := topS 28
abbrev N_are_quorums_of : List Str := ["houses", "thing", "family"]
theorem S_are_quorums_of : FnScope N_are_quorums_of ["houses", "thing"] (defScope s_are_quorums_of) := ⟨rfl, rfl, rfl, by decide +kernel, rfl, by decide +kernel, by decide +kernel⟩
abbrev s_w_net : Stmt := topS 43
abbrev N_w_net : List Str := ["_law_feed_here", "_law_most", "_law_houses", "_law_home", "_law_way", "_law_fears", "_law_rest", "_law_groups", "_law_one", "_law_lap"]
theorem S_w_net : FnScope N_w_net ["_law_feed_here", "_law_most"] (defScope s_w_net) := ⟨rfl, rfl, rfl, by decide +kernel, rfl, by decide +kernel, by decide +kernel⟩
abbrev s_need_quorums : Stmt := topS 29
abbrev N_need_quorums : List Str := ["net", "quorums"]
theorem S_need_quorums : FnScope N_need_quorums ["net", "quorums"] (defScope s_need_quorums) := ⟨rfl, rfl, rfl, by decide +kernel, rfl, by decide +kernel, by decide +kernel⟩
abbrev s_kernels_of : Stmt := topS 31
abbrev N_kernels_of : List Str := ["net", "quorums", "house"]
theorem S_kernels_of : FnScope N_kernels_of ["net", "quorums", "house"] (defScope s_kernels_of) := ⟨rfl, rfl, rfl, by decide +kernel, rfl, by decide +kernel, by decide +kernel⟩
abbrev s_is_kernel : Stmt := topS 32
abbrev N_is_kernel : List Str := ["net", "quorums", "house", "lot", "family", "name"]
theorem S_is_kernel : FnScope N_is_kernel ["net", "quorums", "house", "lot"] (defScope s_is_kernel) := ⟨rfl, rfl, rfl, by decide +kernel, rfl, by decide +kernel, by decide +kernel⟩
abbrev s_w_is_even : Stmt := topS 50
abbrev N_w_is_even : List Str := ["_law_web", "_law_packs_here", "_law_k", "_law_due", "_law_told", "_law_some", "_law_meets", "_law_holds", "_law_pack", "_law_one"]
theorem S_w_is_even : FnScope N_w_is_even ["_law_web", "_law_packs_here", "_law_k"] (defScope s_w_is_even) := ⟨rfl, rfl, rfl, by decide +kernel, rfl, by decide +kernel, by decide +kernel⟩
abbrev s_law : Stmt := topS 51
abbrev N_law : List Str := ["_law_script", "_law_feed_here", "_law_lap", "_law_web", "_law_packs_here", "_law_was", "_law_late", "_law_k", "_law_family"]
theorem S_law : FnScope N_law ["_law_script"] (defScope s_law) := ⟨rfl, rfl, rfl, by decide +kernel, rfl, by decide +kernel, by decide +kernel⟩
structure TopD where
  a_ascend : Addr
  d_ascend : FuncData
  a_includes : Addr
  d_includes : FuncData
  a_common : Addr
  d_common : FuncData
  a_without : Addr
  d_without : FuncData
  a_family_of : Addr
  d_family_of : FuncData
  a_need : Addr
  d_need : FuncData
  a_is_name : Addr
  d_is_name : FuncData
  a_is_tuple_of : Addr
  d_is_tuple_of : FuncData
  a_w_feed : Addr
  d_w_feed : FuncData
  a_w_draw : Addr
  d_w_draw : FuncData
  a_w_set : Addr
  d_w_set : FuncData
  a_w_lies : Addr
  d_w_lies : FuncData
  a_w_others : Addr
  d_w_others : FuncData
  a_w_common : Addr
  d_w_common : FuncData
  a_w_subsets : Addr
  d_w_subsets : FuncData
  a_is_lot_of : Addr
  d_is_lot_of : FuncData
  a_greatest : Addr
  d_greatest : FuncData
  a_least : Addr
  d_least : FuncData
  a_with_one_of : Addr
  d_with_one_of : FuncData
  a_meets_each : Addr
  d_meets_each : FuncData
  a_is_name_set : Addr
  d_is_name_set : FuncData
  a_w_pick : Addr
  d_w_pick : FuncData
  a_w_greatest : Addr
  d_w_greatest : FuncData
  a_w_least : Addr
  d_w_least : FuncData
  a_w_part : Addr
  d_w_part : FuncData
  a_w_plain : Addr
  d_w_plain : FuncData
  a_w_kernels : Addr
  d_w_kernels : FuncData
  a_is_family_of : Addr
  d_is_family_of : FuncData
  a_least_kernels : Addr
  d_least_kernels : FuncData
  a_are_houses : Addr
  d_are_houses : FuncData
  a_w_pool : Addr
  d_w_pool : FuncData
  a_w_packs : Addr
  d_w_packs : FuncData
  a_is_net : Addr
  d_is_net : FuncData
  a_are_quorums_of : Addr
  d_are_quorums_of : FuncData
  a_w_net : Addr
  d_w_net : FuncData
  a_need_quorums : Addr
  d_need_quorums : FuncData
  a_kernels_of : Addr
  d_kernels_of : FuncData
  a_is_kernel : Addr
  d_is_kernel : FuncData
  a_w_is_even : Addr
  d_w_is_even : FuncData
  a_law : Addr
  d_law : FuncData
def TopD.T (t : TopD) : List (Addr × Str) := []
structure Top (K : PySem.W.Frag) (mg : Str → Option Value) (t : TopD) : Prop where
  F_ascend : Fun K "ascend" "ascend" s_ascend t.a_ascend t.d_ascend
  g_ascend : mg "ascend" = some (.ref t.a_ascend)
  F_includes : Fun K "includes" "includes" s_includes t.a_includes t.d_includes
  g_includes : mg "includes" = some (.ref t.a_includes)
  F_common : Fun K "common" "common" s_common t.a_common t.d_common
  g_common : mg "common" = some (.ref t.a_common)
  F_without : Fun K "without" "without" s_without t.a_without t.d_without
  g_without : mg "without" = some (.ref t.a_without)
  F_family_of : Fun K "family_of" "family_of" s_family_of t.a_family_of t.d_family_of
  g_family_of : mg "family_of" = some (.ref t.a_family_of)
  F_need : Fun K "need" "need" s_need t.a_need t.d_need
  g_need : mg "need" = some (.ref t.a_need)
  F_is_name : Fun K "is_name" "is_name" s_is_name t.a_is_name t.d_is_name
  g_is_name : mg "is_name" = some (.ref t.a_is_name)
  F_is_tuple_of : Fun K "is_tuple_of" "is_tuple_of" s_is_tuple_of t.a_is_tuple_of t.d_is_tuple_of
  g_is_tuple_of : mg "is_tuple_of" = some (.ref t.a_is_tuple_of)
  F_w_feed : Fun K "_law_feed" "_law_feed" s_w_feed t.a_w_feed t.d_w_feed
  g_w_feed : mg "_law_feed" = some (.ref t.a_w_feed)
  F_w_draw : Fun K "_law_draw" "_law_draw" s_w_draw t.a_w_draw t.d_w_draw
  g_w_draw : mg "_law_draw" = some (.ref t.a_w_draw)
  F_w_set : Fun K "_law_set" "_law_set" s_w_set t.a_w_set t.d_w_set
  g_w_set : mg "_law_set" = some (.ref t.a_w_set)
  F_w_lies : Fun K "_law_lies" "_law_lies" s_w_lies t.a_w_lies t.d_w_lies
  g_w_lies : mg "_law_lies" = some (.ref t.a_w_lies)
  F_w_others : Fun K "_law_others" "_law_others" s_w_others t.a_w_others t.d_w_others
  g_w_others : mg "_law_others" = some (.ref t.a_w_others)
  F_w_common : Fun K "_law_common" "_law_common" s_w_common t.a_w_common t.d_w_common
  g_w_common : mg "_law_common" = some (.ref t.a_w_common)
  F_w_subsets : Fun K "_law_subsets" "_law_subsets" s_w_subsets t.a_w_subsets t.d_w_subsets
  g_w_subsets : mg "_law_subsets" = some (.ref t.a_w_subsets)
  F_is_lot_of : Fun K "is_lot_of" "is_lot_of" s_is_lot_of t.a_is_lot_of t.d_is_lot_of
  g_is_lot_of : mg "is_lot_of" = some (.ref t.a_is_lot_of)
  F_greatest : Fun K "greatest" "greatest" s_greatest t.a_greatest t.d_greatest
  g_greatest : mg "greatest" = some (.ref t.a_greatest)
  F_least : Fun K "least" "least" s_least t.a_least t.d_least
  g_least : mg "least" = some (.ref t.a_least)
  F_with_one_of : Fun K "with_one_of" "with_one_of" s_with_one_of t.a_with_one_of t.d_with_one_of
  g_with_one_of : mg "with_one_of" = some (.ref t.a_with_one_of)
  F_meets_each : Fun K "meets_each" "meets_each" s_meets_each t.a_meets_each t.d_meets_each
  g_meets_each : mg "meets_each" = some (.ref t.a_meets_each)
  F_is_name_set : Fun K "is_name_set" "is_name_set" s_is_name_set t.a_is_name_set t.d_is_name_set
  g_is_name_set : mg "is_name_set" = some (.ref t.a_is_name_set)
  F_w_pick : Fun K "_law_pick" "_law_pick" s_w_pick t.a_w_pick t.d_w_pick
  g_w_pick : mg "_law_pick" = some (.ref t.a_w_pick)
  F_w_greatest : Fun K "_law_greatest" "_law_greatest" s_w_greatest t.a_w_greatest t.d_w_greatest
  g_w_greatest : mg "_law_greatest" = some (.ref t.a_w_greatest)
  F_w_least : Fun K "_law_least" "_law_least" s_w_least t.a_w_least t.d_w_least
  g_w_least : mg "_law_least" = some (.ref t.a_w_least)
  F_w_part : Fun K "_law_part" "_law_part" s_w_part t.a_w_part t.d_w_part
  g_w_part : mg "_law_part" = some (.ref t.a_w_part)
  F_w_plain : Fun K "_law_plain" "_law_plain" s_w_plain t.a_w_plain t.d_w_plain
  g_w_plain : mg "_law_plain" = some (.ref t.a_w_plain)
  F_w_kernels : Fun K "_law_kernels" "_law_kernels" s_w_kernels t.a_w_kernels t.d_w_kernels
  g_w_kernels : mg "_law_kernels" = some (.ref t.a_w_kernels)
  F_is_family_of : Fun K "is_family_of" "is_family_of" s_is_family_of t.a_is_family_of t.d_is_family_of
  g_is_family_of : mg "is_family_of" = some (.ref t.a_is_family_of)
  F_least_kernels : Fun K "least_kernels" "least_kernels" s_least_kernels t.a_least_kernels t.d_least_kernels
  g_least_kernels : mg "least_kernels" = some (.ref t.a_least_kernels)
  F_are_houses : Fun K "are_houses" "are_houses" s_are_houses t.a_are_houses t.d_are_houses
  g_are_houses : mg "are_houses" = some (.ref t.a_are_houses)
  F_w_pool : Fun K "_law_pool" "_law_pool" s_w_pool t.a_w_pool t.d_w_pool
  g_w_pool : mg "_law_pool" = some (.ref t.a_w_pool)
  F_w_packs : Fun K "_law_packs" "_law_packs" s_w_packs t.a_w_packs t.d_w_packs
  g_w_packs : mg "_law_packs" = some (.ref t.a_w_packs)
  F_is_net : Fun K "is_net" "is_net" s_is_net t.a_is_net t.d_is_net
  g_is_net : mg "is_net" = some (.ref t.a_is_net)
  F_are_quorums_of : Fun K "are_quorums_of" "are_quorums_of" s_are_quorums_of t.a_are_quorums_of t.d_are_quorums_of
  g_are_quorums_of : mg "are_quorums_of" = some (.ref t.a_are_quorums_of)
  F_w_net : Fun K "_law_net" "_law_net" s_w_net t.a_w_net t.d_w_net
  g_w_net : mg "_law_net" = some (.ref t.a_w_net)
  F_need_quorums : Fun K "need_quorums" "need_quorums" s_need_quorums t.a_need_quorums t.d_need_quorums
  g_need_quorums : mg "need_quorums" = some (.ref t.a_need_quorums)
  F_kernels_of : Fun K "kernels_of" "kernels_of" s_kernels_of t.a_kernels_of t.d_kernels_of
  g_kernels_of : mg "kernels_of" = some (.ref t.a_kernels_of)
  F_is_kernel : Fun K "is_kernel" "is_kernel" s_is_kernel t.a_is_kernel t.d_is_kernel
  g_is_kernel : mg "is_kernel" = some (.ref t.a_is_kernel)
  F_w_is_even : Fun K "_law_is_even" "_law_is_even" s_w_is_even t.a_w_is_even t.d_w_is_even
  g_w_is_even : mg "_law_is_even" = some (.ref t.a_w_is_even)
  F_law : Fun K "law" "law" s_law t.a_law t.d_law
  g_law : mg "law" = some (.ref t.a_law)
  z_all : mg "all" = none
  z_any : mg "any" = none
  z_int : mg "int" = none
  z_isinstance : mg "isinstance" = none
  z_len : mg "len" = none
  z_list : mg "list" = none
  z_range : mg "range" = none
  z_repr : mg "repr" = none
  z_set : mg "set" = none
  z_sorted : mg "sorted" = none
  z_str : mg "str" = none
  z_tuple : mg "tuple" = none
  z_zip : mg "zip" = none
structure Bas (base : Heap) (mg : Str → Option Value) (t : TopD) : Prop where
  ok : True
section
variable {P : Program} {w : World} {K : PySem.W.Frag} {mg : Str → Option Value} {base : Heap} {t : TopD}
theorem bn_ascend (T : Top K mg t) : Binds K t.d_ascend ["things"] [] := T.F_ascend.binds (ps := ["things"]) fun _ _ _ _ _ _ us hl => match us, hl with | [_], _ => rfl
theorem bn_includes (T : Top K mg t) : Binds K t.d_includes ["lot", "part"] [] := T.F_includes.binds (ps := ["lot", "part"]) fun _ _ _ _ _ _ us hl => match us, hl with | [_, _], _ => rfl
theorem bn_common (T : Top K mg t) : Binds K t.d_common ["lot", "other"] [] := T.F_common.binds (ps := ["lot", "other"]) fun _ _ _ _ _ _ us hl => match us, hl with | [_, _], _ => rfl
theorem bn_without (T : Top K mg t) : Binds K t.d_without ["lot", "part"] [] := T.F_without.binds (ps := ["lot", "part"]) fun _ _ _ _ _ _ us hl => match us, hl with | [_, _], _ => rfl
theorem bn_family_of (T : Top K mg t) : Binds K t.d_family_of ["net", "house"] [] := T.F_family_of.binds (ps := ["net", "house"]) fun _ _ _ _ _ _ us hl => match us, hl with | [_, _], _ => rfl
theorem bn_need (T : Top K mg t) : Binds K t.d_need ["usable", "word"] [] := T.F_need.binds (ps := ["usable", "word"]) fun _ _ _ _ _ _ us hl => match us, hl with | [_, _], _ => rfl
theorem bn_is_name (T : Top K mg t) : Binds K t.d_is_name ["thing"] [] := T.F_is_name.binds (ps := ["thing"]) fun _ _ _ _ _ _ us hl => match us, hl with | [_], _ => rfl
theorem bn_is_tuple_of (T : Top K mg t) : Binds K t.d_is_tuple_of ["thing", "size"] [] := T.F_is_tuple_of.binds (ps := ["thing", "size"]) fun _ _ _ _ _ _ us hl => match us, hl with | [_, _], _ => rfl
theorem bn_w_feed (T : Top K mg t) : Binds K t.d_w_feed ["_law_script"] [] := T.F_w_feed.binds (ps := ["_law_script"]) fun _ _ _ _ _ _ us hl => match us, hl with | [_], _ => rfl
theorem bn_w_draw (T : Top K mg t) : Binds K t.d_w_draw ["_law_feed_here", "_law_most"] [] := T.F_w_draw.binds (ps := ["_law_feed_here", "_law_most"]) fun _ _ _ _ _ _ us hl => match us, hl with | [_, _], _ => rfl
theorem bn_w_set (T : Top K mg t) : Binds K t.d_w_set ["_law_names"] [] := T.F_w_set.binds (ps := ["_law_names"]) fun _ _ _ _ _ _ us hl => match us, hl with | [_], _ => rfl
theorem bn_w_lies (T : Top K mg t) : Binds K t.d_w_lies ["_law_group", "_law_other_in"] [] := T.F_w_lies.binds (ps := ["_law_group", "_law_other_in"]) fun _ _ _ _ _ _ us hl => match us, hl with | [_, _], _ => rfl
theorem bn_w_others (T : Top K mg t) : Binds K t.d_w_others ["_law_houses", "_law_group"] [] := T.F_w_others.binds (ps := ["_law_houses", "_law_group"]) fun _ _ _ _ _ _ us hl => match us, hl with | [_, _], _ => rfl
theorem bn_w_common (T : Top K mg t) : Binds K t.d_w_common ["_law_first", "_law_second"] [] := T.F_w_common.binds (ps := ["_law_first", "_law_second"]) fun _ _ _ _ _ _ us hl => match us, hl with | [_, _], _ => rfl
theorem bn_w_subsets (T : Top K mg t) : Binds K t.d_w_subsets ["_law_names"] [] := T.F_w_subsets.binds (ps := ["_law_names"]) fun _ _ _ _ _ _ us hl => match us, hl with | [_], _ => rfl
theorem bn_is_lot_of (T : Top K mg t) : Binds K t.d_is_lot_of ["houses", "thing"] [] := T.F_is_lot_of.binds (ps := ["houses", "thing"]) fun _ _ _ _ _ _ us hl => match us, hl with | [_, _], _ => rfl
theorem bn_greatest (T : Top K mg t) : Binds K t.d_greatest ["lots"] [] := T.F_greatest.binds (ps := ["lots"]) fun _ _ _ _ _ _ us hl => match us, hl with | [_], _ => rfl
theorem bn_least (T : Top K mg t) : Binds K t.d_least ["lots"] [] := T.F_least.binds (ps := ["lots"]) fun _ _ _ _ _ _ us hl => match us, hl with | [_], _ => rfl
theorem bn_with_one_of (T : Top K mg t) : Binds K t.d_with_one_of ["kernel", "quorum"] [] := T.F_with_one_of.binds (ps := ["kernel", "quorum"]) fun _ _ _ _ _ _ us hl => match us, hl with | [_, _], _ => rfl
theorem bn_meets_each (T : Top K mg t) : Binds K t.d_meets_each ["lot", "family"] [] := T.F_meets_each.binds (ps := ["lot", "family"]) fun _ _ _ _ _ _ us hl => match us, hl with | [_, _], _ => rfl
theorem bn_is_name_set (T : Top K mg t) : Binds K t.d_is_name_set ["thing"] [] := T.F_is_name_set.binds (ps := ["thing"]) fun _ _ _ _ _ _ us hl => match us, hl with | [_], _ => rfl
theorem bn_w_pick (T : Top K mg t) : Binds K t.d_w_pick ["_law_feed_here", "_law_some"] [] := T.F_w_pick.binds (ps := ["_law_feed_here", "_law_some"]) fun _ _ _ _ _ _ us hl => match us, hl with | [_, _], _ => rfl
theorem bn_w_greatest (T : Top K mg t) : Binds K t.d_w_greatest ["_law_groups"] [] := T.F_w_greatest.binds (ps := ["_law_groups"]) fun _ _ _ _ _ _ us hl => match us, hl with | [_], _ => rfl
theorem bn_w_least (T : Top K mg t) : Binds K t.d_w_least ["_law_groups"] [] := T.F_w_least.binds (ps := ["_law_groups"]) fun _ _ _ _ _ _ us hl => match us, hl with | [_], _ => rfl
theorem bn_w_part (T : Top K mg t) : Binds K t.d_w_part ["_law_feed_here", "_law_names", "_law_share"] [] := T.F_w_part.binds (ps := ["_law_feed_here", "_law_names", "_law_share"]) fun _ _ _ _ _ _ us hl => match us, hl with | [_, _, _], _ => rfl
theorem bn_w_plain (T : Top K mg t) : Binds K t.d_w_plain ["_law_web"] [] := T.F_w_plain.binds (ps := ["_law_web"]) fun _ _ _ _ _ _ us hl => match us, hl with | [_], _ => rfl
theorem bn_w_kernels (T : Top K mg t) : Binds K t.d_w_kernels ["_law_houses", "_law_family"] [] := T.F_w_kernels.binds (ps := ["_law_houses", "_law_family"]) fun _ _ _ _ _ _ us hl => match us, hl with | [_, _], _ => rfl
theorem bn_is_family_of (T : Top K mg t) : Binds K t.d_is_family_of ["houses", "thing"] [] := T.F_is_family_of.binds (ps := ["houses", "thing"]) fun _ _ _ _ _ _ us hl => match us, hl with | [_, _], _ => rfl
theorem bn_least_kernels (T : Top K mg t) : Binds K t.d_least_kernels ["family"] [] := T.F_least_kernels.binds (ps := ["family"]) fun _ _ _ _ _ _ us hl => match us, hl with | [_], _ => rfl
theorem bn_are_houses (T : Top K mg t) : Binds K t.d_are_houses ["thing"] [] := T.F_are_houses.binds (ps := ["thing"]) fun _ _ _ _ _ _ us hl => match us, hl with | [_], _ => rfl
theorem bn_w_pool (T : Top K mg t) : Binds K t.d_w_pool ["_law_feed_here"] [] := T.F_w_pool.binds (ps := ["_law_feed_here"]) fun _ _ _ _ _ _ us hl => match us, hl with | [_], _ => rfl
theorem bn_w_packs (T : Top K mg t) : Binds K t.d_w_packs ["_law_feed_here", "_law_web"] [] := T.F_w_packs.binds (ps := ["_law_feed_here", "_law_web"]) fun _ _ _ _ _ _ us hl => match us, hl with | [_, _], _ => rfl
theorem bn_is_net (T : Top K mg t) : Binds K t.d_is_net ["thing"] [] := T.F_is_net.binds (ps := ["thing"]) fun _ _ _ _ _ _ us hl => match us, hl with | [_], _ => rfl
theorem bn_are_quorums_of (T : Top K mg t) : Binds K t.d_are_quorums_of ["houses", "thing"] [] := T.F_are_quorums_of.binds (ps := ["houses", "thing"]) fun _ _ _ _ _ _ us hl => match us, hl with | [_, _], _ => rfl
theorem bn_w_net (T : Top K mg t) : Binds K t.d_w_net ["_law_feed_here", "_law_most"] [] := T.F_w_net.binds (ps := ["_law_feed_here", "_law_most"]) fun _ _ _ _ _ _ us hl => match us, hl with | [_, _], _ => rfl
theorem bn_need_quorums (T : Top K mg t) : Binds K t.d_need_quorums ["net", "quorums"] [] := T.F_need_quorums.binds (ps := ["net", "quorums"]) fun _ _ _ _ _ _ us hl => match us, hl with | [_, _], _ => rfl
theorem bn_kernels_of (T : Top K mg t) : Binds K t.d_kernels_of ["net", "quorums", "house"] [] := T.F_kernels_of.binds (ps := ["net", "quorums", "house"]) fun _ _ _ _ _ _ us hl => match us, hl with | [_, _, _], _ => rfl
theorem bn_is_kernel (T : Top K mg t) : Binds K t.d_is_kernel ["net", "quorums", "house", "lot"] [] := T.F_is_kernel.binds (ps := ["net", "quorums", "house", "lot"]) fun _ _ _ _ _ _ us hl => match us, hl with | [_, _, _, _], _ => rfl
theorem bn_w_is_even (T : Top K mg t) : Binds K t.d_w_is_even ["_law_web", "_law_packs_here", "_law_k"] [] := T.F_w_is_even.binds (ps := ["_law_web", "_law_packs_here", "_law_k"]) fun _ _ _ _ _ _ us hl => match us, hl with | [_, _, _], _ => rfl
theorem bn_law (T : Top K mg t) : Binds K t.d_law ["_law_script"] [] := T.F_law.binds (ps := ["_law_script"]) fun _ _ _ _ _ _ us hl => match us, hl with | [_], _ => rfl
end
end V23
set_option maxHeartbeats 4000000
namespace V23
open PySem PySem.Spec PyProof.Rows L2 VI
def b_ascend : MS := (retM [] (callM allG (consA (lcM [2, 1] (zipI (vD 0) (slxM (vD 0) (soM (cD (.int 1))) noM)) (setP 1 2) yesT (op2 lt2G (vD 1) (vD 2))) nilA)))
def m_ascend : MF := fnM 3 b_ascend
theorem ok_ascend {P : Program} {w : World} {K : PySem.W.Frag} {mg : Str → Option Value} {base : Heap} {t : TopD} (T : Top K mg t) (B : Bas base mg t) : FnG P w K mg base CX0 1 t.a_ascend t.d_ascend ["things"] (spF K "at" "left" "drawn" t.T 1 m_ascend) :=
  fn_D (N := N_ascend) (mb := b_ascend) (n := 1) (k := 0) (ps := ["things"]) (st := s_ascend) T.F_ascend S_ascend rfl fun fa ca ex cdv A outer s H E hcv hg hr =>
    show DSs _ ⟨fa, ca, "at", "left", "drawn", t.T, ex⟩ _ b_ascend from
      (dss_one (ds_ret [] (de_callB (cg_all rfl) rfl (T.z_all) bt_all (da_cons (de_lc (own := [("after", 2), ("one", 1)]) rfl S_ascend.nd (di_zip rfl (T.z_zip) (de_var (pv 0)) (de_slx (de_var (pv 0)) (do_some de_int) do_none) rfl rfl) (blkOk_by (N := N_ascend) (sc := defScope s_ascend) (by decide +kernel)) (by decide) (hg_pair fun _ _ _ _ _ => pg_tup rfl (pgs_cons (pg_name (i := 1) S_ascend.nd rfl (by first | exact .inl rfl | exact .inr rfl)) (pgs_cons (pg_name (i := 2) S_ascend.nd rfl (by first | exact .inl rfl | exact .inr rfl)) pgs_nil))) (fun _ _ _ _ _ => dts_nil) (fun _ _ _ _ _ => (de_cmp (og_lt2 (r64 hr)) (de_var (pv 1)) (de_var (pv 2)) rfl)) (fun _ => rfl)) da_nil))))
def b_includes : MS := (seqM (forM [] (seqI (vD 1)) (setNS 2) (ifS [] (tst (op2 (inG true) (vD 2) (vD 0))) (retM [] (cD (.bool false))) nxM))
  (retM [] (cD (.bool true))))
def m_includes : MF := fnM 3 b_includes
theorem ok_includes {P : Program} {w : World} {K : PySem.W.Frag} {mg : Str → Option Value} {base : Heap} {t : TopD} (T : Top K mg t) (B : Bas base mg t) : FnG P w K mg base CX0 1 t.a_includes t.d_includes ["lot", "part"] (spF K "at" "left" "drawn" t.T 2 m_includes) :=
  fn_D (N := N_includes) (mb := b_includes) (n := 2) (k := 0) (ps := ["lot", "part"]) (st := s_includes) T.F_includes S_includes rfl fun fa ca ex cdv A outer s H E hcv hg hr =>
    show DSs _ ⟨fa, ca, "at", "left", "drawn", t.T, ex⟩ _ b_includes from
      (dss_cons (ds_for [] PassesOwn.never rfl (di_seq (de_var (pv 1))) (dgs_name (pg_name (i := 2) S_includes.nd rfl (by first | exact .inl rfl | exact .inr rfl))) (dss_one (ds_if [] (dt_cmp (og_notIn (r65 hr)) (de_var (pv 2)) (de_var (pv 0)) rfl) (dss_one (ds_ret [] de_bl)) dss_nil)) (fun _ => rfl))
      (dss_one (ds_ret [] de_bl)))
def b_common : MS := (retM [] (callM tupleG (consA (lcM [2] (seqI (vD 0)) (setN 2) (tst (op2 (inG false) (vD 2) (vD 1))) (vD 2)) nilA)))
def m_common : MF := fnM 3 b_common
theorem ok_common {P : Program} {w : World} {K : PySem.W.Frag} {mg : Str → Option Value} {base : Heap} {t : TopD} (T : Top K mg t) (B : Bas base mg t) : FnG P w K mg base CX0 1 t.a_common t.d_common ["lot", "other"] (spF K "at" "left" "drawn" t.T 2 m_common) :=
  fn_D (N := N_common) (mb := b_common) (n := 2) (k := 0) (ps := ["lot", "other"]) (st := s_common) T.F_common S_common rfl fun fa ca ex cdv A outer s H E hcv hg hr =>
    show DSs _ ⟨fa, ca, "at", "left", "drawn", t.T, ex⟩ _ b_common from
      (dss_one (ds_ret [] (de_callT cg_tuple rfl (T.z_tuple) bt_tuple (da_cons (de_lc (own := [("name", 2)]) rfl S_common.nd (di_seq (de_var (pv 0))) (blkOk_by (N := N_common) (sc := defScope s_common) (by decide +kernel)) (by decide) (hg_name fun _ _ _ _ _ => pg_name (i := 2) S_common.nd rfl (by first | exact .inl rfl | exact .inr rfl)) (fun _ _ _ _ _ => (dts_one (dt_cmp (og_in (r65 hr)) (de_var (pv 2)) (de_var (pv 1)) rfl))) (fun _ _ _ _ _ => (de_var (pv 2))) (fun _ => rfl)) da_nil))))
def b_without : MS := (retM [] (callM tupleG (consA (lcM [2] (seqI (vD 0)) (setN 2) (tst (op2 (inG true) (vD 2) (vD 1))) (vD 2)) nilA)))
def m_without : MF := fnM 3 b_without
theorem ok_without {P : Program} {w : World} {K : PySem.W.Frag} {mg : Str → Option Value} {base : Heap} {t : TopD} (T : Top K mg t) (B : Bas base mg t) : FnG P w K mg base CX0 1 t.a_without t.d_without ["lot", "part"] (spF K "at" "left" "drawn" t.T 2 m_without) :=
  fn_D (N := N_without) (mb := b_without) (n := 2) (k := 0) (ps := ["lot", "part"]) (st := s_without) T.F_without S_without rfl fun fa ca ex cdv A outer s H E hcv hg hr =>
    show DSs _ ⟨fa, ca, "at", "left", "drawn", t.T, ex⟩ _ b_without from
      (dss_one (ds_ret [] (de_callT cg_tuple rfl (T.z_tuple) bt_tuple (da_cons (de_lc (own := [("name", 2)]) rfl S_without.nd (di_seq (de_var (pv 0))) (blkOk_by (N := N_without) (sc := defScope s_without) (by decide +kernel)) (by decide) (hg_name fun _ _ _ _ _ => pg_name (i := 2) S_without.nd rfl (by first | exact .inl rfl | exact .inr rfl)) (fun _ _ _ _ _ => (dts_one (dt_cmp (og_notIn (r65 hr)) (de_var (pv 2)) (de_var (pv 1)) rfl))) (fun _ _ _ _ _ => (de_var (pv 2))) (fun _ => rfl)) da_nil))))
def b_family_of : MS := (seqM (unpM [] [2, 3] (vD 0))
  (retM [] (op2 ixG (vD 3) (op2 idxG (vD 2) (vD 1)))))
def m_family_of : MF := fnM 4 b_family_of
theorem ok_family_of {P : Program} {w : World} {K : PySem.W.Frag} {mg : Str → Option Value} {base : Heap} {t : TopD} (T : Top K mg t) (B : Bas base mg t) : FnG P w K mg base CX0 1 t.a_family_of t.d_family_of ["net", "house"] (spF K "at" "left" "drawn" t.T 2 m_family_of) :=
  fn_D (N := N_family_of) (mb := b_family_of) (n := 2) (k := 0) (ps := ["net", "house"]) (st := s_family_of) T.F_family_of S_family_of rfl fun fa ca ex cdv A outer s H E hcv hg hr =>
    show DSs _ ⟨fa, ca, "at", "left", "drawn", t.T, ex⟩ _ b_family_of from
      (dss_cons (ds_unp (is := [2, 3]) [] (de_var (pv 0)) (pg_tup rfl (pgs_cons (pg_name (i := 2) S_family_of.nd rfl (by first | exact .inl rfl | exact .inr rfl)) (pgs_cons (pg_name (i := 3) S_family_of.nd rfl (by first | exact .inl rfl | exact .inr rfl)) pgs_nil))) rfl rfl rfl)
      (dss_one (ds_ret [] (de_ix (de_var (pv 3)) (de_tupIndex (r65 hr) (de_var (pv 2)) (de_var (pv 1))) (fun _ _ => rfl)))))
end V23
set_option maxHeartbeats 4000000
namespace V23
open PySem PySem.Spec PyProof.Rows L2 VI
def b_need : MS := (ifS [] (notT (tstL (vD 0))) badM nxM)
def m_need : MF := fnM 2 b_need
theorem ok_need {P : Program} {w : World} {K : PySem.W.Frag} {mg : Str → Option Value} {base : Heap} {t : TopD} (T : Top K mg t) (B : Bas base mg t) : FnG P w K mg base CX0 1 t.a_need t.d_need ["usable", "word"] (spF K "at" "left" "drawn" t.T 2 m_need) :=
  fn_D (N := N_need) (mb := b_need) (n := 2) (k := 0) (ps := ["usable", "word"]) (st := s_need) T.F_need S_need rfl fun fa ca ex cdv A outer s H E hcv hg hr =>
    show DSs _ ⟨fa, ca, "at", "left", "drawn", t.T, ex⟩ _ b_need from
      (dss_one (ds_if [] (dt_not (dt_tru (de_var (pv 0)) (fun _ => rfl))) (dss_one ds_bad) dss_nil))
def b_is_name : MS := (seqM (ifS [] (orT (notT (tst (isiM "str" (vD 0)))) (notT (tst (chn leG leG (cD (.int 1)) (callM lenG (consA (vD 0) nilA)) (cD (.int 8)))))) (retM [] (cD (.bool false))) nxM)
  (retM [] (callM allG (consA (lcM [1] (seqI (vD 0)) (setN 1) yesT (chn leG leG (cD (.str "a")) (vD 1) (cD (.str "z")))) nilA))))
def m_is_name : MF := fnM 2 b_is_name
theorem ok_is_name {P : Program} {w : World} {K : PySem.W.Frag} {mg : Str → Option Value} {base : Heap} {t : TopD} (T : Top K mg t) (B : Bas base mg t) : FnG P w K mg base CX0 1 t.a_is_name t.d_is_name ["thing"] (spF K "at" "left" "drawn" t.T 1 m_is_name) :=
  fn_D (N := N_is_name) (mb := b_is_name) (n := 1) (k := 0) (ps := ["thing"]) (st := s_is_name) T.F_is_name S_is_name rfl fun fa ca ex cdv A outer s H E hcv hg hr =>
    show DSs _ ⟨fa, ca, "at", "left", "drawn", t.T, ex⟩ _ b_is_name from
      (dss_cons (ds_if [] (dt_w (dw_or (dt_not (dt_val (de_isi (T := "str") (by unfold tyOk; simp) (de_var (pv 0)) (pe_bltn rfl (T.z_str) bt_str rfl) rfl (T.z_isinstance)) (fun _ => rfl))) (dw_or1 (dt_not (dt_chain og_le og_le de_int (de_callB cg_len rfl (T.z_len) bt_len (da_cons (de_var (pv 0)) da_nil)) de_int (by with_unfolding_all rfl)))))) (dss_one (ds_ret [] de_bl)) dss_nil)
      (dss_one (ds_ret [] (de_callB (cg_all rfl) rfl (T.z_all) bt_all (da_cons (de_lc (own := [("letter", 1)]) rfl S_is_name.nd (di_seq (de_var (pv 0))) (blkOk_by (N := N_is_name) (sc := defScope s_is_name) (by decide +kernel)) (by decide) (hg_name fun _ _ _ _ _ => pg_name (i := 1) S_is_name.nd rfl (by first | exact .inl rfl | exact .inr rfl)) (fun _ _ _ _ _ => dts_nil) (fun _ _ _ _ _ => (de_chain og_le og_le de_str (de_var (pv 1)) de_str (by with_unfolding_all rfl))) (fun _ => rfl)) da_nil)))))
def b_is_tuple_of : MS := (retM [] (andM (isiM "tuple" (vD 0)) (op2 eqG (callM lenG (consA (vD 0) nilA)) (vD 1))))
def m_is_tuple_of : MF := fnM 2 b_is_tuple_of
theorem ok_is_tuple_of {P : Program} {w : World} {K : PySem.W.Frag} {mg : Str → Option Value} {base : Heap} {t : TopD} (T : Top K mg t) (B : Bas base mg t) : FnG P w K mg base CX0 1 t.a_is_tuple_of t.d_is_tuple_of ["thing", "size"] (spF K "at" "left" "drawn" t.T 2 m_is_tuple_of) :=
  fn_D (N := N_is_tuple_of) (mb := b_is_tuple_of) (n := 2) (k := 0) (ps := ["thing", "size"]) (st := s_is_tuple_of) T.F_is_tuple_of S_is_tuple_of rfl fun fa ca ex cdv A outer s H E hcv hg hr =>
    show DSs _ ⟨fa, ca, "at", "left", "drawn", t.T, ex⟩ _ b_is_tuple_of from
      (dss_one (ds_ret [] (de_and (de_isi (T := "tuple") (by unfold tyOk; simp) (de_var (pv 0)) (pe_bltn rfl (T.z_tuple) bt_tuple rfl) rfl (T.z_isinstance)) (de_one (de_cmp (og_eq (r64 hr)) (de_callB cg_len rfl (T.z_len) bt_len (da_cons (de_var (pv 0)) da_nil)) (de_var (pv 1)) rfl)))))
def b_w_draw : MS := (seqM (fpM 0 (op2 addG (fgI 0 FS.dr) (cD (.int 1))) (fun f n => { f with dr := n }))
  (seqM (ifS [] (tst (op2 gtG (fgI 0 FS.left) (cD (.int 0)))) (seqM (asgD [] 4 (op2 modG (callM intG (consA (fgI 0 FS.left) nilA)) (vD 1)))
  (seqM (fpM 0 (op2 fdG (fgI 0 FS.left) (vD 1)) (fun f n => { f with left := n }))
  (retV 4))) nxM)
  (seqM (parM [] [5, 6] (consD (fgC 0) (consD (fgI 0 FS.nx) nilE)))
  (seqM (fpM 0 (op2 addG (vD 6) (cD (.int 1))) (fun f n => { f with nx := n }))
  (seqM (asgD [] 2 (ifM (tst (op2 neG (vD 5) (lstM nilA))) (op2 ixG (vD 5) (op2 modG (callM intG (consA (vD 6) nilA)) (callM lenG (consA (vD 5) nilA)))) (cD (.int 68927))))
  (seqM (ifS [] (andT (tst (op2 geG (vD 2) (op2 powG (cD (.int 10)) (cD (.int 18))))) (tst (op2 lt2G (vD 6) (callM lenG (consA (vD 5) nilA))))) (seqM (fpM 0 (op2 fdG (vD 2) (vD 1)) (fun f n => { f with left := n }))
  (retM [] (op2 modG (callM intG (consA (vD 2) nilA)) (vD 1)))) nxM)
  (seqM (asgD [] 3 (op2 modG (callM intG (consA (op2 addG (op2 addG (op2 modG (callM intG (consA (vD 2) nilA)) (cD (.int 1000001581))) (op2 mulG (cD (.int 76441)) (fgI 0 FS.dr))) (cD (.int 569))) nilA)) (cD (.int 2147483489))))
  (seqM (asgD [] 3 (op2 modG (callM intG (consA (op2 addG (op2 addG (op2 mulG (vD 3) (vD 3)) (op2 mulG (cD (.int 6111491)) (fgI 0 FS.dr))) (cD (.int 359))) nilA)) (cD (.int 2147483323))))
  (retM [] (op2 modG (callM intG (consA (op2 fdG (op2 modG (callM intG (consA (op2 addG (op2 mulG (vD 3) (vD 3)) (op2 mulG (cD (.int 1063)) (vD 3))) nilA)) (cD (.int 2147483249))) (cD (.int 32))) nilA)) (vD 1)))))))))))
def m_w_draw : MF := fnM 7 b_w_draw
theorem ok_w_draw {P : Program} {w : World} {K : PySem.W.Frag} {mg : Str → Option Value} {base : Heap} {t : TopD} (T : Top K mg t) (B : Bas base mg t) : FnG P w K mg base CX0 1 t.a_w_draw t.d_w_draw ["_law_feed_here", "_law_most"] (spF K "at" "left" "drawn" t.T 2 m_w_draw) :=
  fn_D (N := N_w_draw) (mb := b_w_draw) (n := 2) (k := 0) (ps := ["_law_feed_here", "_law_most"]) (st := s_w_draw) T.F_w_draw S_w_draw rfl fun fa ca ex cdv A outer s H E hcv hg hr =>
    show DSs _ ⟨fa, ca, "at", "left", "drawn", t.T, ex⟩ _ b_w_draw from
      (dss_cons (ds_fput (put := (fun f n => { f with dr := n })) (pv 0) (de_op og_add (de_fgI (get := FS.dr) (pv 0) (hu_of hr) (fun _ _ => rfl) (fun _ => rfl)) de_int) (hu_of hr) (fun _ _ => rfl) (fun _ _ => rfl) rfl)
      (dss_cons (ds_if [] (dt_cmp og_gt (de_fgI (get := FS.left) (pv 0) (hu_of hr) (fun _ _ => rfl) (fun _ => rfl)) de_int rfl) (dss_cons (ds_setD (i := 4) [] (de_op og_mod (de_callT cg_int rfl (T.z_int) bt_int (da_cons (de_fgI (get := FS.left) (pv 0) (hu_of hr) (fun _ _ => rfl) (fun _ => rfl)) da_nil)) (de_var (pv 1))) S_w_draw.nd rfl (.inl rfl) rfl (.inr rfl))
      (dss_cons (ds_fput (put := (fun f n => { f with left := n })) (pv 0) (de_op og_fd (de_fgI (get := FS.left) (pv 0) (hu_of hr) (fun _ _ => rfl) (fun _ => rfl)) (de_var (pv 1))) (hu_of hr) (fun _ _ => rfl) (fun _ _ => rfl) rfl)
      (dss_one (ds_retV (pv 4))))) dss_nil)
      (dss_cons (ds_par2 [] rfl S_w_draw.nd rfl rfl (by decide) rfl rfl (dae_consD (de_fgC (pv 0) (hu_of hr) (fun _ _ => rfl)) (dae_consD (de_fgI (get := FS.nx) (pv 0) (hu_of hr) (fun _ _ => rfl) (fun _ => rfl)) dae_nil rfl) rfl) rfl)
      (dss_cons (ds_fput (put := (fun f n => { f with nx := n })) (pv 0) (de_op og_add (de_var (pv 6)) de_int) (hu_of hr) (fun _ _ => rfl) (fun _ _ => rfl) rfl)
      (dss_cons (ds_setD (i := 2) [] (de_if (dt_cmp (og_ne (r64 hr)) (de_var (pv 5)) (de_lst da_nil) rfl) (de_ix (de_var (pv 5)) (de_op og_mod (de_callT cg_int rfl (T.z_int) bt_int (da_cons (de_var (pv 6)) da_nil)) (de_callB cg_len rfl (T.z_len) bt_len (da_cons (de_var (pv 5)) da_nil))) (fun _ _ => rfl)) de_int) S_w_draw.nd rfl (.inl rfl) rfl (.inr rfl))
      (dss_cons (ds_if [] (dt_w (dw_and (dt_cmp og_ge (de_var (pv 2)) (de_op og_pow de_int de_int) rfl) (dw_and1 (dt_cmp (og_lt2 (r64 hr)) (de_var (pv 6)) (de_callB cg_len rfl (T.z_len) bt_len (da_cons (de_var (pv 5)) da_nil)) rfl)))) (dss_cons (ds_fput (put := (fun f n => { f with left := n })) (pv 0) (de_op og_fd (de_var (pv 2)) (de_var (pv 1))) (hu_of hr) (fun _ _ => rfl) (fun _ _ => rfl) rfl)
      (dss_one (ds_ret [] (de_op og_mod (de_callT cg_int rfl (T.z_int) bt_int (da_cons (de_var (pv 2)) da_nil)) (de_var (pv 1)))))) dss_nil)
      (dss_cons (ds_setD (i := 3) [] (de_op og_mod (de_callT cg_int rfl (T.z_int) bt_int (da_cons (de_op og_add (de_op og_add (de_op og_mod (de_callT cg_int rfl (T.z_int) bt_int (da_cons (de_var (pv 2)) da_nil)) de_int) (de_op og_mul de_int (de_fgI (get := FS.dr) (pv 0) (hu_of hr) (fun _ _ => rfl) (fun _ => rfl)))) de_int) da_nil)) de_int) S_w_draw.nd rfl (.inl rfl) rfl (.inr rfl))
      (dss_cons (ds_setD (i := 3) [] (de_op og_mod (de_callT cg_int rfl (T.z_int) bt_int (da_cons (de_op og_add (de_op og_add (de_op og_mul (de_var (pv 3)) (de_var (pv 3))) (de_op og_mul de_int (de_fgI (get := FS.dr) (pv 0) (hu_of hr) (fun _ _ => rfl) (fun _ => rfl)))) de_int) da_nil)) de_int) S_w_draw.nd rfl (.inl rfl) rfl (.inr rfl))
      (dss_one (ds_ret [] (de_op og_mod (de_callT cg_int rfl (T.z_int) bt_int (da_cons (de_op og_fd (de_op og_mod (de_callT cg_int rfl (T.z_int) bt_int (da_cons (de_op og_add (de_op og_mul (de_var (pv 3)) (de_var (pv 3))) (de_op og_mul de_int (de_var (pv 3)))) da_nil)) de_int) de_int) da_nil)) (de_var (pv 1)))))))))))))
def b_w_set : MS := (retM [] (callM tupleG (consA (ssM (callM listG (consA (vD 0) nilA))) nilA)))
def m_w_set : MF := fnM 1 b_w_set
theorem ok_w_set {P : Program} {w : World} {K : PySem.W.Frag} {mg : Str → Option Value} {base : Heap} {t : TopD} (T : Top K mg t) (B : Bas base mg t) : FnG P w K mg base CX0 1 t.a_w_set t.d_w_set ["_law_names"] (spF K "at" "left" "drawn" t.T 1 m_w_set) :=
  fn_D (N := N_w_set) (mb := b_w_set) (n := 1) (k := 0) (ps := ["_law_names"]) (st := s_w_set) T.F_w_set S_w_set rfl fun fa ca ex cdv A outer s H E hcv hg hr =>
    show DSs _ ⟨fa, ca, "at", "left", "drawn", t.T, ex⟩ _ b_w_set from
      (dss_one (ds_ret [] (de_callT cg_tuple rfl (T.z_tuple) bt_tuple (da_cons (de_ss rfl (r65 hr) rfl (T.z_sorted) rfl (T.z_set) (de_callT (cg_list rfl) rfl (T.z_list) bt_list (da_cons (de_var (pv 0)) da_nil))) da_nil))))
end V23
set_option maxHeartbeats 4000000
namespace V23
open PySem PySem.Spec PyProof.Rows L2 VI
def b_w_lies : MS := (retM [] (op2 eqG (lcM [2] (seqI (vD 0)) (setN 2) (tst (op2 (inG true) (vD 2) (vD 1))) (vD 2)) (lstM nilA)))
def m_w_lies : MF := fnM 3 b_w_lies
theorem ok_w_lies {P : Program} {w : World} {K : PySem.W.Frag} {mg : Str → Option Value} {base : Heap} {t : TopD} (T : Top K mg t) (B : Bas base mg t) : FnG P w K mg base CX0 1 t.a_w_lies t.d_w_lies ["_law_group", "_law_other_in"] (spF K "at" "left" "drawn" t.T 2 m_w_lies) :=
  fn_D (N := N_w_lies) (mb := b_w_lies) (n := 2) (k := 0) (ps := ["_law_group", "_law_other_in"]) (st := s_w_lies) T.F_w_lies S_w_lies rfl fun fa ca ex cdv A outer s H E hcv hg hr =>
    show DSs _ ⟨fa, ca, "at", "left", "drawn", t.T, ex⟩ _ b_w_lies from
      (dss_one (ds_ret [] (de_cmp (og_eq (r64 hr)) (de_lc (own := [("_law_one", 2)]) rfl S_w_lies.nd (di_seq (de_var (pv 0))) (blkOk_by (N := N_w_lies) (sc := defScope s_w_lies) (by decide +kernel)) (by decide) (hg_name fun _ _ _ _ _ => pg_name (i := 2) S_w_lies.nd rfl (by first | exact .inl rfl | exact .inr rfl)) (fun _ _ _ _ _ => (dts_one (dt_cmp (og_notIn (r65 hr)) (de_var (pv 2)) (de_var (pv 1)) rfl))) (fun _ _ _ _ _ => (de_var (pv 2))) (fun _ => rfl)) (de_lst da_nil) rfl)))
def b_w_others : MS := (retM [] (callM tupleG (consA (lcM [2] (seqI (vD 0)) (setN 2) (tst (op2 (inG true) (vD 2) (vD 1))) (vD 2)) nilA)))
def m_w_others : MF := fnM 3 b_w_others
theorem ok_w_others {P : Program} {w : World} {K : PySem.W.Frag} {mg : Str → Option Value} {base : Heap} {t : TopD} (T : Top K mg t) (B : Bas base mg t) : FnG P w K mg base CX0 1 t.a_w_others t.d_w_others ["_law_houses", "_law_group"] (spF K "at" "left" "drawn" t.T 2 m_w_others) :=
  fn_D (N := N_w_others) (mb := b_w_others) (n := 2) (k := 0) (ps := ["_law_houses", "_law_group"]) (st := s_w_others) T.F_w_others S_w_others rfl fun fa ca ex cdv A outer s H E hcv hg hr =>
    show DSs _ ⟨fa, ca, "at", "left", "drawn", t.T, ex⟩ _ b_w_others from
      (dss_one (ds_ret [] (de_callT cg_tuple rfl (T.z_tuple) bt_tuple (da_cons (de_lc (own := [("_law_one", 2)]) rfl S_w_others.nd (di_seq (de_var (pv 0))) (blkOk_by (N := N_w_others) (sc := defScope s_w_others) (by decide +kernel)) (by decide) (hg_name fun _ _ _ _ _ => pg_name (i := 2) S_w_others.nd rfl (by first | exact .inl rfl | exact .inr rfl)) (fun _ _ _ _ _ => (dts_one (dt_cmp (og_notIn (r65 hr)) (de_var (pv 2)) (de_var (pv 1)) rfl))) (fun _ _ _ _ _ => (de_var (pv 2))) (fun _ => rfl)) da_nil))))
def b_w_common : MS := (retM [] (callM tupleG (consA (lcM [2] (seqI (vD 0)) (setN 2) (tst (op2 (inG false) (vD 2) (vD 1))) (vD 2)) nilA)))
def m_w_common : MF := fnM 3 b_w_common
theorem ok_w_common {P : Program} {w : World} {K : PySem.W.Frag} {mg : Str → Option Value} {base : Heap} {t : TopD} (T : Top K mg t) (B : Bas base mg t) : FnG P w K mg base CX0 1 t.a_w_common t.d_w_common ["_law_first", "_law_second"] (spF K "at" "left" "drawn" t.T 2 m_w_common) :=
  fn_D (N := N_w_common) (mb := b_w_common) (n := 2) (k := 0) (ps := ["_law_first", "_law_second"]) (st := s_w_common) T.F_w_common S_w_common rfl fun fa ca ex cdv A outer s H E hcv hg hr =>
    show DSs _ ⟨fa, ca, "at", "left", "drawn", t.T, ex⟩ _ b_w_common from
      (dss_one (ds_ret [] (de_callT cg_tuple rfl (T.z_tuple) bt_tuple (da_cons (de_lc (own := [("_law_one", 2)]) rfl S_w_common.nd (di_seq (de_var (pv 0))) (blkOk_by (N := N_w_common) (sc := defScope s_w_common) (by decide +kernel)) (by decide) (hg_name fun _ _ _ _ _ => pg_name (i := 2) S_w_common.nd rfl (by first | exact .inl rfl | exact .inr rfl)) (fun _ _ _ _ _ => (dts_one (dt_cmp (og_in (r65 hr)) (de_var (pv 2)) (de_var (pv 1)) rfl))) (fun _ _ _ _ _ => (de_var (pv 2))) (fun _ => rfl)) da_nil))))
def b_w_subsets : MS := (seqM (asgD [] 1 (lstM (consA (tupM nilA) nilA)))
  (seqM (forM [] (seqI (vD 0)) (setNS 2) (asgD [] 1 (op2 addG (vD 1) (lcM [5] (seqI (vD 1)) (setN 5) yesT (op2 addG (vD 5) (tupM (consA (vD 2) nilA)))))))
  (seqM (asgD [] 3 (lstM nilA))
  (seqM (forC [] (rng1I (op2 addG (callM lenG (consA (vD 0) nilA)) (cD (.int 1)))) (setNS 4) (asgD [] 3 (op2 addG (vD 3) (ssM (lcM [5] (seqI (vD 1)) (setN 5) (tst (op2 eqG (callM lenG (consA (vD 5) nilA)) (vD 4))) (vD 5))))))
  (retV 3)))))
def m_w_subsets : MF := fnM 6 b_w_subsets
theorem ok_w_subsets {P : Program} {w : World} {K : PySem.W.Frag} {mg : Str → Option Value} {base : Heap} {t : TopD} (T : Top K mg t) (B : Bas base mg t) : FnG P w K mg base CX0 1 t.a_w_subsets t.d_w_subsets ["_law_names"] (spF K "at" "left" "drawn" t.T 1 m_w_subsets) :=
  fn_D (N := N_w_subsets) (mb := b_w_subsets) (n := 1) (k := 0) (ps := ["_law_names"]) (st := s_w_subsets) T.F_w_subsets S_w_subsets rfl fun fa ca ex cdv A outer s H E hcv hg hr =>
    show DSs _ ⟨fa, ca, "at", "left", "drawn", t.T, ex⟩ _ b_w_subsets from
      (dss_cons (ds_setD (i := 1) [] (de_lst (da_cons (de_tup da_nil) da_nil)) S_w_subsets.nd rfl (.inl rfl) rfl (.inr rfl))
      (dss_cons (ds_for [] PassesOwn.never rfl (di_seq (de_var (pv 0))) (dgs_name (pg_name (i := 2) S_w_subsets.nd rfl (by first | exact .inl rfl | exact .inr rfl))) (dss_one (ds_setD (i := 1) [] (de_op og_add (de_var (pv 1)) (de_lc (own := [("_law_some", 5)]) rfl S_w_subsets.nd (di_seq (de_var (pv 1))) (blkOk_by (N := N_w_subsets) (sc := defScope s_w_subsets) (by decide +kernel)) (by decide) (hg_name fun _ _ _ _ _ => pg_name (i := 5) S_w_subsets.nd rfl (by first | exact .inl rfl | exact .inr rfl)) (fun _ _ _ _ _ => dts_nil) (fun _ _ _ _ _ => (de_op og_add (de_var (pv 5)) (de_tup (da_cons (de_var (pv 2)) da_nil)))) (fun _ => rfl))) S_w_subsets.nd rfl (.inl rfl) rfl (.inr rfl))) (fun _ => rfl))
      (dss_cons (ds_setD (i := 3) [] (de_lst da_nil) S_w_subsets.nd rfl (.inl rfl) rfl (.inr rfl))
      (dss_cons (ds_forC [] PassesOwn.never rfl (dic_rng1 rfl (T.z_range) (de_op og_add (de_callB cg_len rfl (T.z_len) bt_len (da_cons (de_var (pv 0)) da_nil)) de_int) rfl) (dgs_name (pg_name (i := 4) S_w_subsets.nd rfl (by first | exact .inl rfl | exact .inr rfl))) (dss_one (ds_setD (i := 3) [] (de_op og_add (de_var (pv 3)) (de_ss rfl (r65 hr) rfl (T.z_sorted) rfl (T.z_set) (de_lc (own := [("_law_some", 5)]) rfl S_w_subsets.nd (di_seq (de_var (pv 1))) (blkOk_by (N := N_w_subsets) (sc := defScope s_w_subsets) (by decide +kernel)) (by decide) (hg_name fun _ _ _ _ _ => pg_name (i := 5) S_w_subsets.nd rfl (by first | exact .inl rfl | exact .inr rfl)) (fun _ _ _ _ _ => (dts_one (dt_cmp (og_eq (r64 hr)) (de_callB cg_len rfl (T.z_len) bt_len (da_cons (de_var (pv 5)) da_nil)) (de_var (pv 4)) rfl))) (fun _ _ _ _ _ => (de_var (pv 5))) (fun _ => rfl)))) S_w_subsets.nd rfl (.inl rfl) rfl (.inr rfl))) (fun _ => rfl))
      (dss_one (ds_retV (pv 3)))))))
def b_is_lot_of : MS := (seqM (ifS [] (notT (tst (isiM "tuple" (vD 1)))) (retM [] (cD (.bool false))) nxM)
  (retM [] (andM (callM allG (consA (lcM [2] (seqI (vD 1)) (setN 2) yesT (op2 (inG false) (vD 2) (vD 0))) nilA)) (appM 1 m_ascend (consA (vD 1) nilA)))))
def m_is_lot_of : MF := fnM 3 b_is_lot_of
theorem ok_is_lot_of {P : Program} {w : World} {K : PySem.W.Frag} {mg : Str → Option Value} {base : Heap} {t : TopD} (T : Top K mg t) (B : Bas base mg t) : FnG P w K mg base CX0 2 t.a_is_lot_of t.d_is_lot_of ["houses", "thing"] (spF K "at" "left" "drawn" t.T 2 m_is_lot_of) :=
  fn_D (N := N_is_lot_of) (mb := b_is_lot_of) (n := 2) (k := 1) (ps := ["houses", "thing"]) (st := s_is_lot_of) T.F_is_lot_of S_is_lot_of rfl fun fa ca ex cdv A outer s H E hcv hg hr =>
    show DSs _ ⟨fa, ca, "at", "left", "drawn", t.T, ex⟩ _ b_is_lot_of from
      (dss_cons (ds_if [] (dt_not (dt_val (de_isi (T := "tuple") (by unfold tyOk; simp) (de_var (pv 1)) (pe_bltn rfl (T.z_tuple) bt_tuple rfl) rfl (T.z_isinstance)) (fun _ => rfl))) (dss_one (ds_ret [] de_bl)) dss_nil)
      (dss_one (ds_ret [] (de_and (de_callB (cg_all rfl) rfl (T.z_all) bt_all (da_cons (de_lc (own := [("name", 2)]) rfl S_is_lot_of.nd (di_seq (de_var (pv 1))) (blkOk_by (N := N_is_lot_of) (sc := defScope s_is_lot_of) (by decide +kernel)) (by decide) (hg_name fun _ _ _ _ _ => pg_name (i := 2) S_is_lot_of.nd rfl (by first | exact .inl rfl | exact .inr rfl)) (fun _ _ _ _ _ => dts_nil) (fun _ _ _ _ _ => (de_cmp (og_in (r65 hr)) (de_var (pv 2)) (de_var (pv 0)) rfl)) (fun _ => rfl)) da_nil)) (de_one (de_call (ok_ascend T B) hg (hr.mono (by decide)) rfl T.g_ascend T.F_ascend.kp (bn_ascend T) (da_cons (de_var (pv 1)) da_nil)))))))
end V23
set_option maxHeartbeats 4000000
namespace V23
open PySem PySem.Spec PyProof.Rows L2 VI
def b_greatest : MS := (seqM (asgD [] 1 (ssM (vD 0)))
  (retM [] (callM tupleG (consA (lcM [2] (seqI (vD 1)) (setN 2) (notT (tst (callM anyG (consA (lcM [3] (seqI (vD 1)) (setN 3) (tst (op2 neG (vD 3) (vD 2))) (appM 2 m_includes (consA (vD 3) (consA (vD 2) nilA)))) nilA)))) (vD 2)) nilA))))
def m_greatest : MF := fnM 4 b_greatest
theorem ok_greatest {P : Program} {w : World} {K : PySem.W.Frag} {mg : Str → Option Value} {base : Heap} {t : TopD} (T : Top K mg t) (B : Bas base mg t) : FnG P w K mg base CX0 2 t.a_greatest t.d_greatest ["lots"] (spF K "at" "left" "drawn" t.T 1 m_greatest) :=
  fn_D (N := N_greatest) (mb := b_greatest) (n := 1) (k := 1) (ps := ["lots"]) (st := s_greatest) T.F_greatest S_greatest rfl fun fa ca ex cdv A outer s H E hcv hg hr =>
    show DSs _ ⟨fa, ca, "at", "left", "drawn", t.T, ex⟩ _ b_greatest from
      (dss_cons (ds_setD (i := 1) [] (de_ss rfl (r65 hr) rfl (T.z_sorted) rfl (T.z_set) (de_var (pv 0))) S_greatest.nd rfl (.inr rfl) rfl (.inl rfl))
      (dss_one (ds_ret [] (de_callT cg_tuple rfl (T.z_tuple) bt_tuple (da_cons (de_lc (own := [("lot", 2)]) rfl S_greatest.nd (di_seq (de_var (pv 1))) (blkOk_by (N := N_greatest) (sc := defScope s_greatest) (by decide +kernel)) (by decide) (hg_name fun _ _ _ _ _ => pg_name (i := 2) S_greatest.nd rfl (by first | exact .inl rfl | exact .inr rfl)) (fun _ _ _ _ _ => (dts_one (dt_not (dt_val (de_callB (cg_any rfl) rfl (T.z_any) bt_any (da_cons (de_lc (own := [("other", 3)]) rfl S_greatest.nd (di_seq (de_var (pv 1))) (by show BlkOk N_greatest (relS _ (defScope s_greatest)) _ _; exact blkOk_by (by decide +kernel)) (by decide) (hg_name fun _ _ _ _ _ => pg_name (i := 3) S_greatest.nd rfl (by first | exact .inl rfl | exact .inr rfl)) (fun _ _ _ _ _ => (dts_one (dt_cmp (og_ne (r64 hr)) (de_var (pv 3)) (de_var (pv 2)) rfl))) (fun _ _ _ _ _ => (de_call (ok_includes T B) hg (hr.mono (by decide)) rfl T.g_includes T.F_includes.kp (bn_includes T) (da_cons (de_var (pv 3)) (da_cons (de_var (pv 2)) da_nil)))) (fun _ => rfl)) da_nil)) (fun _ => rfl))))) (fun _ _ _ _ _ => (de_var (pv 2))) (fun _ => rfl)) da_nil)))))
def b_least : MS := (seqM (asgD [] 1 (ssM (vD 0)))
  (retM [] (callM tupleG (consA (lcM [2] (seqI (vD 1)) (setN 2) (notT (tst (callM anyG (consA (lcM [3] (seqI (vD 1)) (setN 3) (tst (op2 neG (vD 3) (vD 2))) (appM 2 m_includes (consA (vD 2) (consA (vD 3) nilA)))) nilA)))) (vD 2)) nilA))))
def m_least : MF := fnM 4 b_least
theorem ok_least {P : Program} {w : World} {K : PySem.W.Frag} {mg : Str → Option Value} {base : Heap} {t : TopD} (T : Top K mg t) (B : Bas base mg t) : FnG P w K mg base CX0 2 t.a_least t.d_least ["lots"] (spF K "at" "left" "drawn" t.T 1 m_least) :=
  fn_D (N := N_least) (mb := b_least) (n := 1) (k := 1) (ps := ["lots"]) (st := s_least) T.F_least S_least rfl fun fa ca ex cdv A outer s H E hcv hg hr =>
    show DSs _ ⟨fa, ca, "at", "left", "drawn", t.T, ex⟩ _ b_least from
      (dss_cons (ds_setD (i := 1) [] (de_ss rfl (r65 hr) rfl (T.z_sorted) rfl (T.z_set) (de_var (pv 0))) S_least.nd rfl (.inr rfl) rfl (.inl rfl))
      (dss_one (ds_ret [] (de_callT cg_tuple rfl (T.z_tuple) bt_tuple (da_cons (de_lc (own := [("lot", 2)]) rfl S_least.nd (di_seq (de_var (pv 1))) (blkOk_by (N := N_least) (sc := defScope s_least) (by decide +kernel)) (by decide) (hg_name fun _ _ _ _ _ => pg_name (i := 2) S_least.nd rfl (by first | exact .inl rfl | exact .inr rfl)) (fun _ _ _ _ _ => (dts_one (dt_not (dt_val (de_callB (cg_any rfl) rfl (T.z_any) bt_any (da_cons (de_lc (own := [("other", 3)]) rfl S_least.nd (di_seq (de_var (pv 1))) (by show BlkOk N_least (relS _ (defScope s_least)) _ _; exact blkOk_by (by decide +kernel)) (by decide) (hg_name fun _ _ _ _ _ => pg_name (i := 3) S_least.nd rfl (by first | exact .inl rfl | exact .inr rfl)) (fun _ _ _ _ _ => (dts_one (dt_cmp (og_ne (r64 hr)) (de_var (pv 3)) (de_var (pv 2)) rfl))) (fun _ _ _ _ _ => (de_call (ok_includes T B) hg (hr.mono (by decide)) rfl T.g_includes T.F_includes.kp (bn_includes T) (da_cons (de_var (pv 2)) (da_cons (de_var (pv 3)) da_nil)))) (fun _ => rfl)) da_nil)) (fun _ => rfl))))) (fun _ _ _ _ _ => (de_var (pv 2))) (fun _ => rfl)) da_nil)))))
def b_with_one_of : MS := (seqM (ifS [] (tst (op2 neG (appM 2 m_common (consA (vD 0) (consA (vD 1) nilA))) (tupM nilA))) (retM [] (lstM (consA (vD 0) nilA))) nxM)
  (retM [] (lcM [2] (seqI (vD 1)) (setN 2) yesT (callM tupleG (consA (callM srt3G (consA (op2 addG (vD 0) (tupM (consA (vD 2) nilA))) nilA)) nilA)))))
def m_with_one_of : MF := fnM 3 b_with_one_of
theorem ok_with_one_of {P : Program} {w : World} {K : PySem.W.Frag} {mg : Str → Option Value} {base : Heap} {t : TopD} (T : Top K mg t) (B : Bas base mg t) : FnG P w K mg base CX0 2 t.a_with_one_of t.d_with_one_of ["kernel", "quorum"] (spF K "at" "left" "drawn" t.T 2 m_with_one_of) :=
  fn_D (N := N_with_one_of) (mb := b_with_one_of) (n := 2) (k := 1) (ps := ["kernel", "quorum"]) (st := s_with_one_of) T.F_with_one_of S_with_one_of rfl fun fa ca ex cdv A outer s H E hcv hg hr =>
    show DSs _ ⟨fa, ca, "at", "left", "drawn", t.T, ex⟩ _ b_with_one_of from
      (dss_cons (ds_if [] (dt_cmp (og_ne (r64 hr)) (de_call (ok_common T B) hg (hr.mono (by decide)) rfl T.g_common T.F_common.kp (bn_common T) (da_cons (de_var (pv 0)) (da_cons (de_var (pv 1)) da_nil))) (de_tup da_nil) rfl) (dss_one (ds_ret [] (de_lst (da_cons (de_var (pv 0)) da_nil)))) dss_nil)
      (dss_one (ds_ret [] (de_lc (own := [("house", 2)]) rfl S_with_one_of.nd (di_seq (de_var (pv 1))) (blkOk_by (N := N_with_one_of) (sc := defScope s_with_one_of) (by decide +kernel)) (by decide) (hg_name fun _ _ _ _ _ => pg_name (i := 2) S_with_one_of.nd rfl (by first | exact .inl rfl | exact .inr rfl)) (fun _ _ _ _ _ => dts_nil) (fun _ _ _ _ _ => (de_callT cg_tuple rfl (T.z_tuple) bt_tuple (da_cons (de_callB (cg_srt3 (r65 hr)) rfl (T.z_sorted) bt_sorted (da_cons (de_op og_add (de_var (pv 0)) (de_tup (da_cons (de_var (pv 2)) da_nil))) da_nil)) da_nil))) (fun _ => rfl)))))
def b_meets_each : MS := (retM [] (callM allG (consA (lcM [2] (seqI (vD 1)) (setN 2) yesT (op2 neG (appM 2 m_common (consA (vD 0) (consA (vD 2) nilA))) (tupM nilA))) nilA)))
def m_meets_each : MF := fnM 3 b_meets_each
theorem ok_meets_each {P : Program} {w : World} {K : PySem.W.Frag} {mg : Str → Option Value} {base : Heap} {t : TopD} (T : Top K mg t) (B : Bas base mg t) : FnG P w K mg base CX0 2 t.a_meets_each t.d_meets_each ["lot", "family"] (spF K "at" "left" "drawn" t.T 2 m_meets_each) :=
  fn_D (N := N_meets_each) (mb := b_meets_each) (n := 2) (k := 1) (ps := ["lot", "family"]) (st := s_meets_each) T.F_meets_each S_meets_each rfl fun fa ca ex cdv A outer s H E hcv hg hr =>
    show DSs _ ⟨fa, ca, "at", "left", "drawn", t.T, ex⟩ _ b_meets_each from
      (dss_one (ds_ret [] (de_callB (cg_all rfl) rfl (T.z_all) bt_all (da_cons (de_lc (own := [("quorum", 2)]) rfl S_meets_each.nd (di_seq (de_var (pv 1))) (blkOk_by (N := N_meets_each) (sc := defScope s_meets_each) (by decide +kernel)) (by decide) (hg_name fun _ _ _ _ _ => pg_name (i := 2) S_meets_each.nd rfl (by first | exact .inl rfl | exact .inr rfl)) (fun _ _ _ _ _ => dts_nil) (fun _ _ _ _ _ => (de_cmp (og_ne (r64 hr)) (de_call (ok_common T B) hg (hr.mono (by decide)) rfl T.g_common T.F_common.kp (bn_common T) (da_cons (de_var (pv 0)) (da_cons (de_var (pv 2)) da_nil))) (de_tup da_nil) rfl)) (fun _ => rfl)) da_nil))))
def b_is_name_set : MS := (seqM (ifS [] (notT (tst (isiM "tuple" (vD 0)))) (retM [] (cD (.bool false))) nxM)
  (retM [] (andM (callM allG (consA (lcM [1] (seqI (vD 0)) (setN 1) yesT (appM 1 m_is_name (consA (vD 1) nilA))) nilA)) (appM 1 m_ascend (consA (vD 0) nilA)))))
def m_is_name_set : MF := fnM 2 b_is_name_set
theorem ok_is_name_set {P : Program} {w : World} {K : PySem.W.Frag} {mg : Str → Option Value} {base : Heap} {t : TopD} (T : Top K mg t) (B : Bas base mg t) : FnG P w K mg base CX0 2 t.a_is_name_set t.d_is_name_set ["thing"] (spF K "at" "left" "drawn" t.T 1 m_is_name_set) :=
  fn_D (N := N_is_name_set) (mb := b_is_name_set) (n := 1) (k := 1) (ps := ["thing"]) (st := s_is_name_set) T.F_is_name_set S_is_name_set rfl fun fa ca ex cdv A outer s H E hcv hg hr =>
    show DSs _ ⟨fa, ca, "at", "left", "drawn", t.T, ex⟩ _ b_is_name_set from
      (dss_cons (ds_if [] (dt_not (dt_val (de_isi (T := "tuple") (by unfold tyOk; simp) (de_var (pv 0)) (pe_bltn rfl (T.z_tuple) bt_tuple rfl) rfl (T.z_isinstance)) (fun _ => rfl))) (dss_one (ds_ret [] de_bl)) dss_nil)
      (dss_one (ds_ret [] (de_and (de_callB (cg_all rfl) rfl (T.z_all) bt_all (da_cons (de_lc (own := [("name", 1)]) rfl S_is_name_set.nd (di_seq (de_var (pv 0))) (blkOk_by (N := N_is_name_set) (sc := defScope s_is_name_set) (by decide +kernel)) (by decide) (hg_name fun _ _ _ _ _ => pg_name (i := 1) S_is_name_set.nd rfl (by first | exact .inl rfl | exact .inr rfl)) (fun _ _ _ _ _ => dts_nil) (fun _ _ _ _ _ => (de_call (ok_is_name T B) hg (hr.mono (by decide)) rfl T.g_is_name T.F_is_name.kp (bn_is_name T) (da_cons (de_var (pv 1)) da_nil))) (fun _ => rfl)) da_nil)) (de_one (de_call (ok_ascend T B) hg (hr.mono (by decide)) rfl T.g_ascend T.F_ascend.kp (bn_ascend T) (da_cons (de_var (pv 0)) da_nil)))))))
end V23
set_option maxHeartbeats 4000000
namespace V23
open PySem PySem.Spec PyProof.Rows L2 VI
def b_w_pick : MS := (retM [] (op2 ixG (vD 1) (appM 2 m_w_draw (consA (vD 0) (consA (callM lenG (consA (vD 1) nilA)) nilA)))))
def m_w_pick : MF := fnM 2 b_w_pick
theorem ok_w_pick {P : Program} {w : World} {K : PySem.W.Frag} {mg : Str → Option Value} {base : Heap} {t : TopD} (T : Top K mg t) (B : Bas base mg t) : FnG P w K mg base CX0 2 t.a_w_pick t.d_w_pick ["_law_feed_here", "_law_some"] (spF K "at" "left" "drawn" t.T 2 m_w_pick) :=
  fn_D (N := N_w_pick) (mb := b_w_pick) (n := 2) (k := 1) (ps := ["_law_feed_here", "_law_some"]) (st := s_w_pick) T.F_w_pick S_w_pick rfl fun fa ca ex cdv A outer s H E hcv hg hr =>
    show DSs _ ⟨fa, ca, "at", "left", "drawn", t.T, ex⟩ _ b_w_pick from
      (dss_one (ds_ret [] (de_ix (de_var (pv 1)) (de_call (ok_w_draw T B) hg (hr.mono (by decide)) rfl T.g_w_draw T.F_w_draw.kp (bn_w_draw T) (da_cons (de_var (pv 0)) (da_cons (de_callB cg_len rfl (T.z_len) bt_len (da_cons (de_var (pv 1)) da_nil)) da_nil))) (fun _ _ => rfl))))
def b_w_greatest : MS := (seqM (asgD [] 1 (ssM (callM listG (consA (vD 0) nilA))))
  (retM [] (callM tupleG (consA (lcM [2] (seqI (vD 1)) (setN 2) (tst (op2 eqG (lcM [3] (seqI (vD 1)) (setN 3) (andT (tst (op2 neG (vD 3) (vD 2))) (tst (appM 2 m_w_lies (consA (vD 2) (consA (vD 3) nilA))))) (vD 3)) (lstM nilA))) (vD 2)) nilA))))
def m_w_greatest : MF := fnM 4 b_w_greatest
theorem ok_w_greatest {P : Program} {w : World} {K : PySem.W.Frag} {mg : Str → Option Value} {base : Heap} {t : TopD} (T : Top K mg t) (B : Bas base mg t) : FnG P w K mg base CX0 2 t.a_w_greatest t.d_w_greatest ["_law_groups"] (spF K "at" "left" "drawn" t.T 1 m_w_greatest) :=
  fn_D (N := N_w_greatest) (mb := b_w_greatest) (n := 1) (k := 1) (ps := ["_law_groups"]) (st := s_w_greatest) T.F_w_greatest S_w_greatest rfl fun fa ca ex cdv A outer s H E hcv hg hr =>
    show DSs _ ⟨fa, ca, "at", "left", "drawn", t.T, ex⟩ _ b_w_greatest from
      (dss_cons (ds_setD (i := 1) [] (de_ss rfl (r65 hr) rfl (T.z_sorted) rfl (T.z_set) (de_callT (cg_list rfl) rfl (T.z_list) bt_list (da_cons (de_var (pv 0)) da_nil))) S_w_greatest.nd rfl (.inr rfl) rfl (.inl rfl))
      (dss_one (ds_ret [] (de_callT cg_tuple rfl (T.z_tuple) bt_tuple (da_cons (de_lc (own := [("_law_one", 2)]) rfl S_w_greatest.nd (di_seq (de_var (pv 1))) (blkOk_by (N := N_w_greatest) (sc := defScope s_w_greatest) (by decide +kernel)) (by decide) (hg_name fun _ _ _ _ _ => pg_name (i := 2) S_w_greatest.nd rfl (by first | exact .inl rfl | exact .inr rfl)) (fun _ _ _ _ _ => (dts_one (dt_cmp (og_eq (r64 hr)) (de_lc (own := [("_law_far", 3)]) rfl S_w_greatest.nd (di_seq (de_var (pv 1))) (by show BlkOk N_w_greatest (relS _ (defScope s_w_greatest)) _ _; exact blkOk_by (by decide +kernel)) (by decide) (hg_name fun _ _ _ _ _ => pg_name (i := 3) S_w_greatest.nd rfl (by first | exact .inl rfl | exact .inr rfl)) (fun _ _ _ _ _ => (dts_one (dt_w (dw_and (dt_cmp (og_ne (r64 hr)) (de_var (pv 3)) (de_var (pv 2)) rfl) (dw_and1 (dt_val (de_call (ok_w_lies T B) hg (hr.mono (by decide)) rfl T.g_w_lies T.F_w_lies.kp (bn_w_lies T) (da_cons (de_var (pv 2)) (da_cons (de_var (pv 3)) da_nil))) (fun _ => rfl))))))) (fun _ _ _ _ _ => (de_var (pv 3))) (fun _ => rfl)) (de_lst da_nil) rfl))) (fun _ _ _ _ _ => (de_var (pv 2))) (fun _ => rfl)) da_nil)))))
def b_w_least : MS := (seqM (asgD [] 1 (ssM (callM listG (consA (vD 0) nilA))))
  (retM [] (callM tupleG (consA (lcM [2] (seqI (vD 1)) (setN 2) (tst (op2 eqG (lcM [3] (seqI (vD 1)) (setN 3) (andT (tst (op2 neG (vD 3) (vD 2))) (tst (appM 2 m_w_lies (consA (vD 3) (consA (vD 2) nilA))))) (vD 3)) (lstM nilA))) (vD 2)) nilA))))
def m_w_least : MF := fnM 4 b_w_least
theorem ok_w_least {P : Program} {w : World} {K : PySem.W.Frag} {mg : Str → Option Value} {base : Heap} {t : TopD} (T : Top K mg t) (B : Bas base mg t) : FnG P w K mg base CX0 2 t.a_w_least t.d_w_least ["_law_groups"] (spF K "at" "left" "drawn" t.T 1 m_w_least) :=
  fn_D (N := N_w_least) (mb := b_w_least) (n := 1) (k := 1) (ps := ["_law_groups"]) (st := s_w_least) T.F_w_least S_w_least rfl fun fa ca ex cdv A outer s H E hcv hg hr =>
    show DSs _ ⟨fa, ca, "at", "left", "drawn", t.T, ex⟩ _ b_w_least from
      (dss_cons (ds_setD (i := 1) [] (de_ss rfl (r65 hr) rfl (T.z_sorted) rfl (T.z_set) (de_callT (cg_list rfl) rfl (T.z_list) bt_list (da_cons (de_var (pv 0)) da_nil))) S_w_least.nd rfl (.inr rfl) rfl (.inl rfl))
      (dss_one (ds_ret [] (de_callT cg_tuple rfl (T.z_tuple) bt_tuple (da_cons (de_lc (own := [("_law_one", 2)]) rfl S_w_least.nd (di_seq (de_var (pv 1))) (blkOk_by (N := N_w_least) (sc := defScope s_w_least) (by decide +kernel)) (by decide) (hg_name fun _ _ _ _ _ => pg_name (i := 2) S_w_least.nd rfl (by first | exact .inl rfl | exact .inr rfl)) (fun _ _ _ _ _ => (dts_one (dt_cmp (og_eq (r64 hr)) (de_lc (own := [("_law_far", 3)]) rfl S_w_least.nd (di_seq (de_var (pv 1))) (by show BlkOk N_w_least (relS _ (defScope s_w_least)) _ _; exact blkOk_by (by decide +kernel)) (by decide) (hg_name fun _ _ _ _ _ => pg_name (i := 3) S_w_least.nd rfl (by first | exact .inl rfl | exact .inr rfl)) (fun _ _ _ _ _ => (dts_one (dt_w (dw_and (dt_cmp (og_ne (r64 hr)) (de_var (pv 3)) (de_var (pv 2)) rfl) (dw_and1 (dt_val (de_call (ok_w_lies T B) hg (hr.mono (by decide)) rfl T.g_w_lies T.F_w_lies.kp (bn_w_lies T) (da_cons (de_var (pv 3)) (da_cons (de_var (pv 2)) da_nil))) (fun _ => rfl))))))) (fun _ _ _ _ _ => (de_var (pv 3))) (fun _ => rfl)) (de_lst da_nil) rfl))) (fun _ _ _ _ _ => (de_var (pv 2))) (fun _ => rfl)) da_nil)))))
def b_w_part : MS := (retM [] (callM tupleG (consA (lcM [3] (seqI (vD 1)) (setN 3) (tst (op2 eqG (appM 2 m_w_draw (consA (vD 0) (consA (vD 2) nilA))) (cD (.int 0)))) (vD 3)) nilA)))
def m_w_part : MF := fnM 4 b_w_part
theorem ok_w_part {P : Program} {w : World} {K : PySem.W.Frag} {mg : Str → Option Value} {base : Heap} {t : TopD} (T : Top K mg t) (B : Bas base mg t) : FnG P w K mg base CX0 2 t.a_w_part t.d_w_part ["_law_feed_here", "_law_names", "_law_share"] (spF K "at" "left" "drawn" t.T 3 m_w_part) :=
  fn_D (N := N_w_part) (mb := b_w_part) (n := 3) (k := 1) (ps := ["_law_feed_here", "_law_names", "_law_share"]) (st := s_w_part) T.F_w_part S_w_part rfl fun fa ca ex cdv A outer s H E hcv hg hr =>
    show DSs _ ⟨fa, ca, "at", "left", "drawn", t.T, ex⟩ _ b_w_part from
      (dss_one (ds_ret [] (de_callT cg_tuple rfl (T.z_tuple) bt_tuple (da_cons (de_lc (own := [("_law_one", 3)]) rfl S_w_part.nd (di_seq (de_var (pv 1))) (blkOk_by (N := N_w_part) (sc := defScope s_w_part) (by decide +kernel)) (by decide) (hg_name fun _ _ _ _ _ => pg_name (i := 3) S_w_part.nd rfl (by first | exact .inl rfl | exact .inr rfl)) (fun _ _ _ _ _ => (dts_one (dt_cmp (og_eq (r64 hr)) (de_call (ok_w_draw T B) hg (hr.mono (by decide)) rfl T.g_w_draw T.F_w_draw.kp (bn_w_draw T) (da_cons (de_var (pv 0)) (da_cons (de_var (pv 2)) da_nil))) de_int rfl))) (fun _ _ _ _ _ => (de_var (pv 3))) (fun _ => rfl)) da_nil))))
def b_w_plain : MS := (seqM (asgM [] 1 (lstM nilA))
  (seqM (forM [] (seqI (op2 ixG (vD 0) (cD (.int 1)))) (setNS 2) (appendM [] 1 (callM tupleG (consA (ssM (lcM [4] (seqI (vD 2)) (setN 4) yesT (appM 2 m_w_others (consA (op2 ixG (vD 0) (cD (.int 0))) (consA (vD 4) nilA))))) nilA))))
  (retM [1] (ifM (tst (op2 neG (lcM [3] (seqI (vD 1)) (setN 3) (tst (op2 (inG false) (tupM nilA) (vD 3))) (vD 3)) (lstM nilA))) (cD .none) (callM tupleG (consA (vD 1) nilA))))))
def m_w_plain : MF := fnM 5 b_w_plain
theorem ok_w_plain {P : Program} {w : World} {K : PySem.W.Frag} {mg : Str → Option Value} {base : Heap} {t : TopD} (T : Top K mg t) (B : Bas base mg t) : FnG P w K mg base CX0 2 t.a_w_plain t.d_w_plain ["_law_web"] (spF K "at" "left" "drawn" t.T 1 m_w_plain) :=
  fn_D (N := N_w_plain) (mb := b_w_plain) (n := 1) (k := 1) (ps := ["_law_web"]) (st := s_w_plain) T.F_w_plain S_w_plain rfl fun fa ca ex cdv A outer s H E hcv hg hr =>
    show DSs _ ⟨fa, ca, "at", "left", "drawn", t.T, ex⟩ _ b_w_plain from
      (dss_cons (ds_set (i := 1) [] (de_lst da_nil) S_w_plain.nd rfl (.inl rfl) rfl (.inr rfl))
      (dss_cons (ds_for [] PassesOwn.never rfl (di_seq (de_ix (de_var (pv 0)) de_int (fun _ _ => rfl))) (dgs_name (pg_name (i := 2) S_w_plain.nd rfl (by first | exact .inl rfl | exact .inr rfl))) (dss_one (ds_append [] (pv 1) (de_callT cg_tuple rfl (T.z_tuple) bt_tuple (da_cons (de_ss rfl (r65 hr) rfl (T.z_sorted) rfl (T.z_set) (de_lc (own := [("_law_group", 4)]) rfl S_w_plain.nd (di_seq (de_var (pv 2))) (blkOk_by (N := N_w_plain) (sc := defScope s_w_plain) (by decide +kernel)) (by decide) (hg_name fun _ _ _ _ _ => pg_name (i := 4) S_w_plain.nd rfl (by first | exact .inl rfl | exact .inr rfl)) (fun _ _ _ _ _ => dts_nil) (fun _ _ _ _ _ => (de_call (ok_w_others T B) hg (hr.mono (by decide)) rfl T.g_w_others T.F_w_others.kp (bn_w_others T) (da_cons (de_ix (de_var (pv 0)) de_int (fun _ _ => rfl)) (da_cons (de_var (pv 4)) da_nil)))) (fun _ => rfl))) da_nil)))) (fun _ => rfl))
      (dss_one (ds_ret [1] (de_if (dt_cmp (og_ne (r64 hr)) (de_lc (own := [("_law_one", 3)]) rfl S_w_plain.nd (di_seq (de_var (pv 1))) (blkOk_by (N := N_w_plain) (sc := defScope s_w_plain) (by decide +kernel)) (by decide) (hg_name fun _ _ _ _ _ => pg_name (i := 3) S_w_plain.nd rfl (by first | exact .inl rfl | exact .inr rfl)) (fun _ _ _ _ _ => (dts_one (dt_cmp (og_in (r65 hr)) (de_tup da_nil) (de_var (pv 3)) rfl))) (fun _ _ _ _ _ => (de_var (pv 3))) (fun _ => rfl)) (de_lst da_nil) rfl) de_non (de_callT cg_tuple rfl (T.z_tuple) bt_tuple (da_cons (de_var (pv 1)) da_nil)))))))
end V23
set_option maxHeartbeats 4000000
namespace V23
open PySem PySem.Spec PyProof.Rows L2 VI
def b_w_kernels : MS := (seqM (asgM [] 2 (lstM nilA))
  (seqM (forM [] (seqI (appM 1 m_w_subsets (consA (vD 0) nilA))) (setNS 3) (ifS [2] (tst (op2 eqG (lcM [4] (seqI (vD 2)) (setN 4) (tst (appM 2 m_w_lies (consA (vD 4) (consA (vD 3) nilA)))) (vD 4)) (lstM nilA))) (ifS [] (tst (op2 eqG (lcM [5] (seqI (vD 1)) (setN 5) (tst (op2 eqG (appM 2 m_w_common (consA (vD 5) (consA (vD 3) nilA))) (tupM nilA))) (vD 5)) (lstM nilA))) (appendM [] 2 (vD 3)) nxM) nxM))
  (retM [2] (callM tupleG (consA (ssM (vD 2)) nilA)))))
def m_w_kernels : MF := fnM 6 b_w_kernels
theorem ok_w_kernels {P : Program} {w : World} {K : PySem.W.Frag} {mg : Str → Option Value} {base : Heap} {t : TopD} (T : Top K mg t) (B : Bas base mg t) : FnG P w K mg base CX0 2 t.a_w_kernels t.d_w_kernels ["_law_houses", "_law_family"] (spF K "at" "left" "drawn" t.T 2 m_w_kernels) :=
  fn_D (N := N_w_kernels) (mb := b_w_kernels) (n := 2) (k := 1) (ps := ["_law_houses", "_law_family"]) (st := s_w_kernels) T.F_w_kernels S_w_kernels rfl fun fa ca ex cdv A outer s H E hcv hg hr =>
    show DSs _ ⟨fa, ca, "at", "left", "drawn", t.T, ex⟩ _ b_w_kernels from
      (dss_cons (ds_set (i := 2) [] (de_lst da_nil) S_w_kernels.nd rfl (.inl rfl) rfl (.inr rfl))
      (dss_cons (ds_for [] PassesOwn.never rfl (di_seq (de_call (ok_w_subsets T B) hg (hr.mono (by decide)) rfl T.g_w_subsets T.F_w_subsets.kp (bn_w_subsets T) (da_cons (de_var (pv 0)) da_nil))) (dgs_name (pg_name (i := 3) S_w_kernels.nd rfl (by first | exact .inl rfl | exact .inr rfl))) (dss_one (ds_if [2] (dt_cmp (og_eq (r64 hr)) (de_lc (own := [("_law_one", 4)]) rfl S_w_kernels.nd (di_seq (de_var (pv 2))) (blkOk_by (N := N_w_kernels) (sc := defScope s_w_kernels) (by decide +kernel)) (by decide) (hg_name fun _ _ _ _ _ => pg_name (i := 4) S_w_kernels.nd rfl (by first | exact .inl rfl | exact .inr rfl)) (fun _ _ _ _ _ => (dts_one (dt_val (de_call (ok_w_lies T B) hg (hr.mono (by decide)) rfl T.g_w_lies T.F_w_lies.kp (bn_w_lies T) (da_cons (de_var (pv 4)) (da_cons (de_var (pv 3)) da_nil))) (fun _ => rfl)))) (fun _ _ _ _ _ => (de_var (pv 4))) (fun _ => rfl)) (de_lst da_nil) rfl) (dss_one (ds_if [] (dt_cmp (og_eq (r64 hr)) (de_lc (own := [("_law_pack", 5)]) rfl S_w_kernels.nd (di_seq (de_var (pv 1))) (blkOk_by (N := N_w_kernels) (sc := defScope s_w_kernels) (by decide +kernel)) (by decide) (hg_name fun _ _ _ _ _ => pg_name (i := 5) S_w_kernels.nd rfl (by first | exact .inl rfl | exact .inr rfl)) (fun _ _ _ _ _ => (dts_one (dt_cmp (og_eq (r64 hr)) (de_call (ok_w_common T B) hg (hr.mono (by decide)) rfl T.g_w_common T.F_w_common.kp (bn_w_common T) (da_cons (de_var (pv 5)) (da_cons (de_var (pv 3)) da_nil))) (de_tup da_nil) rfl))) (fun _ _ _ _ _ => (de_var (pv 5))) (fun _ => rfl)) (de_lst da_nil) rfl) (dss_one (ds_append [] (pv 2) (de_var (pv 3)))) dss_nil)) dss_nil)) (fun _ => rfl))
      (dss_one (ds_ret [2] (de_callT cg_tuple rfl (T.z_tuple) bt_tuple (da_cons (de_ss rfl (r65 hr) rfl (T.z_sorted) rfl (T.z_set) (de_var (pv 2))) da_nil))))))
def b_is_family_of : MS := (seqM (ifS [] (orT (notT (tst (isiM "tuple" (vD 1)))) (tst (op2 eqG (vD 1) (tupM nilA)))) (retM [] (cD (.bool false))) nxM)
  (retM [] (andM (callM allG (consA (lcM [2] (seqI (vD 1)) (setN 2) yesT (appM 2 m_is_lot_of (consA (vD 0) (consA (vD 2) nilA)))) nilA)) (op2 eqG (appM 1 m_greatest (consA (vD 1) nilA)) (vD 1)))))
def m_is_family_of : MF := fnM 3 b_is_family_of
theorem ok_is_family_of {P : Program} {w : World} {K : PySem.W.Frag} {mg : Str → Option Value} {base : Heap} {t : TopD} (T : Top K mg t) (B : Bas base mg t) : FnG P w K mg base CX0 3 t.a_is_family_of t.d_is_family_of ["houses", "thing"] (spF K "at" "left" "drawn" t.T 2 m_is_family_of) :=
  fn_D (N := N_is_family_of) (mb := b_is_family_of) (n := 2) (k := 2) (ps := ["houses", "thing"]) (st := s_is_family_of) T.F_is_family_of S_is_family_of rfl fun fa ca ex cdv A outer s H E hcv hg hr =>
    show DSs _ ⟨fa, ca, "at", "left", "drawn", t.T, ex⟩ _ b_is_family_of from
      (dss_cons (ds_if [] (dt_w (dw_or (dt_not (dt_val (de_isi (T := "tuple") (by unfold tyOk; simp) (de_var (pv 1)) (pe_bltn rfl (T.z_tuple) bt_tuple rfl) rfl (T.z_isinstance)) (fun _ => rfl))) (dw_or1 (dt_cmp (og_eq (r64 hr)) (de_var (pv 1)) (de_tup da_nil) rfl)))) (dss_one (ds_ret [] de_bl)) dss_nil)
      (dss_one (ds_ret [] (de_and (de_callB (cg_all rfl) rfl (T.z_all) bt_all (da_cons (de_lc (own := [("lot", 2)]) rfl S_is_family_of.nd (di_seq (de_var (pv 1))) (blkOk_by (N := N_is_family_of) (sc := defScope s_is_family_of) (by decide +kernel)) (by decide) (hg_name fun _ _ _ _ _ => pg_name (i := 2) S_is_family_of.nd rfl (by first | exact .inl rfl | exact .inr rfl)) (fun _ _ _ _ _ => dts_nil) (fun _ _ _ _ _ => (de_call (ok_is_lot_of T B) hg (hr.mono (by decide)) rfl T.g_is_lot_of T.F_is_lot_of.kp (bn_is_lot_of T) (da_cons (de_var (pv 0)) (da_cons (de_var (pv 2)) da_nil)))) (fun _ => rfl)) da_nil)) (de_one (de_cmp (og_eq (r64 hr)) (de_call (ok_greatest T B) hg (hr.mono (by decide)) rfl T.g_greatest T.F_greatest.kp (bn_greatest T) (da_cons (de_var (pv 1)) da_nil)) (de_var (pv 1)) rfl))))))
def b_least_kernels : MS := (seqM (asgD [] 1 (tupM (consA (tupM nilA) nilA)))
  (seqM (forM [] (seqI (vD 0)) (setNS 2) (asgD [] 1 (appM 1 m_least (consA (lcM2 [3, 4] [4] (seqI (vD 1)) (setN 3) yesT (seqI (appM 2 m_with_one_of (consA (vD 3) (consA (vD 2) nilA)))) (setN 4) yesT (vD 4)) nilA))))
  (retV 1)))
def m_least_kernels : MF := fnM 5 b_least_kernels
theorem ok_least_kernels {P : Program} {w : World} {K : PySem.W.Frag} {mg : Str → Option Value} {base : Heap} {t : TopD} (T : Top K mg t) (B : Bas base mg t) : FnG P w K mg base CX0 3 t.a_least_kernels t.d_least_kernels ["family"] (spF K "at" "left" "drawn" t.T 1 m_least_kernels) :=
  fn_D (N := N_least_kernels) (mb := b_least_kernels) (n := 1) (k := 2) (ps := ["family"]) (st := s_least_kernels) T.F_least_kernels S_least_kernels rfl fun fa ca ex cdv A outer s H E hcv hg hr =>
    show DSs _ ⟨fa, ca, "at", "left", "drawn", t.T, ex⟩ _ b_least_kernels from
      (dss_cons (ds_setD (i := 1) [] (de_tup (da_cons (de_tup da_nil) da_nil)) S_least_kernels.nd rfl (.inl rfl) rfl (.inr rfl))
      (dss_cons (ds_for [] PassesOwn.never rfl (di_seq (de_var (pv 0))) (dgs_name (pg_name (i := 2) S_least_kernels.nd rfl (by first | exact .inl rfl | exact .inr rfl))) (dss_one (ds_setD (i := 1) [] (de_call (ok_least T B) hg (hr.mono (by decide)) rfl T.g_least T.F_least.kp (bn_least T) (da_cons (de_lc2 (own := [("kernel", 3), ("lot", 4)]) rfl S_least_kernels.nd (di_seq (de_var (pv 1))) (blkOk_by (N := N_least_kernels) (sc := defScope s_least_kernels) (by decide +kernel)) (by decide) (by decide) (hg_name fun _ _ _ _ _ => pg_name (i := 3) S_least_kernels.nd rfl (by first | exact .inl rfl | exact .inr rfl)) (fun _ _ _ _ _ => dts_nil) (hi_seq fun _ _ _ _ _ => (de_call (ok_with_one_of T B) hg (hr.mono (by decide)) rfl T.g_with_one_of T.F_with_one_of.kp (bn_with_one_of T) (da_cons (de_var (pv 3)) (da_cons (de_var (pv 2)) da_nil)))) (hg_name fun _ _ _ _ _ => pg_name (i := 4) S_least_kernels.nd rfl (by first | exact .inl rfl | exact .inr rfl)) (fun _ _ _ _ _ => dts_nil) (fun _ _ _ _ _ => (de_var (pv 4))) (fun _ => rfl) (fun _ _ => rfl)) da_nil)) S_least_kernels.nd rfl (.inl rfl) rfl (.inr rfl))) (fun _ => rfl))
      (dss_one (ds_retV (pv 1)))))
def b_are_houses : MS := (retM [] (andM (appM 1 m_is_name_set (consA (vD 0) nilA)) (op2 neG (vD 0) (tupM nilA))))
def m_are_houses : MF := fnM 1 b_are_houses
theorem ok_are_houses {P : Program} {w : World} {K : PySem.W.Frag} {mg : Str → Option Value} {base : Heap} {t : TopD} (T : Top K mg t) (B : Bas base mg t) : FnG P w K mg base CX0 3 t.a_are_houses t.d_are_houses ["thing"] (spF K "at" "left" "drawn" t.T 1 m_are_houses) :=
  fn_D (N := N_are_houses) (mb := b_are_houses) (n := 1) (k := 2) (ps := ["thing"]) (st := s_are_houses) T.F_are_houses S_are_houses rfl fun fa ca ex cdv A outer s H E hcv hg hr =>
    show DSs _ ⟨fa, ca, "at", "left", "drawn", t.T, ex⟩ _ b_are_houses from
      (dss_one (ds_ret [] (de_and (de_call (ok_is_name_set T B) hg (hr.mono (by decide)) rfl T.g_is_name_set T.F_is_name_set.kp (bn_is_name_set T) (da_cons (de_var (pv 0)) da_nil)) (de_one (de_cmp (og_ne (r64 hr)) (de_var (pv 0)) (de_tup da_nil) rfl)))))
def b_w_pool : MS := (seqM (asgM [] 1 (lstM (consA (lstM (consA (cD (.str "a")) (consA (cD (.str "b")) (consA (cD (.str "c")) (consA (cD (.str "d")) (consA (cD (.str "e")) (consA (cD (.str "f")) (consA (cD (.str "g")) (consA (cD (.str "h")) (consA (cD (.str "i")) nilA)))))))))) nilA)))
  (seqM (appendM [] 1 (lstM (consA (cD (.str "a")) (consA (cD (.str "aa")) (consA (cD (.str "aaa")) (consA (cD (.str "ab")) (consA (cD (.str "b")) (consA (cD (.str "ba")) (consA (cD (.str "lot")) (consA (cD (.str "zz")) (consA (cD (.str "zzzzzzzz")) nilA)))))))))))
  (seqM (appendM [] 1 (lstM (consA (cD (.str "agree")) (consA (cD (.str "fallen")) (consA (cD (.str "fell")) (consA (cD (.str "naive")) (consA (cD (.str "rest")) (consA (cD (.str "rose")) (consA (cD (.str "round")) (consA (cD (.str "wise")) (consA (cD (.str "within")) nilA)))))))))))
  (retM [1] (appM 2 m_w_pick (consA (vD 0) (consA (vD 1) nilA)))))))
def m_w_pool : MF := fnM 2 b_w_pool
theorem ok_w_pool {P : Program} {w : World} {K : PySem.W.Frag} {mg : Str → Option Value} {base : Heap} {t : TopD} (T : Top K mg t) (B : Bas base mg t) : FnG P w K mg base CX0 3 t.a_w_pool t.d_w_pool ["_law_feed_here"] (spF K "at" "left" "drawn" t.T 1 m_w_pool) :=
  fn_D (N := N_w_pool) (mb := b_w_pool) (n := 1) (k := 2) (ps := ["_law_feed_here"]) (st := s_w_pool) T.F_w_pool S_w_pool rfl fun fa ca ex cdv A outer s H E hcv hg hr =>
    show DSs _ ⟨fa, ca, "at", "left", "drawn", t.T, ex⟩ _ b_w_pool from
      (dss_cons (ds_set (i := 1) [] (de_lst (da_cons (de_lst (da_cons de_str (da_cons de_str (da_cons de_str (da_cons de_str (da_cons de_str (da_cons de_str (da_cons de_str (da_cons de_str (da_cons de_str da_nil)))))))))) da_nil)) S_w_pool.nd rfl (.inl rfl) rfl (.inr rfl))
      (dss_cons (ds_append [] (pv 1) (de_lst (da_cons de_str (da_cons de_str (da_cons de_str (da_cons de_str (da_cons de_str (da_cons de_str (da_cons de_str (da_cons de_str (da_cons de_str da_nil)))))))))))
      (dss_cons (ds_append [] (pv 1) (de_lst (da_cons de_str (da_cons de_str (da_cons de_str (da_cons de_str (da_cons de_str (da_cons de_str (da_cons de_str (da_cons de_str (da_cons de_str da_nil)))))))))))
      (dss_one (ds_ret [1] (de_call (ok_w_pick T B) hg (hr.mono (by decide)) rfl T.g_w_pick T.F_w_pick.kp (bn_w_pick T) (da_cons (de_var (pv 0)) (da_cons (de_var (pv 1)) da_nil))))))))
end V23
set_option maxHeartbeats 4000000
namespace V23
open PySem PySem.Spec PyProof.Rows L2 VI
def b_w_packs : MS := (seqM (parM [] [3, 4, 5] (consE (lstM nilA) (consD (appM 1 m_w_plain (consA (vD 1) nilA)) (consD (appM 2 m_w_draw (consA (vD 0) (consA (cD (.int 4)) nilA))) nilE))))
  (seqM (forC [] (rng1I (callM lenG (consA (op2 ixG (vD 1) (cD (.int 0))) nilA))) (setNS 2) (seqM (asgD [] 6 (lcM [7] (rng1I (op2 addG (cD (.int 1)) (appM 2 m_w_draw (consA (vD 0) (consA (cD (.int 3)) nilA))))) (setN 7) yesT (appM 3 m_w_part (consA (vD 0) (consA (op2 ixG (vD 1) (cD (.int 0))) (consA (cD (.int 2)) nilA))))))
  (seqM (asgD [] 6 (lcM [8] (seqI (vD 6)) (setN 8) yesT (ifM (tst (op2 neG (vD 8) (tupM nilA))) (vD 8) (tupM (consA (op2 ixG (op2 ixG (vD 1) (cD (.int 0))) (vD 2)) nilA)))))
  (seqM (ifS [] (andT (tst (op2 (isG true) (vD 4) (cD .none))) (orT (tst (op2 lt2G (vD 5) (cD (.int 2)))) (tst (op2 gtG (appM 2 m_w_draw (consA (vD 0) (consA (cD (.int 3)) nilA))) (cD (.int 0)))))) (seqM (asgD [] 6 (callM listG (consA (op2 ixG (vD 4) (vD 2)) nilA)))
  (ifS [] (andT (tst (op2 eqG (vD 5) (cD (.int 1)))) (tst (op2 eqG (appM 2 m_w_draw (consA (vD 0) (consA (cD (.int 3)) nilA))) (cD (.int 0))))) (asgD [] 6 (lcM [8] (seqI (vD 6)) (setN 8) yesT (appM 1 m_w_set (consA (op2 addG (vD 8) (tupM (consA (appM 2 m_w_pick (consA (vD 0) (consA (op2 ixG (vD 1) (cD (.int 0))) nilA))) nilA))) nilA)))) nxM)) nxM)
  (appendM [] 3 (appM 1 m_w_least (consA (vD 6) nilA)))))))
  (retM [3] (callM tupleG (consA (vD 3) nilA)))))
def m_w_packs : MF := fnM 9 b_w_packs
theorem ok_w_packs {P : Program} {w : World} {K : PySem.W.Frag} {mg : Str → Option Value} {base : Heap} {t : TopD} (T : Top K mg t) (B : Bas base mg t) : FnG P w K mg base CX0 3 t.a_w_packs t.d_w_packs ["_law_feed_here", "_law_web"] (spF K "at" "left" "drawn" t.T 2 m_w_packs) :=
  fn_D (N := N_w_packs) (mb := b_w_packs) (n := 2) (k := 2) (ps := ["_law_feed_here", "_law_web"]) (st := s_w_packs) T.F_w_packs S_w_packs rfl fun fa ca ex cdv A outer s H E hcv hg hr =>
    show DSs _ ⟨fa, ca, "at", "left", "drawn", t.T, ex⟩ _ b_w_packs from
      (dss_cons (ds_par3 [] rfl S_w_packs.nd rfl rfl rfl (by decide) (by decide) (by decide) rfl rfl rfl (dae_cons (de_lst da_nil) (dae_consD (de_call (ok_w_plain T B) hg (hr.mono (by decide)) rfl T.g_w_plain T.F_w_plain.kp (bn_w_plain T) (da_cons (de_var (pv 1)) da_nil)) (dae_consD (de_call (ok_w_draw T B) hg (hr.mono (by decide)) rfl T.g_w_draw T.F_w_draw.kp (bn_w_draw T) (da_cons (de_var (pv 0)) (da_cons de_int da_nil))) dae_nil rfl) rfl) rfl) rfl)
      (dss_cons (ds_forC [] PassesOwn.never rfl (dic_rng1 rfl (T.z_range) (de_callB cg_len rfl (T.z_len) bt_len (da_cons (de_ix (de_var (pv 1)) de_int (fun _ _ => rfl)) da_nil)) rfl) (dgs_name (pg_name (i := 2) S_w_packs.nd rfl (by first | exact .inl rfl | exact .inr rfl))) (dss_cons (ds_lcD (i := 6) (own := [("_law_lap", 7)]) [] rfl S_w_packs.nd rfl rfl (sw_true rfl rfl rfl (by decide +kernel)) (di_rng1 rfl (T.z_range) (de_op og_add de_int (de_call (ok_w_draw T B) hg (hr.mono (by decide)) rfl T.g_w_draw T.F_w_draw.kp (bn_w_draw T) (da_cons (de_var (pv 0)) (da_cons de_int da_nil)))) rfl) (blkOk_by (N := N_w_packs) (sc := defScope s_w_packs) (by decide +kernel)) (by decide) (hg_name fun _ _ _ _ _ => pg_name (i := 7) S_w_packs.nd rfl (by first | exact .inl rfl | exact .inr rfl)) (fun _ _ _ _ _ => dts_nil) (fun _ _ _ _ _ => (de_call (ok_w_part T B) hg (hr.mono (by decide)) rfl T.g_w_part T.F_w_part.kp (bn_w_part T) (da_cons (de_var (pv 0)) (da_cons (de_ix (de_var (pv 1)) de_int (fun _ _ => rfl)) (da_cons de_int da_nil))))) (fun _ => rfl))
      (dss_cons (ds_lcD (i := 6) (own := [("_law_one", 8)]) [] rfl S_w_packs.nd rfl rfl (sw_true rfl rfl rfl (by decide +kernel)) (di_seq (de_var (pv 6))) (blkOk_by (N := N_w_packs) (sc := defScope s_w_packs) (by decide +kernel)) (by decide) (hg_name fun _ _ _ _ _ => pg_name (i := 8) S_w_packs.nd rfl (by first | exact .inl rfl | exact .inr rfl)) (fun _ _ _ _ _ => dts_nil) (fun _ _ _ _ _ => (de_if (dt_cmp (og_ne (r64 hr)) (de_var (pv 8)) (de_tup da_nil) rfl) (de_var (pv 8)) (de_tup (da_cons (de_ix (de_ix (de_var (pv 1)) de_int (fun _ _ => rfl)) (de_var (pv 2)) (fun _ _ => rfl)) da_nil)))) (fun _ => rfl))
      (dss_cons (ds_if [] (dt_w (dw_and (dt_cmp og_isnot (de_var (pv 4)) de_non rfl) (dw_and1 (dt_w (dw_or (dt_cmp (og_lt2 (r64 hr)) (de_var (pv 5)) de_int rfl) (dw_or1 (dt_cmp og_gt (de_call (ok_w_draw T B) hg (hr.mono (by decide)) rfl T.g_w_draw T.F_w_draw.kp (bn_w_draw T) (da_cons (de_var (pv 0)) (da_cons de_int da_nil))) de_int rfl))))))) (dss_cons (ds_setD (i := 6) [] (de_callT (cg_list rfl) rfl (T.z_list) bt_list (da_cons (de_ix (de_var (pv 4)) (de_var (pv 2)) (fun _ _ => rfl)) da_nil)) S_w_packs.nd rfl (.inl rfl) rfl (.inr rfl))
      (dss_one (ds_if [] (dt_w (dw_and (dt_cmp (og_eq (r64 hr)) (de_var (pv 5)) de_int rfl) (dw_and1 (dt_cmp (og_eq (r64 hr)) (de_call (ok_w_draw T B) hg (hr.mono (by decide)) rfl T.g_w_draw T.F_w_draw.kp (bn_w_draw T) (da_cons (de_var (pv 0)) (da_cons de_int da_nil))) de_int rfl)))) (dss_one (ds_lcD (i := 6) (own := [("_law_one", 8)]) [] rfl S_w_packs.nd rfl rfl (sw_true rfl rfl rfl (by decide +kernel)) (di_seq (de_var (pv 6))) (blkOk_by (N := N_w_packs) (sc := defScope s_w_packs) (by decide +kernel)) (by decide) (hg_name fun _ _ _ _ _ => pg_name (i := 8) S_w_packs.nd rfl (by first | exact .inl rfl | exact .inr rfl)) (fun _ _ _ _ _ => dts_nil) (fun _ _ _ _ _ => (de_call (ok_w_set T B) hg (hr.mono (by decide)) rfl T.g_w_set T.F_w_set.kp (bn_w_set T) (da_cons (de_op og_add (de_var (pv 8)) (de_tup (da_cons (de_call (ok_w_pick T B) hg (hr.mono (by decide)) rfl T.g_w_pick T.F_w_pick.kp (bn_w_pick T) (da_cons (de_var (pv 0)) (da_cons (de_ix (de_var (pv 1)) de_int (fun _ _ => rfl)) da_nil))) da_nil))) da_nil))) (fun _ => rfl))) dss_nil))) dss_nil)
      (dss_one (ds_append [] (pv 3) (de_call (ok_w_least T B) hg (hr.mono (by decide)) rfl T.g_w_least T.F_w_least.kp (bn_w_least T) (da_cons (de_var (pv 6)) da_nil))))))) (fun _ => rfl))
      (dss_one (ds_ret [3] (de_callT cg_tuple rfl (T.z_tuple) bt_tuple (da_cons (de_var (pv 3)) da_nil))))))
def b_is_net : MS := (seqM (ifS [] (notT (tst (appM 2 m_is_tuple_of (consA (vD 0) (consA (cD (.int 2)) nilA))))) (retM [] (cD (.bool false))) nxM)
  (seqM (unpM [] [1, 2] (vD 0))
  (seqM (ifS [] (orT (notT (tst (appM 1 m_are_houses (consA (vD 1) nilA)))) (notT (tst (appM 2 m_is_tuple_of (consA (vD 2) (consA (callM lenG (consA (vD 1) nilA)) nilA)))))) (retM [] (cD (.bool false))) nxM)
  (retM [] (callM allG (consA (lcM [3] (seqI (vD 2)) (setN 3) yesT (appM 2 m_is_family_of (consA (vD 1) (consA (vD 3) nilA)))) nilA))))))
def m_is_net : MF := fnM 4 b_is_net
theorem ok_is_net {P : Program} {w : World} {K : PySem.W.Frag} {mg : Str → Option Value} {base : Heap} {t : TopD} (T : Top K mg t) (B : Bas base mg t) : FnG P w K mg base CX0 4 t.a_is_net t.d_is_net ["thing"] (spF K "at" "left" "drawn" t.T 1 m_is_net) :=
  fn_D (N := N_is_net) (mb := b_is_net) (n := 1) (k := 3) (ps := ["thing"]) (st := s_is_net) T.F_is_net S_is_net rfl fun fa ca ex cdv A outer s H E hcv hg hr =>
    show DSs _ ⟨fa, ca, "at", "left", "drawn", t.T, ex⟩ _ b_is_net from
      (dss_cons (ds_if [] (dt_not (dt_val (de_call (ok_is_tuple_of T B) hg (hr.mono (by decide)) rfl T.g_is_tuple_of T.F_is_tuple_of.kp (bn_is_tuple_of T) (da_cons (de_var (pv 0)) (da_cons de_int da_nil))) (fun _ => rfl))) (dss_one (ds_ret [] de_bl)) dss_nil)
      (dss_cons (ds_unp (is := [1, 2]) [] (de_var (pv 0)) (pg_tup rfl (pgs_cons (pg_name (i := 1) S_is_net.nd rfl (by first | exact .inl rfl | exact .inr rfl)) (pgs_cons (pg_name (i := 2) S_is_net.nd rfl (by first | exact .inl rfl | exact .inr rfl)) pgs_nil))) rfl rfl rfl)
      (dss_cons (ds_if [] (dt_w (dw_or (dt_not (dt_val (de_call (ok_are_houses T B) hg (hr.mono (by decide)) rfl T.g_are_houses T.F_are_houses.kp (bn_are_houses T) (da_cons (de_var (pv 1)) da_nil)) (fun _ => rfl))) (dw_or1 (dt_not (dt_val (de_call (ok_is_tuple_of T B) hg (hr.mono (by decide)) rfl T.g_is_tuple_of T.F_is_tuple_of.kp (bn_is_tuple_of T) (da_cons (de_var (pv 2)) (da_cons (de_callB cg_len rfl (T.z_len) bt_len (da_cons (de_var (pv 1)) da_nil)) da_nil))) (fun _ => rfl)))))) (dss_one (ds_ret [] de_bl)) dss_nil)
      (dss_one (ds_ret [] (de_callB (cg_all rfl) rfl (T.z_all) bt_all (da_cons (de_lc (own := [("family", 3)]) rfl S_is_net.nd (di_seq (de_var (pv 2))) (blkOk_by (N := N_is_net) (sc := defScope s_is_net) (by decide +kernel)) (by decide) (hg_name fun _ _ _ _ _ => pg_name (i := 3) S_is_net.nd rfl (by first | exact .inl rfl | exact .inr rfl)) (fun _ _ _ _ _ => dts_nil) (fun _ _ _ _ _ => (de_call (ok_is_family_of T B) hg (hr.mono (by decide)) rfl T.g_is_family_of T.F_is_family_of.kp (bn_is_family_of T) (da_cons (de_var (pv 1)) (da_cons (de_var (pv 3)) da_nil)))) (fun _ => rfl)) da_nil)))))))
def b_are_quorums_of : MS := (seqM (ifS [] (notT (tst (appM 2 m_is_tuple_of (consA (vD 1) (consA (callM lenG (consA (vD 0) nilA)) nilA))))) (retM [] (cD (.bool false))) nxM)
  (retM [] (callM allG (consA (lcM [2] (seqI (vD 1)) (setN 2) yesT (andM (appM 2 m_is_family_of (consA (vD 0) (consA (vD 2) nilA))) (op2 (inG true) (tupM nilA) (vD 2)))) nilA))))
def m_are_quorums_of : MF := fnM 3 b_are_quorums_of
theorem ok_are_quorums_of {P : Program} {w : World} {K : PySem.W.Frag} {mg : Str → Option Value} {base : Heap} {t : TopD} (T : Top K mg t) (B : Bas base mg t) : FnG P w K mg base CX0 4 t.a_are_quorums_of t.d_are_quorums_of ["houses", "thing"] (spF K "at" "left" "drawn" t.T 2 m_are_quorums_of) :=
  fn_D (N := N_are_quorums_of) (mb := b_are_quorums_of) (n := 2) (k := 3) (ps := ["houses", "thing"]) (st := s_are_quorums_of) T.F_are_quorums_of S_are_quorums_of rfl fun fa ca ex cdv A outer s H E hcv hg hr =>
    show DSs _ ⟨fa, ca, "at", "left", "drawn", t.T, ex⟩ _ b_are_quorums_of from
      (dss_cons (ds_if [] (dt_not (dt_val (de_call (ok_is_tuple_of T B) hg (hr.mono (by decide)) rfl T.g_is_tuple_of T.F_is_tuple_of.kp (bn_is_tuple_of T) (da_cons (de_var (pv 1)) (da_cons (de_callB cg_len rfl (T.z_len) bt_len (da_cons (de_var (pv 0)) da_nil)) da_nil))) (fun _ => rfl))) (dss_one (ds_ret [] de_bl)) dss_nil)
      (dss_one (ds_ret [] (de_callB (cg_all rfl) rfl (T.z_all) bt_all (da_cons (de_lc (own := [("family", 2)]) rfl S_are_quorums_of.nd (di_seq (de_var (pv 1))) (blkOk_by (N := N_are_quorums_of) (sc := defScope s_are_quorums_of) (by decide +kernel)) (by decide) (hg_name fun _ _ _ _ _ => pg_name (i := 2) S_are_quorums_of.nd rfl (by first | exact .inl rfl | exact .inr rfl)) (fun _ _ _ _ _ => dts_nil) (fun _ _ _ _ _ => (de_and (de_call (ok_is_family_of T B) hg (hr.mono (by decide)) rfl T.g_is_family_of T.F_is_family_of.kp (bn_is_family_of T) (da_cons (de_var (pv 0)) (da_cons (de_var (pv 2)) da_nil))) (de_one (de_cmp (og_notIn (r65 hr)) (de_tup da_nil) (de_var (pv 2)) rfl)))) (fun _ => rfl)) da_nil)))))
def b_w_net : MS := (seqM (asgD [] 2 (callM tupleG (consA (slxM (appM 1 m_w_pool (consA (vD 0) nilA)) noM (soM (op2 addG (cD (.int 1)) (appM 2 m_w_draw (consA (vD 0) (consA (vD 1) nilA)))))) nilA)))
  (seqM (parM [] [4, 5] (consD (appM 2 m_w_draw (consA (vD 0) (consA (cD (.int 6)) nilA))) (consE (lstM nilA) nilE)))
  (seqM (forM [] (seqI (vD 2)) (setNS 3) (seqM (asgD [] 6 (lcM [8] (seqI (vD 2)) (setN 8) (tst (op2 neG (vD 8) (vD 3))) (vD 8)))
  (seqM (asgM [] 7 (lcM [9] (rng1I (op2 addG (cD (.int 1)) (appM 2 m_w_draw (consA (vD 0) (consA (cD (.int 4)) nilA))))) (setN 9) yesT (appM 3 m_w_part (consA (vD 0) (consA (vD 6) (consA (appM 2 m_w_pick (consA (vD 0) (consA (lstM (consA (cD (.int 2)) (consA (cD (.int 3)) (consA (cD (.int 3)) nilA)))) nilA))) nilA))))))
  (seqM (ifS [] (tst (op2 eqG (vD 4) (cD (.int 0)))) (asgM [] 7 (lcM [8] (seqI (vD 2)) (setN 8) yesT (tupM (consA (vD 8) nilA)))) nxM)
  (seqM (ifS [] (andT (tst (op2 eqG (vD 4) (cD (.int 1)))) (tst (op2 eqG (appM 2 m_w_draw (consA (vD 0) (consA (cD (.int 3)) nilA))) (cD (.int 0))))) (appendM [] 7 (appM 3 m_w_part (consA (vD 0) (consA (vD 2) (consA (cD (.int 2)) nilA))))) nxM)
  (appendM [7] 5 (appM 1 m_w_greatest (consA (vD 7) nilA))))))))
  (retM [5] (tupM (consA (vD 2) (consA (callM tupleG (consA (vD 5) nilA)) nilA)))))))
def m_w_net : MF := fnM 10 b_w_net
theorem ok_w_net {P : Program} {w : World} {K : PySem.W.Frag} {mg : Str → Option Value} {base : Heap} {t : TopD} (T : Top K mg t) (B : Bas base mg t) : FnG P w K mg base CX0 4 t.a_w_net t.d_w_net ["_law_feed_here", "_law_most"] (spF K "at" "left" "drawn" t.T 2 m_w_net) :=
  fn_D (N := N_w_net) (mb := b_w_net) (n := 2) (k := 3) (ps := ["_law_feed_here", "_law_most"]) (st := s_w_net) T.F_w_net S_w_net rfl fun fa ca ex cdv A outer s H E hcv hg hr =>
    show DSs _ ⟨fa, ca, "at", "left", "drawn", t.T, ex⟩ _ b_w_net from
      (dss_cons (ds_setD (i := 2) [] (de_callT cg_tuple rfl (T.z_tuple) bt_tuple (da_cons (de_slx (de_call (ok_w_pool T B) hg (hr.mono (by decide)) rfl T.g_w_pool T.F_w_pool.kp (bn_w_pool T) (da_cons (de_var (pv 0)) da_nil)) do_none (do_some (de_op og_add de_int (de_call (ok_w_draw T B) hg (hr.mono (by decide)) rfl T.g_w_draw T.F_w_draw.kp (bn_w_draw T) (da_cons (de_var (pv 0)) (da_cons (de_var (pv 1)) da_nil)))))) da_nil)) S_w_net.nd rfl (.inl rfl) rfl (.inr rfl))
      (dss_cons (ds_par2 [] rfl S_w_net.nd rfl rfl (by decide) rfl rfl (dae_consD (de_call (ok_w_draw T B) hg (hr.mono (by decide)) rfl T.g_w_draw T.F_w_draw.kp (bn_w_draw T) (da_cons (de_var (pv 0)) (da_cons de_int da_nil))) (dae_cons (de_lst da_nil) dae_nil rfl) rfl) rfl)
      (dss_cons (ds_for [] PassesOwn.never rfl (di_seq (de_var (pv 2))) (dgs_name (pg_name (i := 3) S_w_net.nd rfl (by first | exact .inl rfl | exact .inr rfl))) (dss_cons (ds_setD (i := 6) [] (de_lc (own := [("_law_one", 8)]) rfl S_w_net.nd (di_seq (de_var (pv 2))) (blkOk_by (N := N_w_net) (sc := defScope s_w_net) (by decide +kernel)) (by decide) (hg_name fun _ _ _ _ _ => pg_name (i := 8) S_w_net.nd rfl (by first | exact .inl rfl | exact .inr rfl)) (fun _ _ _ _ _ => (dts_one (dt_cmp (og_ne (r64 hr)) (de_var (pv 8)) (de_var (pv 3)) rfl))) (fun _ _ _ _ _ => (de_var (pv 8))) (fun _ => rfl)) S_w_net.nd rfl (.inr rfl) rfl (.inl rfl))
      (dss_cons (ds_lcO (i := 7) (own := [("_law_lap", 9)]) [] rfl S_w_net.nd rfl rfl (sw_true rfl rfl rfl (by decide +kernel)) (di_rng1 rfl (T.z_range) (de_op og_add de_int (de_call (ok_w_draw T B) hg (hr.mono (by decide)) rfl T.g_w_draw T.F_w_draw.kp (bn_w_draw T) (da_cons (de_var (pv 0)) (da_cons de_int da_nil)))) rfl) (blkOk_by (N := N_w_net) (sc := defScope s_w_net) (by decide +kernel)) (by decide) (hg_name fun _ _ _ _ _ => pg_name (i := 9) S_w_net.nd rfl (by first | exact .inl rfl | exact .inr rfl)) (fun _ _ _ _ _ => dts_nil) (fun _ _ _ _ _ => (de_call (ok_w_part T B) hg (hr.mono (by decide)) rfl T.g_w_part T.F_w_part.kp (bn_w_part T) (da_cons (de_var (pv 0)) (da_cons (de_var (pv 6)) (da_cons (de_call (ok_w_pick T B) hg (hr.mono (by decide)) rfl T.g_w_pick T.F_w_pick.kp (bn_w_pick T) (da_cons (de_var (pv 0)) (da_cons (de_lst (da_cons de_int (da_cons de_int (da_cons de_int da_nil)))) da_nil))) da_nil))))) (fun _ => rfl))
      (dss_cons (ds_if [] (dt_cmp (og_eq (r64 hr)) (de_var (pv 4)) de_int rfl) (dss_one (ds_lcO (i := 7) (own := [("_law_one", 8)]) [] rfl S_w_net.nd rfl rfl (sw_true rfl rfl rfl (by decide +kernel)) (di_seq (de_var (pv 2))) (blkOk_by (N := N_w_net) (sc := defScope s_w_net) (by decide +kernel)) (by decide) (hg_name fun _ _ _ _ _ => pg_name (i := 8) S_w_net.nd rfl (by first | exact .inl rfl | exact .inr rfl)) (fun _ _ _ _ _ => dts_nil) (fun _ _ _ _ _ => (de_tup (da_cons (de_var (pv 8)) da_nil))) (fun _ => rfl))) dss_nil)
      (dss_cons (ds_if [] (dt_w (dw_and (dt_cmp (og_eq (r64 hr)) (de_var (pv 4)) de_int rfl) (dw_and1 (dt_cmp (og_eq (r64 hr)) (de_call (ok_w_draw T B) hg (hr.mono (by decide)) rfl T.g_w_draw T.F_w_draw.kp (bn_w_draw T) (da_cons (de_var (pv 0)) (da_cons de_int da_nil))) de_int rfl)))) (dss_one (ds_append [] (pv 7) (de_call (ok_w_part T B) hg (hr.mono (by decide)) rfl T.g_w_part T.F_w_part.kp (bn_w_part T) (da_cons (de_var (pv 0)) (da_cons (de_var (pv 2)) (da_cons de_int da_nil)))))) dss_nil)
      (dss_one (ds_append [7] (pv 5) (de_call (ok_w_greatest T B) hg (hr.mono (by decide)) rfl T.g_w_greatest T.F_w_greatest.kp (bn_w_greatest T) (da_cons (de_var (pv 7)) da_nil)))))))) (fun _ => rfl))
      (dss_one (ds_ret [5] (de_tup (da_cons (de_var (pv 2)) (da_cons (de_callT cg_tuple rfl (T.z_tuple) bt_tuple (da_cons (de_var (pv 5)) da_nil)) da_nil))))))))
def b_need_quorums : MS := (seqM (dropM [] (appM 2 m_need (consA (appM 1 m_is_net (consA (vD 0) nilA)) (consA (cD (.str "net")) nilA))))
  (dropM [] (appM 2 m_need (consA (appM 2 m_are_quorums_of (consA (op2 ixG (vD 0) (cD (.int 0))) (consA (vD 1) nilA))) (consA (cD (.str "quorums")) nilA)))))
def m_need_quorums : MF := fnM 2 b_need_quorums
theorem ok_need_quorums {P : Program} {w : World} {K : PySem.W.Frag} {mg : Str → Option Value} {base : Heap} {t : TopD} (T : Top K mg t) (B : Bas base mg t) : FnG P w K mg base CX0 5 t.a_need_quorums t.d_need_quorums ["net", "quorums"] (spF K "at" "left" "drawn" t.T 2 m_need_quorums) :=
  fn_D (N := N_need_quorums) (mb := b_need_quorums) (n := 2) (k := 4) (ps := ["net", "quorums"]) (st := s_need_quorums) T.F_need_quorums S_need_quorums rfl fun fa ca ex cdv A outer s H E hcv hg hr =>
    show DSs _ ⟨fa, ca, "at", "left", "drawn", t.T, ex⟩ _ b_need_quorums from
      (dss_cons (ds_drop [] (de_call (ok_need T B) hg (hr.mono (by decide)) rfl T.g_need T.F_need.kp (bn_need T) (da_cons (de_call (ok_is_net T B) hg (hr.mono (by decide)) rfl T.g_is_net T.F_is_net.kp (bn_is_net T) (da_cons (de_var (pv 0)) da_nil)) (da_cons de_str da_nil))) rfl)
      (dss_one (ds_drop [] (de_call (ok_need T B) hg (hr.mono (by decide)) rfl T.g_need T.F_need.kp (bn_need T) (da_cons (de_call (ok_are_quorums_of T B) hg (hr.mono (by decide)) rfl T.g_are_quorums_of T.F_are_quorums_of.kp (bn_are_quorums_of T) (da_cons (de_ix (de_var (pv 0)) de_int (fun _ _ => rfl)) (da_cons (de_var (pv 1)) da_nil))) (da_cons de_str da_nil))) rfl)))
end V23
set_option maxHeartbeats 4000000
namespace V23
open PySem PySem.Spec PyProof.Rows L2 VI
def b_kernels_of : MS := (seqM (dropM [] (appM 2 m_need_quorums (consA (vD 0) (consA (vD 1) nilA))))
  (seqM (dropM [] (appM 2 m_need (consA (op2 (inG false) (vD 2) (op2 ixG (vD 0) (cD (.int 0)))) (consA (cD (.str "house")) nilA))))
  (retM [] (appM 1 m_least_kernels (consA (appM 2 m_family_of (consA (tupM (consA (op2 ixG (vD 0) (cD (.int 0))) (consA (vD 1) nilA))) (consA (vD 2) nilA))) nilA)))))
def m_kernels_of : MF := fnM 3 b_kernels_of
theorem ok_kernels_of {P : Program} {w : World} {K : PySem.W.Frag} {mg : Str → Option Value} {base : Heap} {t : TopD} (T : Top K mg t) (B : Bas base mg t) : FnG P w K mg base CX0 6 t.a_kernels_of t.d_kernels_of ["net", "quorums", "house"] (spF K "at" "left" "drawn" t.T 3 m_kernels_of) :=
  fn_D (N := N_kernels_of) (mb := b_kernels_of) (n := 3) (k := 5) (ps := ["net", "quorums", "house"]) (st := s_kernels_of) T.F_kernels_of S_kernels_of rfl fun fa ca ex cdv A outer s H E hcv hg hr =>
    show DSs _ ⟨fa, ca, "at", "left", "drawn", t.T, ex⟩ _ b_kernels_of from
      (dss_cons (ds_drop [] (de_call (ok_need_quorums T B) hg (hr.mono (by decide)) rfl T.g_need_quorums T.F_need_quorums.kp (bn_need_quorums T) (da_cons (de_var (pv 0)) (da_cons (de_var (pv 1)) da_nil))) rfl)
      (dss_cons (ds_drop [] (de_call (ok_need T B) hg (hr.mono (by decide)) rfl T.g_need T.F_need.kp (bn_need T) (da_cons (de_cmp (og_in (r65 hr)) (de_var (pv 2)) (de_ix (de_var (pv 0)) de_int (fun _ _ => rfl)) rfl) (da_cons de_str da_nil))) rfl)
      (dss_one (ds_ret [] (de_call (ok_least_kernels T B) hg (hr.mono (by decide)) rfl T.g_least_kernels T.F_least_kernels.kp (bn_least_kernels T) (da_cons (de_call (ok_family_of T B) hg (hr.mono (by decide)) rfl T.g_family_of T.F_family_of.kp (bn_family_of T) (da_cons (de_tup (da_cons (de_ix (de_var (pv 0)) de_int (fun _ _ => rfl)) (da_cons (de_var (pv 1)) da_nil))) (da_cons (de_var (pv 2)) da_nil))) da_nil))))))
def b_is_kernel : MS := (seqM (dropM [] (appM 2 m_need_quorums (consA (vD 0) (consA (vD 1) nilA))))
  (seqM (dropM [] (appM 2 m_need (consA (op2 (inG false) (vD 2) (op2 ixG (vD 0) (cD (.int 0)))) (consA (cD (.str "house")) nilA))))
  (seqM (dropM [] (appM 2 m_need (consA (appM 2 m_is_lot_of (consA (op2 ixG (vD 0) (cD (.int 0))) (consA (vD 3) nilA))) (consA (cD (.str "lot")) nilA))))
  (seqM (asgD [] 4 (appM 2 m_family_of (consA (tupM (consA (op2 ixG (vD 0) (cD (.int 0))) (consA (vD 1) nilA))) (consA (vD 2) nilA))))
  (retM [] (andM (appM 2 m_meets_each (consA (vD 3) (consA (vD 4) nilA))) (notM (callM anyG (consA (lcM [5] (seqI (vD 3)) (setN 5) yesT (appM 2 m_meets_each (consA (appM 2 m_without (consA (vD 3) (consA (tupM (consA (vD 5) nilA)) nilA))) (consA (vD 4) nilA)))) nilA)))))))))
def m_is_kernel : MF := fnM 6 b_is_kernel
theorem ok_is_kernel {P : Program} {w : World} {K : PySem.W.Frag} {mg : Str → Option Value} {base : Heap} {t : TopD} (T : Top K mg t) (B : Bas base mg t) : FnG P w K mg base CX0 6 t.a_is_kernel t.d_is_kernel ["net", "quorums", "house", "lot"] (spF K "at" "left" "drawn" t.T 4 m_is_kernel) :=
  fn_D (N := N_is_kernel) (mb := b_is_kernel) (n := 4) (k := 5) (ps := ["net", "quorums", "house", "lot"]) (st := s_is_kernel) T.F_is_kernel S_is_kernel rfl fun fa ca ex cdv A outer s H E hcv hg hr =>
    show DSs _ ⟨fa, ca, "at", "left", "drawn", t.T, ex⟩ _ b_is_kernel from
      (dss_cons (ds_drop [] (de_call (ok_need_quorums T B) hg (hr.mono (by decide)) rfl T.g_need_quorums T.F_need_quorums.kp (bn_need_quorums T) (da_cons (de_var (pv 0)) (da_cons (de_var (pv 1)) da_nil))) rfl)
      (dss_cons (ds_drop [] (de_call (ok_need T B) hg (hr.mono (by decide)) rfl T.g_need T.F_need.kp (bn_need T) (da_cons (de_cmp (og_in (r65 hr)) (de_var (pv 2)) (de_ix (de_var (pv 0)) de_int (fun _ _ => rfl)) rfl) (da_cons de_str da_nil))) rfl)
      (dss_cons (ds_drop [] (de_call (ok_need T B) hg (hr.mono (by decide)) rfl T.g_need T.F_need.kp (bn_need T) (da_cons (de_call (ok_is_lot_of T B) hg (hr.mono (by decide)) rfl T.g_is_lot_of T.F_is_lot_of.kp (bn_is_lot_of T) (da_cons (de_ix (de_var (pv 0)) de_int (fun _ _ => rfl)) (da_cons (de_var (pv 3)) da_nil))) (da_cons de_str da_nil))) rfl)
      (dss_cons (ds_setD (i := 4) [] (de_call (ok_family_of T B) hg (hr.mono (by decide)) rfl T.g_family_of T.F_family_of.kp (bn_family_of T) (da_cons (de_tup (da_cons (de_ix (de_var (pv 0)) de_int (fun _ _ => rfl)) (da_cons (de_var (pv 1)) da_nil))) (da_cons (de_var (pv 2)) da_nil))) S_is_kernel.nd rfl (.inr rfl) rfl (.inl rfl))
      (dss_one (ds_ret [] (de_and (de_call (ok_meets_each T B) hg (hr.mono (by decide)) rfl T.g_meets_each T.F_meets_each.kp (bn_meets_each T) (da_cons (de_var (pv 3)) (da_cons (de_var (pv 4)) da_nil))) (de_one (de_not (de_callB (cg_any rfl) rfl (T.z_any) bt_any (da_cons (de_lc (own := [("name", 5)]) rfl S_is_kernel.nd (di_seq (de_var (pv 3))) (blkOk_by (N := N_is_kernel) (sc := defScope s_is_kernel) (by decide +kernel)) (by decide) (hg_name fun _ _ _ _ _ => pg_name (i := 5) S_is_kernel.nd rfl (by first | exact .inl rfl | exact .inr rfl)) (fun _ _ _ _ _ => dts_nil) (fun _ _ _ _ _ => (de_call (ok_meets_each T B) hg (hr.mono (by decide)) rfl T.g_meets_each T.F_meets_each.kp (bn_meets_each T) (da_cons (de_call (ok_without T B) hg (hr.mono (by decide)) rfl T.g_without T.F_without.kp (bn_without T) (da_cons (de_var (pv 3)) (da_cons (de_tup (da_cons (de_var (pv 5)) da_nil)) da_nil))) (da_cons (de_var (pv 4)) da_nil)))) (fun _ => rfl)) da_nil)))))))))))
def b_w_is_even : MS := (seqM (asgD [] 3 (appM 2 m_w_kernels (consA (op2 ixG (vD 0) (cD (.int 0))) (consA (op2 ixG (vD 1) (vD 2)) nilA))))
  (seqM (asgD [] 4 (appM 3 m_kernels_of (consA (vD 0) (consA (vD 1) (consA (op2 ixG (op2 ixG (vD 0) (cD (.int 0))) (vD 2)) nilA)))))
  (seqM (ifS [] (tst (op2 neG (callM reprG (consA (vD 4) nilA)) (callM reprG (consA (vD 3) nilA)))) (retM [] (cD (.bool false))) nxM)
  (seqM (forM [] (seqI (appM 1 m_w_subsets (consA (op2 ixG (vD 0) (cD (.int 0))) nilA))) (setNS 5) (seqM (ifS [] (tst (op2 neG (callM reprG (consA (appM 4 m_is_kernel (consA (vD 0) (consA (vD 1) (consA (op2 ixG (op2 ixG (vD 0) (cD (.int 0))) (vD 2)) (consA (vD 5) nilA))))) nilA)) (callM reprG (consA (op2 (inG false) (vD 5) (vD 3)) nilA)))) (retM [] (cD (.bool false))) nxM)
  (seqM (asgD [] 6 (op2 eqG (lcM [8] (seqI (op2 ixG (vD 1) (vD 2))) (setN 8) (tst (op2 eqG (appM 2 m_w_common (consA (vD 8) (consA (vD 5) nilA))) (tupM nilA))) (vD 8)) (lstM nilA)))
  (seqM (ifS [] (tst (op2 neG (vD 6) (op2 neG (lcM [9] (seqI (vD 4)) (setN 9) (tst (appM 2 m_w_lies (consA (vD 9) (consA (vD 5) nilA)))) (vD 9)) (lstM nilA)))) (retM [] (cD (.bool false))) nxM)
  (seqM (asgD [] 7 (op2 neG (lcM [8] (seqI (op2 ixG (vD 1) (vD 2))) (setN 8) (tst (appM 2 m_w_lies (consA (vD 8) (consA (vD 5) nilA)))) (vD 8)) (lstM nilA)))
  (ifS [] (tst (op2 neG (vD 7) (op2 eqG (lcM [9] (seqI (vD 4)) (setN 9) (tst (op2 eqG (appM 2 m_w_common (consA (vD 9) (consA (vD 5) nilA))) (tupM nilA))) (vD 9)) (lstM nilA)))) (retM [] (cD (.bool false))) nxM))))))
  (retM [] (cD (.bool true)))))))
def m_w_is_even : MF := fnM 10 b_w_is_even
theorem ok_w_is_even {P : Program} {w : World} {K : PySem.W.Frag} {mg : Str → Option Value} {base : Heap} {t : TopD} (T : Top K mg t) (B : Bas base mg t) : FnG P w K mg base CX0 7 t.a_w_is_even t.d_w_is_even ["_law_web", "_law_packs_here", "_law_k"] (spF K "at" "left" "drawn" t.T 3 m_w_is_even) :=
  fn_D (N := N_w_is_even) (mb := b_w_is_even) (n := 3) (k := 6) (ps := ["_law_web", "_law_packs_here", "_law_k"]) (st := s_w_is_even) T.F_w_is_even S_w_is_even rfl fun fa ca ex cdv A outer s H E hcv hg hr =>
    show DSs _ ⟨fa, ca, "at", "left", "drawn", t.T, ex⟩ _ b_w_is_even from
      (dss_cons (ds_setD (i := 3) [] (de_call (ok_w_kernels T B) hg (hr.mono (by decide)) rfl T.g_w_kernels T.F_w_kernels.kp (bn_w_kernels T) (da_cons (de_ix (de_var (pv 0)) de_int (fun _ _ => rfl)) (da_cons (de_ix (de_var (pv 1)) (de_var (pv 2)) (fun _ _ => rfl)) da_nil))) S_w_is_even.nd rfl (.inl rfl) rfl (.inr rfl))
      (dss_cons (ds_setD (i := 4) [] (de_call (ok_kernels_of T B) hg (hr.mono (by decide)) rfl T.g_kernels_of T.F_kernels_of.kp (bn_kernels_of T) (da_cons (de_var (pv 0)) (da_cons (de_var (pv 1)) (da_cons (de_ix (de_ix (de_var (pv 0)) de_int (fun _ _ => rfl)) (de_var (pv 2)) (fun _ _ => rfl)) da_nil)))) S_w_is_even.nd rfl (.inl rfl) rfl (.inr rfl))
      (dss_cons (ds_if [] (dt_cmp (og_ne (r64 hr)) (de_callB (cg_repr hg (r66 hr)) rfl (T.z_repr) bt_repr (da_cons (de_var (pv 4)) da_nil)) (de_callB (cg_repr hg (r66 hr)) rfl (T.z_repr) bt_repr (da_cons (de_var (pv 3)) da_nil)) rfl) (dss_one (ds_ret [] de_bl)) dss_nil)
      (dss_cons (ds_for [] PassesOwn.never rfl (di_seq (de_call (ok_w_subsets T B) hg (hr.mono (by decide)) rfl T.g_w_subsets T.F_w_subsets.kp (bn_w_subsets T) (da_cons (de_ix (de_var (pv 0)) de_int (fun _ _ => rfl)) da_nil))) (dgs_name (pg_name (i := 5) S_w_is_even.nd rfl (by first | exact .inl rfl | exact .inr rfl))) (dss_cons (ds_if [] (dt_cmp (og_ne (r64 hr)) (de_callB (cg_repr hg (r66 hr)) rfl (T.z_repr) bt_repr (da_cons (de_call (ok_is_kernel T B) hg (hr.mono (by decide)) rfl T.g_is_kernel T.F_is_kernel.kp (bn_is_kernel T) (da_cons (de_var (pv 0)) (da_cons (de_var (pv 1)) (da_cons (de_ix (de_ix (de_var (pv 0)) de_int (fun _ _ => rfl)) (de_var (pv 2)) (fun _ _ => rfl)) (da_cons (de_var (pv 5)) da_nil))))) da_nil)) (de_callB (cg_repr hg (r66 hr)) rfl (T.z_repr) bt_repr (da_cons (de_cmp (og_in (r65 hr)) (de_var (pv 5)) (de_var (pv 3)) rfl) da_nil)) rfl) (dss_one (ds_ret [] de_bl)) dss_nil)
      (dss_cons (ds_setD (i := 6) [] (de_cmp (og_eq (r64 hr)) (de_lc (own := [("_law_pack", 8)]) rfl S_w_is_even.nd (di_seq (de_ix (de_var (pv 1)) (de_var (pv 2)) (fun _ _ => rfl))) (blkOk_by (N := N_w_is_even) (sc := defScope s_w_is_even) (by decide +kernel)) (by decide) (hg_name fun _ _ _ _ _ => pg_name (i := 8) S_w_is_even.nd rfl (by first | exact .inl rfl | exact .inr rfl)) (fun _ _ _ _ _ => (dts_one (dt_cmp (og_eq (r64 hr)) (de_call (ok_w_common T B) hg (hr.mono (by decide)) rfl T.g_w_common T.F_w_common.kp (bn_w_common T) (da_cons (de_var (pv 8)) (da_cons (de_var (pv 5)) da_nil))) (de_tup da_nil) rfl))) (fun _ _ _ _ _ => (de_var (pv 8))) (fun _ => rfl)) (de_lst da_nil) rfl) S_w_is_even.nd rfl (.inl rfl) rfl (.inr rfl))
      (dss_cons (ds_if [] (dt_cmp (og_ne (r64 hr)) (de_var (pv 6)) (de_cmp (og_ne (r64 hr)) (de_lc (own := [("_law_one", 9)]) rfl S_w_is_even.nd (di_seq (de_var (pv 4))) (blkOk_by (N := N_w_is_even) (sc := defScope s_w_is_even) (by decide +kernel)) (by decide) (hg_name fun _ _ _ _ _ => pg_name (i := 9) S_w_is_even.nd rfl (by first | exact .inl rfl | exact .inr rfl)) (fun _ _ _ _ _ => (dts_one (dt_val (de_call (ok_w_lies T B) hg (hr.mono (by decide)) rfl T.g_w_lies T.F_w_lies.kp (bn_w_lies T) (da_cons (de_var (pv 9)) (da_cons (de_var (pv 5)) da_nil))) (fun _ => rfl)))) (fun _ _ _ _ _ => (de_var (pv 9))) (fun _ => rfl)) (de_lst da_nil) rfl) rfl) (dss_one (ds_ret [] de_bl)) dss_nil)
      (dss_cons (ds_setD (i := 7) [] (de_cmp (og_ne (r64 hr)) (de_lc (own := [("_law_pack", 8)]) rfl S_w_is_even.nd (di_seq (de_ix (de_var (pv 1)) (de_var (pv 2)) (fun _ _ => rfl))) (blkOk_by (N := N_w_is_even) (sc := defScope s_w_is_even) (by decide +kernel)) (by decide) (hg_name fun _ _ _ _ _ => pg_name (i := 8) S_w_is_even.nd rfl (by first | exact .inl rfl | exact .inr rfl)) (fun _ _ _ _ _ => (dts_one (dt_val (de_call (ok_w_lies T B) hg (hr.mono (by decide)) rfl T.g_w_lies T.F_w_lies.kp (bn_w_lies T) (da_cons (de_var (pv 8)) (da_cons (de_var (pv 5)) da_nil))) (fun _ => rfl)))) (fun _ _ _ _ _ => (de_var (pv 8))) (fun _ => rfl)) (de_lst da_nil) rfl) S_w_is_even.nd rfl (.inl rfl) rfl (.inr rfl))
      (dss_one (ds_if [] (dt_cmp (og_ne (r64 hr)) (de_var (pv 7)) (de_cmp (og_eq (r64 hr)) (de_lc (own := [("_law_one", 9)]) rfl S_w_is_even.nd (di_seq (de_var (pv 4))) (blkOk_by (N := N_w_is_even) (sc := defScope s_w_is_even) (by decide +kernel)) (by decide) (hg_name fun _ _ _ _ _ => pg_name (i := 9) S_w_is_even.nd rfl (by first | exact .inl rfl | exact .inr rfl)) (fun _ _ _ _ _ => (dts_one (dt_cmp (og_eq (r64 hr)) (de_call (ok_w_common T B) hg (hr.mono (by decide)) rfl T.g_w_common T.F_w_common.kp (bn_w_common T) (da_cons (de_var (pv 9)) (da_cons (de_var (pv 5)) da_nil))) (de_tup da_nil) rfl))) (fun _ _ _ _ _ => (de_var (pv 9))) (fun _ => rfl)) (de_lst da_nil) rfl) rfl) (dss_one (ds_ret [] de_bl)) dss_nil)))))) (fun _ => rfl))
      (dss_one (ds_ret [] de_bl))))))
end V23
set_option maxHeartbeats 4000000
namespace V23
open PySem PySem.Spec PyProof.Rows L2 VI
def b_law : MS := (seqM (forC [] (rng1I (cD (.int 3))) (setNS 2) (seqM (asgD [] 3 (appM 2 m_w_net (consA (vD 1) (consA (cD (.int 5)) nilA))))
  (seqM (asgD [] 4 (appM 2 m_w_packs (consA (vD 1) (consA (vD 3) nilA))))
  (seqM (asgD [] 5 (callM reprG (consA (lstM (consA (vD 3) (consA (vD 4) nilA))) nilA)))
  (seqM (ifS [] (tst (op2 neG (lcM [7] (rng1I (callM lenG (consA (op2 ixG (vD 3) (cD (.int 0))) nilA))) (setN 7) (notT (tst (appM 3 m_w_is_even (consA (vD 3) (consA (vD 4) (consA (vD 7) nilA)))))) (vD 7)) (lstM nilA))) (retM [] (cD (.bool false))) nxM)
  (seqM (ifS [] (tst (op2 neG (callM reprG (consA (lstM (consA (vD 3) (consA (vD 4) nilA))) nilA)) (vD 5))) (retM [] (cD (.bool false))) nxM)
  (seqM (asgD [] 6 (callM tupleG (consA (lcM [8] (seqI (vD 4)) (setN 8) yesT (appM 2 m_w_kernels (consA (op2 ixG (vD 3) (cD (.int 0))) (consA (vD 8) nilA)))) nilA)))
  (forC [] (rng1I (callM lenG (consA (op2 ixG (vD 3) (cD (.int 0))) nilA))) (setNS 7) (ifS [] (tst (op2 neG (callM reprG (consA (appM 3 m_kernels_of (consA (vD 3) (consA (vD 6) (consA (op2 ixG (op2 ixG (vD 3) (cD (.int 0))) (vD 7)) nilA)))) nilA)) (callM reprG (consA (op2 ixG (vD 4) (vD 7)) nilA)))) (retM [] (cD (.bool false))) nxM)))))))))
  (retM [] (cD (.bool true))))
theorem ok_lawrest {P : Program} {w : World} {K : PySem.W.Frag} {mg : Str → Option Value} {base : Heap} {t : TopD} (T : Top K mg t) (B : Bas base mg t) (fa ca : Addr) (cdv : Value) (A : Around) (outer : List Env) (s : Shared) (H : Hp) (E : XK) (hcv : t.d_law.code = cdv) (hg : A.guards = some []) (hr : Room 7 (A.deeper (envOfC "law" (defScope s_law) s.heap.objs.size t.a_law cdv))) :
    DSs (cxOf CX0 P w K mg base N_law "law" (defScope s_law) t.a_law cdv A outer s H E).nox ⟨fa, ca, "at", "left", "drawn", t.T, none⟩ (defBody s_law).tail b_law :=
      (dss_cons (ds_forC [] PassesOwn.never rfl (dic_rng1 rfl (T.z_range) de_int rfl) (dgs_name (pg_name (i := 2) S_law.nd rfl (by first | exact .inl rfl | exact .inr rfl))) (dss_cons (ds_setD (i := 3) [] (de_call (ok_w_net T B) hg (hr.mono (by decide)) rfl T.g_w_net T.F_w_net.kp (bn_w_net T) (da_cons (de_var (pv 1)) (da_cons de_int da_nil))) S_law.nd rfl (.inr rfl) rfl (.inl rfl))
      (dss_cons (ds_setD (i := 4) [] (de_call (ok_w_packs T B) hg (hr.mono (by decide)) rfl T.g_w_packs T.F_w_packs.kp (bn_w_packs T) (da_cons (de_var (pv 1)) (da_cons (de_var (pv 3)) da_nil))) S_law.nd rfl (.inr rfl) rfl (.inl rfl))
      (dss_cons (ds_setD (i := 5) [] (de_callB (cg_repr hg (r66 hr)) rfl (T.z_repr) bt_repr (da_cons (de_lst (da_cons (de_var (pv 3)) (da_cons (de_var (pv 4)) da_nil))) da_nil)) S_law.nd rfl (.inl rfl) rfl (.inr rfl))
      (dss_cons (ds_if [] (dt_cmp (og_ne (r64 hr)) (de_lc (own := [("_law_k", 7)]) rfl S_law.nd (di_rng1 rfl (T.z_range) (de_callB cg_len rfl (T.z_len) bt_len (da_cons (de_ix (de_var (pv 3)) de_int (fun _ _ => rfl)) da_nil)) rfl) (blkOk_by (N := N_law) (sc := defScope s_law) (by decide +kernel)) (by decide) (hg_name fun _ _ _ _ _ => pg_name (i := 7) S_law.nd rfl (by first | exact .inl rfl | exact .inr rfl)) (fun _ _ _ _ _ => (dts_one (dt_not (dt_val (de_call (ok_w_is_even T B) hg (hr.mono (by decide)) rfl T.g_w_is_even T.F_w_is_even.kp (bn_w_is_even T) (da_cons (de_var (pv 3)) (da_cons (de_var (pv 4)) (da_cons (de_var (pv 7)) da_nil)))) (fun _ => rfl))))) (fun _ _ _ _ _ => (de_var (pv 7))) (fun _ => rfl)) (de_lst da_nil) rfl) (dss_one (ds_ret [] de_bl)) dss_nil)
      (dss_cons (ds_if [] (dt_cmp (og_ne (r64 hr)) (de_callB (cg_repr hg (r66 hr)) rfl (T.z_repr) bt_repr (da_cons (de_lst (da_cons (de_var (pv 3)) (da_cons (de_var (pv 4)) da_nil))) da_nil)) (de_var (pv 5)) rfl) (dss_one (ds_ret [] de_bl)) dss_nil)
      (dss_cons (ds_setD (i := 6) [] (de_callT cg_tuple rfl (T.z_tuple) bt_tuple (da_cons (de_lc (own := [("_law_family", 8)]) rfl S_law.nd (di_seq (de_var (pv 4))) (blkOk_by (N := N_law) (sc := defScope s_law) (by decide +kernel)) (by decide) (hg_name fun _ _ _ _ _ => pg_name (i := 8) S_law.nd rfl (by first | exact .inl rfl | exact .inr rfl)) (fun _ _ _ _ _ => dts_nil) (fun _ _ _ _ _ => (de_call (ok_w_kernels T B) hg (hr.mono (by decide)) rfl T.g_w_kernels T.F_w_kernels.kp (bn_w_kernels T) (da_cons (de_ix (de_var (pv 3)) de_int (fun _ _ => rfl)) (da_cons (de_var (pv 8)) da_nil)))) (fun _ => rfl)) da_nil)) S_law.nd rfl (.inl rfl) rfl (.inr rfl))
      (dss_one (ds_forC [] PassesOwn.never rfl (dic_rng1 rfl (T.z_range) (de_callB cg_len rfl (T.z_len) bt_len (da_cons (de_ix (de_var (pv 3)) de_int (fun _ _ => rfl)) da_nil)) rfl) (dgs_name (pg_name (i := 7) S_law.nd rfl (by first | exact .inl rfl | exact .inr rfl))) (dss_one (ds_if [] (dt_cmp (og_ne (r64 hr)) (de_callB (cg_repr hg (r66 hr)) rfl (T.z_repr) bt_repr (da_cons (de_call (ok_kernels_of T B) hg (hr.mono (by decide)) rfl T.g_kernels_of T.F_kernels_of.kp (bn_kernels_of T) (da_cons (de_var (pv 3)) (da_cons (de_var (pv 6)) (da_cons (de_ix (de_ix (de_var (pv 3)) de_int (fun _ _ => rfl)) (de_var (pv 7)) (fun _ _ => rfl)) da_nil)))) da_nil)) (de_callB (cg_repr hg (r66 hr)) rfl (T.z_repr) bt_repr (da_cons (de_ix (de_var (pv 4)) (de_var (pv 7)) (fun _ _ => rfl)) da_nil)) rfl) (dss_one (ds_ret [] de_bl)) dss_nil)) (fun _ => rfl))))))))) (fun _ => rfl))
      (dss_one (ds_ret [] de_bl)))
def LawTrue : Prop := ∀ ns : List Int, ns.length ≤ 63 → ∃ ρ φ, b_law (lawS 9) ⟨ns, 0, 0, 0⟩ = .ok (.ret (.dat (.bool true)), ρ, φ)
section
variable {P : Program} {w : World} {K : PySem.W.Frag} {mg : Str → Option Value} {base : Heap} {t : TopD}
theorem ok_w_feed (T : Top K mg t) : FnG P w K mg base CX0 1 t.a_w_feed t.d_w_feed ["_law_script"] (spFeed K "at" "left" "drawn" t.T) :=
  fnG_of T.F_w_feed S_w_feed (fun vs H Q E h => by obtain ⟨a, ns, rfl, _⟩ := h; rfl) fun cdv A outer s H vs Q E hcv hg hr h =>
    ⟨_, pss_one (ps_ret (pe_disp (pps_cons pe_str (pe_lc (own := [("_law_one", 1)]) rfl S_w_feed.nd (pi_list (pe_slice sl_list (pv 0) po_none (po_some pe_int))) (blkOk_by (N := N_w_feed) (sc := defScope s_w_feed) (by decide +kernel))
      (fun _ _ _ _ _ => pg_name (i := 1) S_w_feed.nd rfl (by first | exact .inl rfl | exact .inr rfl)) (fun _ _ _ _ _ => pts_nil) (fun _ _ _ _ _ => pe_callTy cr_int1 rfl T.z_int bt_int (pa_cons (pv 1) pa_nil)))
      (pps_cons pe_str pe_int (pps_cons pe_str pe_int (pps_cons pe_str pe_int pps_nil)))) rfl rfl (by decide) (by decide))), feed_run rfl ⟨by decide, by decide, by decide, by decide, by decide, by decide⟩ h⟩
theorem ok_law (T : Top K mg t) (B : Bas base mg t) (ok : LawTrue) : FnG P w K mg base CX0 8 t.a_law t.d_law ["_law_script"] (spLaw K t.T) :=
  fn_law T.F_law S_law (by decide) rfl (fun cdv A outer s H E hcv hg hr => ps_imp (ps_set (i := 1) S_law.nd rfl (by first | exact .inl rfl | exact .inr rfl) (pe_callG (ok_w_feed T) hg (hr.mono (by decide)) rfl T.g_w_feed T.F_w_feed.kp (bn_w_feed T) pass0 (pa_cons (pv 0) pa_nil))) fun D σ H z => z)
    (fun fa ca cdv A outer s H E hcv hg hr => ok_lawrest T B fa ca cdv A outer s H E hcv hg hr) ok
end
-- HEAD
def fn0 : List He.DefD := [⟨("ascend", none), "ascend", "ascend", defArgs s_ascend, defBody s_ascend, defScope s_ascend, [], []⟩,
  ⟨("includes", none), "includes", "includes", defArgs s_includes, defBody s_includes, defScope s_includes, [], []⟩,
  ⟨("common", none), "common", "common", defArgs s_common, defBody s_common, defScope s_common, [], []⟩,
  ⟨("without", none), "without", "without", defArgs s_without, defBody s_without, defScope s_without, [], []⟩,
  ⟨("family_of", none), "family_of", "family_of", defArgs s_family_of, defBody s_family_of, defScope s_family_of, [], []⟩,
  ⟨("need", none), "need", "need", defArgs s_need, defBody s_need, defScope s_need, [], []⟩,
  ⟨("is_name", none), "is_name", "is_name", defArgs s_is_name, defBody s_is_name, defScope s_is_name, [], []⟩,
  ⟨("is_tuple_of", none), "is_tuple_of", "is_tuple_of", defArgs s_is_tuple_of, defBody s_is_tuple_of, defScope s_is_tuple_of, [], []⟩,
  ⟨("_law_feed", none), "_law_feed", "_law_feed", defArgs s_w_feed, defBody s_w_feed, defScope s_w_feed, [], []⟩,
  ⟨("_law_draw", none), "_law_draw", "_law_draw", defArgs s_w_draw, defBody s_w_draw, defScope s_w_draw, [], []⟩,
  ⟨("_law_set", none), "_law_set", "_law_set", defArgs s_w_set, defBody s_w_set, defScope s_w_set, [], []⟩,
  ⟨("_law_lies", none), "_law_lies", "_law_lies", defArgs s_w_lies, defBody s_w_lies, defScope s_w_lies, [], []⟩,
  ⟨("_law_others", none), "_law_others", "_law_others", defArgs s_w_others, defBody s_w_others, defScope s_w_others, [], []⟩,
  ⟨("_law_common", none), "_law_common", "_law_common", defArgs s_w_common, defBody s_w_common, defScope s_w_common, [], []⟩,
  ⟨("_law_subsets", none), "_law_subsets", "_law_subsets", defArgs s_w_subsets, defBody s_w_subsets, defScope s_w_subsets, [], []⟩,
  ⟨("is_lot_of", none), "is_lot_of", "is_lot_of", defArgs s_is_lot_of, defBody s_is_lot_of, defScope s_is_lot_of, [], []⟩,
  ⟨("greatest", none), "greatest", "greatest", defArgs s_greatest, defBody s_greatest, defScope s_greatest, [], []⟩,
  ⟨("least", none), "least", "least", defArgs s_least, defBody s_least, defScope s_least, [], []⟩,
  ⟨("with_one_of", none), "with_one_of", "with_one_of", defArgs s_with_one_of, defBody s_with_one_of, defScope s_with_one_of, [], []⟩,
  ⟨("meets_each", none), "meets_each", "meets_each", defArgs s_meets_each, defBody s_meets_each, defScope s_meets_each, [], []⟩,
  ⟨("is_name_set", none), "is_name_set", "is_name_set", defArgs s_is_name_set, defBody s_is_name_set, defScope s_is_name_set, [], []⟩,
  ⟨("_law_pick", none), "_law_pick", "_law_pick", defArgs s_w_pick, defBody s_w_pick, defScope s_w_pick, [], []⟩,
  ⟨("_law_greatest", none), "_law_greatest", "_law_greatest", defArgs s_w_greatest, defBody s_w_greatest, defScope s_w_greatest, [], []⟩,
  ⟨("_law_least", none), "_law_least", "_law_least", defArgs s_w_least, defBody s_w_least, defScope s_w_least, [], []⟩,
  ⟨("_law_part", none), "_law_part", "_law_part", defArgs s_w_part, defBody s_w_part, defScope s_w_part, [], []⟩,
  ⟨("_law_plain", none), "_law_plain", "_law_plain", defArgs s_w_plain, defBody s_w_plain, defScope s_w_plain, [], []⟩,
  ⟨("_law_kernels", none), "_law_kernels", "_law_kernels", defArgs s_w_kernels, defBody s_w_kernels, defScope s_w_kernels, [], []⟩,
  ⟨("is_family_of", none), "is_family_of", "is_family_of", defArgs s_is_family_of, defBody s_is_family_of, defScope s_is_family_of, [], []⟩,
  ⟨("least_kernels", none), "least_kernels", "least_kernels", defArgs s_least_kernels, defBody s_least_kernels, defScope s_least_kernels, [], []⟩,
  ⟨("are_houses", none), "are_houses", "are_houses", defArgs s_are_houses, defBody s_are_houses, defScope s_are_houses, [], []⟩,
  ⟨("_law_pool", none), "_law_pool", "_law_pool", defArgs s_w_pool, defBody s_w_pool, defScope s_w_pool, [], []⟩,
  ⟨("_law_packs", none), "_law_packs", "_law_packs", defArgs s_w_packs, defBody s_w_packs, defScope s_w_packs, [], []⟩,
  ⟨("is_net", none), "is_net", "is_net", defArgs s_is_net, defBody s_is_net, defScope s_is_net, [], []⟩,
  ⟨("are_quorums_of", none), "are_quorums_of", "are_quorums_of", defArgs s_are_quorums_of, defBody s_are_quorums_of, defScope s_are_quorums_of, [], []⟩,
  ⟨("_law_net", none), "_law_net", "_law_net", defArgs s_w_net, defBody s_w_net, defScope s_w_net, [], []⟩,
  ⟨("need_quorums", none), "need_quorums", "need_quorums", defArgs s_need_quorums, defBody s_need_quorums, defScope s_need_quorums, [], []⟩,
  ⟨("kernels_of", none), "kernels_of", "kernels_of", defArgs s_kernels_of, defBody s_kernels_of, defScope s_kernels_of, [], []⟩,
  ⟨("is_kernel", none), "is_kernel", "is_kernel", defArgs s_is_kernel, defBody s_is_kernel, defScope s_is_kernel, [], []⟩,
  ⟨("_law_is_even", none), "_law_is_even", "_law_is_even", defArgs s_w_is_even, defBody s_w_is_even, defScope s_w_is_even, [], []⟩,
  ⟨("law", none), "law", "law", defArgs s_law, defBody s_law, defScope s_law, [], []⟩]
def fa0 : List He.Fa := [.glo "ascend", .glo "includes", .glo "common", .glo "without", .glo "family_of", .glo "need", .glo "is_name", .glo "is_tuple_of", .glo "_law_feed", .glo "_law_draw", .glo "_law_set", .glo "_law_lies", .glo "_law_others", .glo "_law_common", .glo "_law_subsets", .glo "is_lot_of", .glo "greatest", .glo "least", .glo "with_one_of", .glo "meets_each", .glo "is_name_set", .glo "_law_pick", .glo "_law_greatest", .glo "_law_least", .glo "_law_part", .glo "_law_plain", .glo "_law_kernels", .glo "is_family_of", .glo "least_kernels", .glo "are_houses", .glo "_law_pool", .glo "_law_packs", .glo "is_net", .glo "are_quorums_of", .glo "_law_net", .glo "need_quorums", .glo "kernels_of", .glo "is_kernel", .glo "_law_is_even", .glo "law", .free "all", .free "any", .free "int", .free "isinstance", .free "len", .free "list", .free "range", .free "repr", .free "set", .free "sorted", .free "str", .free "tuple", .free "zip"]
def tf0 : List He.Defn := []
def ex0 (K : PySem.W.Frag) : Bool := true
abbrev hk0 : PySem.W.Hook := He.hookX 5 fa0 fn0 [] tf0 ex0
def ob0 (s : PySem.W.SharedT) : He.AlX := He.obsX 5 fa0 fn0 [] tf0 ex0 (HandSHeadRun.getT s)
theorem ob0_eq (s : PySem.W.SharedT) : ob0 s = hk0.obs s.abs := He.obsX_eq (HandSHeadRun.getT_eq s)
theorem facts {P : Program} {w : World} {K : PySem.W.Frag} {h : Heap} {mg : Str → Option Value} {fa : Addr} (ok : LawTrue) (X : K.In h) (G : h.Ns mainGlobals mg) (hfa : mg "law" = some (.ref fa)) (c : He.SaysX fa0 fn0 [] tf0 ex0 w h K) :
    ∃ (fd : FuncData) (cs : List (Addr × Addr)) (Tq : List (Addr × Str)), (∀ p ∈ cs, h.get? p.2 = some (tabO #[])) ∧ (∀ p ∈ cs, K.lookup p.2 = none) ∧ (∀ p ∈ cs, PySem.W.CodeHd h p.1 p.2) ∧ (∀ p ∈ Tq, ∃ c ∈ cs, c.2 = p.1) ∧ (∀ (s : Shared) (u : Value), BindsTo s fd ⟨[u], []⟩ [("_law_script", u)]) ∧
      ∀ base : Heap, K.In base → base.Ns mainGlobals mg → (∀ p ∈ cs, LamX.TabB base mg p.1 p.2) → FnG P w K mg base CX0 8 fa fd ["_law_script"] (spLaw K Tq) := by
  have cD := c.t.d
  obtain ⟨d_ascend, F_ascend⟩ := cD.def_ 0 rfl
  obtain ⟨d_includes, F_includes⟩ := cD.def_ 1 rfl
  obtain ⟨d_common, F_common⟩ := cD.def_ 2 rfl
  obtain ⟨d_without, F_without⟩ := cD.def_ 3 rfl
  obtain ⟨d_family_of, F_family_of⟩ := cD.def_ 4 rfl
  obtain ⟨d_need, F_need⟩ := cD.def_ 5 rfl
  obtain ⟨d_is_name, F_is_name⟩ := cD.def_ 6 rfl
  obtain ⟨d_is_tuple_of, F_is_tuple_of⟩ := cD.def_ 7 rfl
  obtain ⟨d_w_feed, F_w_feed⟩ := cD.def_ 8 rfl
  obtain ⟨d_w_draw, F_w_draw⟩ := cD.def_ 9 rfl
  obtain ⟨d_w_set, F_w_set⟩ := cD.def_ 10 rfl
  obtain ⟨d_w_lies, F_w_lies⟩ := cD.def_ 11 rfl
  obtain ⟨d_w_others, F_w_others⟩ := cD.def_ 12 rfl
  obtain ⟨d_w_common, F_w_common⟩ := cD.def_ 13 rfl
  obtain ⟨d_w_subsets, F_w_subsets⟩ := cD.def_ 14 rfl
  obtain ⟨d_is_lot_of, F_is_lot_of⟩ := cD.def_ 15 rfl
  obtain ⟨d_greatest, F_greatest⟩ := cD.def_ 16 rfl
  obtain ⟨d_least, F_least⟩ := cD.def_ 17 rfl
  obtain ⟨d_with_one_of, F_with_one_of⟩ := cD.def_ 18 rfl
  obtain ⟨d_meets_each, F_meets_each⟩ := cD.def_ 19 rfl
  obtain ⟨d_is_name_set, F_is_name_set⟩ := cD.def_ 20 rfl
  obtain ⟨d_w_pick, F_w_pick⟩ := cD.def_ 21 rfl
  obtain ⟨d_w_greatest, F_w_greatest⟩ := cD.def_ 22 rfl
  obtain ⟨d_w_least, F_w_least⟩ := cD.def_ 23 rfl
  obtain ⟨d_w_part, F_w_part⟩ := cD.def_ 24 rfl
  obtain ⟨d_w_plain, F_w_plain⟩ := cD.def_ 25 rfl
  obtain ⟨d_w_kernels, F_w_kernels⟩ := cD.def_ 26 rfl
  obtain ⟨d_is_family_of, F_is_family_of⟩ := cD.def_ 27 rfl
  obtain ⟨d_least_kernels, F_least_kernels⟩ := cD.def_ 28 rfl
  obtain ⟨d_are_houses, F_are_houses⟩ := cD.def_ 29 rfl
  obtain ⟨d_w_pool, F_w_pool⟩ := cD.def_ 30 rfl
  obtain ⟨d_w_packs, F_w_packs⟩ := cD.def_ 31 rfl
  obtain ⟨d_is_net, F_is_net⟩ := cD.def_ 32 rfl
  obtain ⟨d_are_quorums_of, F_are_quorums_of⟩ := cD.def_ 33 rfl
  obtain ⟨d_w_net, F_w_net⟩ := cD.def_ 34 rfl
  obtain ⟨d_need_quorums, F_need_quorums⟩ := cD.def_ 35 rfl
  obtain ⟨d_kernels_of, F_kernels_of⟩ := cD.def_ 36 rfl
  obtain ⟨d_is_kernel, F_is_kernel⟩ := cD.def_ 37 rfl
  obtain ⟨d_w_is_even, F_w_is_even⟩ := cD.def_ 38 rfl
  obtain ⟨d_law, F_law⟩ := cD.def_ 39 rfl
  have e0 := c.more
  have l_0 := He.glo_ok X G (cD.fact 0 (f := .glo "ascend") rfl)
  have l_1 := He.glo_ok X G (cD.fact 1 (f := .glo "includes") rfl)
  have l_2 := He.glo_ok X G (cD.fact 2 (f := .glo "common") rfl)
  have l_3 := He.glo_ok X G (cD.fact 3 (f := .glo "without") rfl)
  have l_4 := He.glo_ok X G (cD.fact 4 (f := .glo "family_of") rfl)
  have l_5 := He.glo_ok X G (cD.fact 5 (f := .glo "need") rfl)
  have l_6 := He.glo_ok X G (cD.fact 6 (f := .glo "is_name") rfl)
  have l_7 := He.glo_ok X G (cD.fact 7 (f := .glo "is_tuple_of") rfl)
  have l_8 := He.glo_ok X G (cD.fact 8 (f := .glo "_law_feed") rfl)
  have l_9 := He.glo_ok X G (cD.fact 9 (f := .glo "_law_draw") rfl)
  have l_10 := He.glo_ok X G (cD.fact 10 (f := .glo "_law_set") rfl)
  have l_11 := He.glo_ok X G (cD.fact 11 (f := .glo "_law_lies") rfl)
  have l_12 := He.glo_ok X G (cD.fact 12 (f := .glo "_law_others") rfl)
  have l_13 := He.glo_ok X G (cD.fact 13 (f := .glo "_law_common") rfl)
  have l_14 := He.glo_ok X G (cD.fact 14 (f := .glo "_law_subsets") rfl)
  have l_15 := He.glo_ok X G (cD.fact 15 (f := .glo "is_lot_of") rfl)
  have l_16 := He.glo_ok X G (cD.fact 16 (f := .glo "greatest") rfl)
  have l_17 := He.glo_ok X G (cD.fact 17 (f := .glo "least") rfl)
  have l_18 := He.glo_ok X G (cD.fact 18 (f := .glo "with_one_of") rfl)
  have l_19 := He.glo_ok X G (cD.fact 19 (f := .glo "meets_each") rfl)
  have l_20 := He.glo_ok X G (cD.fact 20 (f := .glo "is_name_set") rfl)
  have l_21 := He.glo_ok X G (cD.fact 21 (f := .glo "_law_pick") rfl)
  have l_22 := He.glo_ok X G (cD.fact 22 (f := .glo "_law_greatest") rfl)
  have l_23 := He.glo_ok X G (cD.fact 23 (f := .glo "_law_least") rfl)
  have l_24 := He.glo_ok X G (cD.fact 24 (f := .glo "_law_part") rfl)
  have l_25 := He.glo_ok X G (cD.fact 25 (f := .glo "_law_plain") rfl)
  have l_26 := He.glo_ok X G (cD.fact 26 (f := .glo "_law_kernels") rfl)
  have l_27 := He.glo_ok X G (cD.fact 27 (f := .glo "is_family_of") rfl)
  have l_28 := He.glo_ok X G (cD.fact 28 (f := .glo "least_kernels") rfl)
  have l_29 := He.glo_ok X G (cD.fact 29 (f := .glo "are_houses") rfl)
  have l_30 := He.glo_ok X G (cD.fact 30 (f := .glo "_law_pool") rfl)
  have l_31 := He.glo_ok X G (cD.fact 31 (f := .glo "_law_packs") rfl)
  have l_32 := He.glo_ok X G (cD.fact 32 (f := .glo "is_net") rfl)
  have l_33 := He.glo_ok X G (cD.fact 33 (f := .glo "are_quorums_of") rfl)
  have l_34 := He.glo_ok X G (cD.fact 34 (f := .glo "_law_net") rfl)
  have l_35 := He.glo_ok X G (cD.fact 35 (f := .glo "need_quorums") rfl)
  have l_36 := He.glo_ok X G (cD.fact 36 (f := .glo "kernels_of") rfl)
  have l_37 := He.glo_ok X G (cD.fact 37 (f := .glo "is_kernel") rfl)
  have l_38 := He.glo_ok X G (cD.fact 38 (f := .glo "_law_is_even") rfl)
  have l_39 := He.glo_ok X G (cD.fact 39 (f := .glo "law") rfl)
  have T : Top K mg ⟨He.ga K "ascend", d_ascend, He.ga K "includes", d_includes, He.ga K "common", d_common, He.ga K "without", d_without, He.ga K "family_of", d_family_of, He.ga K "need", d_need, He.ga K "is_name", d_is_name, He.ga K "is_tuple_of", d_is_tuple_of, He.ga K "_law_feed", d_w_feed, He.ga K "_law_draw", d_w_draw, He.ga K "_law_set", d_w_set, He.ga K "_law_lies", d_w_lies, He.ga K "_law_others", d_w_others, He.ga K "_law_common", d_w_common, He.ga K "_law_subsets", d_w_subsets, He.ga K "is_lot_of", d_is_lot_of, He.ga K "greatest", d_greatest, He.ga K "least", d_least, He.ga K "with_one_of", d_with_one_of, He.ga K "meets_each", d_meets_each, He.ga K "is_name_set", d_is_name_set, He.ga K "_law_pick", d_w_pick, He.ga K "_law_greatest", d_w_greatest, He.ga K "_law_least", d_w_least, He.ga K "_law_part", d_w_part, He.ga K "_law_plain", d_w_plain, He.ga K "_law_kernels", d_w_kernels, He.ga K "is_family_of", d_is_family_of, He.ga K "least_kernels", d_least_kernels, He.ga K "are_houses", d_are_houses, He.ga K "_law_pool", d_w_pool, He.ga K "_law_packs", d_w_packs, He.ga K "is_net", d_is_net, He.ga K "are_quorums_of", d_are_quorums_of, He.ga K "_law_net", d_w_net, He.ga K "need_quorums", d_need_quorums, He.ga K "kernels_of", d_kernels_of, He.ga K "is_kernel", d_is_kernel, He.ga K "_law_is_even", d_w_is_even, He.ga K "law", d_law⟩ := {
    F_ascend := fun_ofD F_ascend
    g_ascend := l_0
    F_includes := fun_ofD F_includes
    g_includes := l_1
    F_common := fun_ofD F_common
    g_common := l_2
    F_without := fun_ofD F_without
    g_without := l_3
    F_family_of := fun_ofD F_family_of
    g_family_of := l_4
    F_need := fun_ofD F_need
    g_need := l_5
    F_is_name := fun_ofD F_is_name
    g_is_name := l_6
    F_is_tuple_of := fun_ofD F_is_tuple_of
    g_is_tuple_of := l_7
    F_w_feed := fun_ofD F_w_feed
    g_w_feed := l_8
    F_w_draw := fun_ofD F_w_draw
    g_w_draw := l_9
    F_w_set := fun_ofD F_w_set
    g_w_set := l_10
    F_w_lies := fun_ofD F_w_lies
    g_w_lies := l_11
    F_w_others := fun_ofD F_w_others
    g_w_others := l_12
    F_w_common := fun_ofD F_w_common
    g_w_common := l_13
    F_w_subsets := fun_ofD F_w_subsets
    g_w_subsets := l_14
    F_is_lot_of := fun_ofD F_is_lot_of
    g_is_lot_of := l_15
    F_greatest := fun_ofD F_greatest
    g_greatest := l_16
    F_least := fun_ofD F_least
    g_least := l_17
    F_with_one_of := fun_ofD F_with_one_of
    g_with_one_of := l_18
    F_meets_each := fun_ofD F_meets_each
    g_meets_each := l_19
    F_is_name_set := fun_ofD F_is_name_set
    g_is_name_set := l_20
    F_w_pick := fun_ofD F_w_pick
    g_w_pick := l_21
    F_w_greatest := fun_ofD F_w_greatest
    g_w_greatest := l_22
    F_w_least := fun_ofD F_w_least
    g_w_least := l_23
    F_w_part := fun_ofD F_w_part
    g_w_part := l_24
    F_w_plain := fun_ofD F_w_plain
    g_w_plain := l_25
    F_w_kernels := fun_ofD F_w_kernels
    g_w_kernels := l_26
    F_is_family_of := fun_ofD F_is_family_of
    g_is_family_of := l_27
    F_least_kernels := fun_ofD F_least_kernels
    g_least_kernels := l_28
    F_are_houses := fun_ofD F_are_houses
    g_are_houses := l_29
    F_w_pool := fun_ofD F_w_pool
    g_w_pool := l_30
    F_w_packs := fun_ofD F_w_packs
    g_w_packs := l_31
    F_is_net := fun_ofD F_is_net
    g_is_net := l_32
    F_are_quorums_of := fun_ofD F_are_quorums_of
    g_are_quorums_of := l_33
    F_w_net := fun_ofD F_w_net
    g_w_net := l_34
    F_need_quorums := fun_ofD F_need_quorums
    g_need_quorums := l_35
    F_kernels_of := fun_ofD F_kernels_of
    g_kernels_of := l_36
    F_is_kernel := fun_ofD F_is_kernel
    g_is_kernel := l_37
    F_w_is_even := fun_ofD F_w_is_even
    g_w_is_even := l_38
    F_law := fun_ofD F_law
    g_law := l_39
    z_all := He.free_ok X G (cD.fact 40 (f := .free "all") rfl)
    z_any := He.free_ok X G (cD.fact 41 (f := .free "any") rfl)
    z_int := He.free_ok X G (cD.fact 42 (f := .free "int") rfl)
    z_isinstance := He.free_ok X G (cD.fact 43 (f := .free "isinstance") rfl)
    z_len := He.free_ok X G (cD.fact 44 (f := .free "len") rfl)
    z_list := He.free_ok X G (cD.fact 45 (f := .free "list") rfl)
    z_range := He.free_ok X G (cD.fact 46 (f := .free "range") rfl)
    z_repr := He.free_ok X G (cD.fact 47 (f := .free "repr") rfl)
    z_set := He.free_ok X G (cD.fact 48 (f := .free "set") rfl)
    z_sorted := He.free_ok X G (cD.fact 49 (f := .free "sorted") rfl)
    z_str := He.free_ok X G (cD.fact 50 (f := .free "str") rfl)
    z_tuple := He.free_ok X G (cD.fact 51 (f := .free "tuple") rfl)
    z_zip := He.free_ok X G (cD.fact 52 (f := .free "zip") rfl)
  }
  have e := hfa.symm.trans T.g_law
  cases e
  refine ⟨d_law, tf0.map (He.cT K), TopD.T _, fun p hp => ?_, fun p hp => ?_, fun p hp => ?_, fun p hp => ?_, fun s u => ?_, fun base _ _ tb => ok_law T ⟨trivial⟩ ok⟩
  · obtain ⟨y, hy, rfl⟩ := List.mem_map.mp hp; exact c.empty y hy
  · obtain ⟨y, hy, rfl⟩ := List.mem_map.mp hp; exact c.out y hy
  · obtain ⟨y, hy, rfl⟩ := List.mem_map.mp hp; exact PySem.W.codeHd_of_K X (c.hd y hy)
  · unfold TopD.T at hp
    cases hp
  · obtain ⟨oc, od, kV, doc, pm, an, cdv, ct, osl, rfl, lk, hcd⟩ := T.F_law.ex
    exact .of_eq rfl
end V23
set_option maxHeartbeats 4000000
namespace V23
open PySem PySem.Spec PyProof.Rows L2 VI
theorem _root_.VI.Sh.pln {k : Nat} {d : D} (h : Sh k d) : plnB d = true := by
  cases d with
  | dict kv =>
    have := h.lay
    simp [PyData.canLay0] at this
  | _ => rfl
theorem _root_.VI.Sh.isi {T : String} {k : Nat} {d : D} {φ : FS} (h : Sh k d) : isiD T d φ = .ok (.dat (.bool (isiB T d)), φ) := isiD_p h.pln
/-- numbered from k on -/
def numL : Nat → List D → List (D × D)
  | _, [] => []
  | k, d :: ds => (.int (k : Int), d) :: numL (k + 1) ds
theorem num_zip : ∀ (k : Nat) (ds : List D), ((List.range' k ds.length).map fun (i : Nat) => PyData.int (i : Int)).zip ds = numL k ds
  | _, [] => by simp [numL]
  | k, d :: ds => by
    rw [List.length_cons, List.range'_succ, List.map_cons, List.zip_cons_cons, num_zip (k + 1) ds]
    rfl
@[simp] theorem enumI_o {m : ME} {ρ : Env'} {φ : FS} : enumI m ρ φ = (m ρ φ).bind fun r => match r.1.toD with
  | .list ds => .ok (numL 0 ds, r.2)
  | .tuple ds => .ok (numL 0 ds, r.2)
  | _ => .bad := by
  have e : ∀ ds : List D, ((List.range ds.length).map fun (i : Nat) => PyData.int (i : Int)).zip ds = numL 0 ds := fun ds => by
    rw [List.range_eq_range']
    exact num_zip 0 ds
  unfold enumI
  cases m ρ φ with
  | ok r =>
    simp only [bind_e]
    cases r.1.toD <;> simp [e]
  | exc c xs φ' => rfl
  | bad => rfl
@[simp] theorem setPS_o {i j : Nat} {d : D × D} {σ : EnvS} : setPS i j d σ = some ((σ.set i (some (.dat d.1))).set j (some (.dat d.2))) := nrfl rfl
section
variable {d : D} {ds : List D} {k n : Nat} {φ : FS}
theorem depthAll_le {k : Nat} : ∀ {ds : List D}, (∀ d ∈ ds, d.depth ≤ k) → PyData.depthAll ds ≤ k := dpAll_of
theorem prAll_iff : ∀ {ds : List D}, prAll ds = true ↔ ∀ d ∈ ds, pr d = true
  | [] => by simp [prAll]
  | d :: ds => by simp [prAll, prAll_iff (ds := ds)]
theorem sp_mem : ∀ {ds : List D} {d : D}, d ∈ ds → sp d + 2 ≤ spAll ds
  | d :: ds, e, m => by
    rcases List.mem_cons.mp m with rfl | m
    · simp only [spAll]; omega
    · have := sp_mem m
      simp only [spAll]; omega
theorem _root_.VI.Pt.part (h : Pt (.tuple ds) k n) : ∀ d ∈ ds, Pt d k n := fun d m => by
  obtain ⟨h1, h2, h3⟩ := h
  refine ⟨prAll_iff.mp (by simpa only [pr] using h1) d m, ?_, ?_⟩
  · have : PyData.depthAll ds + 1 ≤ k := h2
    exact dpAll_iff (k := k) (Nat.le_of_succ_le this) d m
  · have : spAll ds + 4 ≤ n := h3
    have := sp_mem m
    omega
theorem len_sp : ∀ ds : List D, ds.length ≤ spAll ds
  | [] => Nat.le_refl _
  | d :: ds => by
    have := len_sp ds
    simp only [List.length_cons, spAll]
    omega
theorem _root_.VI.Pt.len (h : Pt (.tuple ds) k n) : ds.length ≤ n := by
  have : spAll ds + 4 ≤ n := h.sz
  have := len_sp ds
  omega
theorem _root_.VI.Pt.strlen {x : Str} (h : Pt (.str x) k n) : 10 * x.length + 2 ≤ n := h.sz
def letB (c : Nat) : Bool := decide (97 ≤ c) && decide (c ≤ 122)
def nameB : D → Bool
  | .str x => (decide (1 ≤ x.length) && decide (x.length ≤ 8)) && x.cps.toList.all letB
  | _ => false
def nameL : D → Bool
  | .str y => y.cps.toList.all letB
  | _ => false
theorem nameB_s (x : Str) : nameB (.str x) = ((decide (1 ≤ x.length) && decide (x.length ≤ 8)) && x.cps.toList.all letB) := rfl
theorem ok_letter {c : Nat} : (leG (.str "a") (.str ⟨#[c]⟩) = .ok (.dat (.bool (decide (97 ≤ c))))) ∧ (leG (.str ⟨#[c]⟩) (.str "z") = .ok (.dat (.bool (decide (c ≤ 122))))) := by
  constructor
  · show rb (!decide ((⟨#[c]⟩ : Str).cps.toList < ("a" : Str).cps.toList)) = _
    have e : ("a" : Str).cps.toList = [97] := by decide +kernel
    rw [e]
    show rb (!decide ([c] < [97])) = _
    have : ([c] < [97]) ↔ c < 97 := by
      rw [List.cons_lt_cons_iff]
      simp
    rw [rb_e]
    congr 3
    rw [Bool.eq_iff_iff]
    simp [this]
  · show rb (!decide (("z" : Str).cps.toList < (⟨#[c]⟩ : Str).cps.toList)) = _
    have e : ("z" : Str).cps.toList = [122] := by decide +kernel
    rw [e]
    show rb (!decide ([122] < [c])) = _
    have : ([122] < [c]) ↔ 122 < c := by
      rw [List.cons_lt_cons_iff]
      simp
    rw [rb_e]
    congr 3
    rw [Bool.eq_iff_iff]
    simp [this]
theorem chn_b {g g' : D → D → Res EV} {m1 m2 m3 : ME} {ρ : Env'} {e1 e2 e3 : EV} {b c : Bool} (h1 : m1 ρ φ = .ok (e1, φ)) (h2 : m2 ρ φ = .ok (e2, φ)) (h3 : m3 ρ φ = .ok (e3, φ)) (g1 : g e1.toD e2.toD = .ok (.dat (.bool b))) (g2 : g' e2.toD e3.toD = .ok (.dat (.bool c))) : chn g g' m1 m2 m3 ρ φ = .ok (.dat (.bool (b && c)), φ) := by
  unfold chn
  rw [h1, bind_e, h2, bind_e, g1, bind_e]
  cases b with
  | true =>
    dsimp only
    rw [h3, bind_e, g2]
    rfl
  | false => rfl
theorem first_name (h : Pt d k n) (hn : n ≤ 1000000) (o : List (Option D)) : orT (notT (tst (isiM "str" (vD 0)))) (notT (tst (chn leG leG (cD (.int 1)) (callM lenG (consA (vD 0) nilA)) (cD (.int 8))))) (some d :: o) φ =
    .ok (match d with | .str x => !(decide (1 ≤ x.length) && decide (x.length ≤ 8)) | _ => true, φ) := by
  cases d with
  | str x =>
    have hl := h.strlen
    have ln : lenG [.str x] = .ok (.dat (.int x.length)) := if_pos (by omega)
    have c : chn leG leG (cD (.int 1)) (callM lenG (consA (vD 0) nilA)) (cD (.int 8)) (some (.str x) :: o) φ = .ok (.dat (.bool (decide (1 ≤ x.length) && decide (x.length ≤ 8))), φ) :=
      chn_b (e1 := .dat (.int 1)) (e2 := .dat (.int x.length)) (e3 := .dat (.int 8)) rfl (by simp [ln]) rfl (by
        rw [toD_dat, toD_dat, le_ii]
        congr 3
        rw [Bool.eq_iff_iff]
        simp
        omega) (by
        rw [toD_dat, toD_dat, le_ii]
        congr 3
        rw [Bool.eq_iff_iff]
        simp
        omega)
    simp [c]
  | none => rfl
  | bool b => rfl
  | int i => rfl
  | list ds => rfl
  | tuple ds => rfl
  | dict kv => have := h.sh.pln; cases kv with | nil => rfl | cons a r => cases this
theorem name_rest {x : Str} (hx : x.length ≤ 1000000) (o : Option D) : callM allG (consA (lcM [1] (seqI (vD 0)) (setN 1) yesT (chn leG leG (cD (.str "a")) (vD 1) (cD (.str "z")))) nilA) [some (.str x), o] φ = .ok (.dat (.bool (x.cps.toList.all letB)), φ) := by
  have h : lcM [1] (seqI (vD 0)) (setN 1) yesT (chn leG leG (cD (.str "a")) (vD 1) (cD (.str "z"))) [some (.str x), o] φ = .ok (.own ((x.cps.toList.map fun c => PyData.str ⟨#[c]⟩).map fun d => PyData.bool (match d with | .str y => y.cps.toList.all letB | _ => false)), φ) := by
    refine lc_all _ (seqI_s (by simp)) (by rw [List.length_map]; have : x.cps.toList.length = x.length := (by simp [Str.length]); omega) fun d hd => ?_
    obtain ⟨c, mc, ec⟩ := List.mem_map.mp hd
    subst ec
    refine ⟨_, rfl, .dat (.bool (letB c)), chn_b (e1 := .dat (.str "a")) (e2 := .dat (.str ⟨#[c]⟩)) (e3 := .dat (.str "z")) rfl rfl rfl ok_letter.1 ok_letter.2, ?_⟩
    show PyData.bool (letB c) = PyData.bool (letB c && true)
    rw [Bool.and_true]
  simp only [callM_e, consA_e, h, bind_e, nilA_e, toD_own]
  have e : ((x.cps.toList.map fun c => PyData.str ⟨#[c]⟩).map fun d => PyData.bool (match d with | .str y => y.cps.toList.all letB | _ => false)) = (x.cps.toList.map letB).map PyData.bool := by
    rw [List.map_map, List.map_map]
    refine List.map_congr_left fun c _ => ?_
    show PyData.bool (letB c && true) = PyData.bool (letB c)
    rw [Bool.and_true]
  rw [e, allG_e, bind_e, all_map]
theorem name_e (h : Pt d k n) (hn : n ≤ 1000000) : m_is_name [d] φ = .ok (.dat (.bool (nameB d)), φ) := by
  apply eq_of
  unfold m_is_name b_is_name
  rw [fnM_o]
  have f := first_name (φ := φ) h hn [none]
  rw [seqM_o, ifS_o]
  simp only [start_cons, start_nil, soft_d, soft_o, soft_n, List.replicate_succ, List.replicate_zero]
  rw [f]
  cases d with
  | str x =>
    have hl := h.strlen
    have r := name_rest (φ := φ) (by omega : x.length ≤ 1000000) none
    unfold nameB
    simp only [bind_e]
    cases hb : (decide (1 ≤ x.length) && decide (x.length ≤ 8)) with
    | true => simp [-callM_e, r]
    | false => simp
  | none => simp [nameB]
  | bool b => simp [nameB]
  | int i => simp [nameB]
  | list ds => simp [nameB]
  | tuple ds => simp [nameB]
  | dict kv => simp [nameB]
theorem fil_all : ∀ L : List Nat, ((L.map fun c => PyData.str ⟨#[c]⟩).filter fun d => !nameL d).isEmpty = L.all letB
  | [] => rfl
  | c :: L => by
    have ih := fil_all L
    have e : nameL (.str ⟨#[c]⟩) = letB c := by show (letB c && true) = _; rw [Bool.and_true]
    rw [List.map_cons, List.filter_cons, e, List.all_cons]
    cases letB c with
    | true => simpa using ih
    | false => rfl
end
end V23
set_option maxHeartbeats 4000000
namespace V23
open PySem PySem.Spec PyProof.Rows L2 VI
section
variable {d : D} {ds : List D} {k n : Nat} {φ : FS}
def tupN (m : Nat) : D → Bool
  | .tuple ds => decide (ds.length = m)
  | _ => false
theorem eq_int (a b : Nat) : eqG (.int a) (.int b) = .ok (.dat (.bool (decide (a = b)))) := by
  rw [eq_sh (k := 0) (k' := 0) Sh.int Sh.int]
  congr 3
  show ((a : Int) == (b : Int)) = _
  rw [Bool.eq_iff_iff, beq_iff_eq, decide_eq_true_iff]
  omega
theorem ne_int (a b : Nat) : neG (.int a) (.int b) = .ok (.dat (.bool (!decide (a = b)))) := by
  rw [ne_sh (k := 0) (k' := 0) Sh.int Sh.int]
  congr 4
  show ((a : Int) == (b : Int)) = _
  rw [Bool.eq_iff_iff, beq_iff_eq, decide_eq_true_iff]
  omega
theorem is_tup (h : Sh k d) (m : Nat) : m_is_tuple_of [d, .int m] φ = .ok (.dat (.bool (tupN m d)), φ) := by
  cases d with
  | tuple ds =>
    apply eq_of
    unfold m_is_tuple_of b_is_tuple_of
    rw [fnM_o]
    simp [eq_int, tupN]
  | none => rfl
  | bool b => rfl
  | int i => rfl
  | str x => rfl
  | list ds => rfl
  | dict kv =>
    have := h.lay
    simp [PyData.canLay0] at this
/-- a stage by its form -/
theorem in_list {d : D} {hs : List Str} {neg : Bool} {k : Nat} (hd : Sh k d) (h : ∀ x ∈ hs, PyData.strOk x = true) (hk : k ≤ 60 := by omega) : inG neg d (.list (hs.map .str)) = .ok (.dat (.bool (neg ^^ inS hs d))) := by
  rw [inG_l, if_pos, rb_e]
  · congr 4
    unfold inS
    rw [any_map]
  · exact ⟨hd.shaped, (Sh.lst (k := 0) fun z mz => by
      obtain ⟨x, mx, rfl⟩ := List.mem_map.mp mz
      exact ⟨h x mx, Nat.le_refl _⟩).shaped⟩
theorem sh_str {x : Str} {k : Nat} (h : PyData.strOk x = true) : Sh k (.str x) := ⟨h, Nat.zero_le _⟩
end
end V23
set_option maxHeartbeats 4000000
namespace V23
open PySem PySem.Spec PyProof.Rows L2 VI
section
variable {φ : FS}
def okL (L : List Str) : Prop := ∀ x ∈ L, PyData.strOk x = true
theorem sh_tup {xs : List Str} (h : okL xs) : Sh 1 (tupD xs) := Sh.tup (k := 0) fun d m => by
  obtain ⟨x, mx, rfl⟩ := List.mem_map.mp m
  exact ⟨h x mx, Nat.zero_le _⟩
theorem in_tupD {d : D} {hs : List Str} {neg : Bool} {k : Nat} (hd : Sh k d) (h : okL hs) (hk : k ≤ 60 := by omega) : inG neg d (tupD hs) = .ok (.dat (.bool (neg ^^ inS hs d))) := by
  have e : inG neg d (tupD hs) = inG neg d (.list (hs.map .str)) := rfl
  rw [e]
  exact in_list hd h
theorem inS_str {x : Str} {hs : List Str} : inS hs (.str x) = memB x hs := by
  rw [Bool.eq_iff_iff, memB_iff, inS_iff]
  constructor
  · rintro ⟨y, my, e⟩
    injection e with e
    rw [e]; exact my
  · exact fun m => ⟨x, m, rfl⟩
@[simp] theorem lt2_str {x y : Str} : lt2G (.str x) (.str y) = .ok (.dat (.bool (ltS x y))) := rfl
@[simp] theorem lt2_int {a b : Int} : lt2G (.int a) (.int b) = .ok (.dat (.bool (decide (a < b)))) := rfl
theorem lt2_tup {x y : List Str} : lt2G (tupD x) (tupD y) = .ok (.dat (.bool (ltL x y))) := by
  show (match strsOf (x.map .str), strsOf (y.map .str) with | some x, some y => rb (ltL x y) | _, _ => .bad) = _
  rw [strsOf_map, strsOf_map]
  rfl
theorem ascend_e {xs : List Str} (hl : xs.length ≤ 1000000) : m_ascend [tupD xs] φ = .ok (.dat (.bool (ascB xs)), φ) := by
  have hz : zipI (vD 0) (slxM (vD 0) (soM (cD (.int 1))) noM) [some (tupD xs), none, none] φ = .ok ((xs.map PyData.str).zip ((xs.drop 1).map PyData.str), φ) := by
    have c1 : VI.cutD (xs.map PyData.str) (some 1) none = (xs.drop 1).map .str := by
      rw [show (1 : Int) = ((1 : Nat) : Int) from rfl, cut_from, List.map_drop]
    show Res.ok ((xs.map PyData.str).zip (VI.cutD (xs.map PyData.str) (some 1) none), φ) = _
    rw [c1]
  rw [zip_map'] at hz
  apply eq_of
  unfold m_ascend b_ascend
  rw [fnM_o]
  have lc := lc_eq (φ := φ) (set := setP 1 2) (mt := yesT) (me := op2 lt2G (vD 1) (vD 2)) (as := (xs.zip (xs.drop 1)).map fun p => (PyData.str p.1, PyData.str p.2)) (ρ0 := [some (tupD xs), none, none]) (fun _ => true) (fun q => PyData.bool (ltS (strD q.1) (strD q.2))) fun q hq => by
    obtain ⟨p, _, rfl⟩ := List.mem_map.mp hq
    refine ⟨_, rfl, rfl, fun _ => ?_⟩
    simp
  have e1 : (((xs.zip (xs.drop 1)).map fun p => (PyData.str p.1, PyData.str p.2)).filter fun _ => true).map (fun q => PyData.bool (ltS (strD q.1) (strD q.2))) = ((xs.zip (xs.drop 1)).map fun p => ltS p.1 p.2).map .bool := by
    rw [List.filter_eq_self.mpr fun _ _ => rfl, List.map_map, List.map_map]
    rfl
  rw [e1] at lc
  have ll : ((xs.zip (xs.drop 1)).map fun p => (PyData.str p.1, PyData.str p.2)).length ≤ 1000000 := by rw [List.length_map, List.length_zip]; omega
  have ea : allG [.list (((xs.zip (xs.drop 1)).map fun p => ltS p.1 p.2).map .bool)] = .ok (.dat (.bool (ascB xs))) := by
    rw [allG_e, all_map]
    rfl
  generalize ((xs.zip (xs.drop 1)).map fun p => ltS p.1 p.2).map PyData.bool = BL at lc ea
  generalize ((xs.zip (xs.drop 1)).map fun p => (PyData.str p.1, PyData.str p.2)) = ZL at hz lc ll
  generalize tupD xs = X at hz lc
  generalize zipI (vD 0) (slxM (vD 0) (soM (cD (.int 1))) noM) = ZI at hz ⊢
  simp [hz, lc, ll, ea]
theorem incl_loop {xs : List Str} (hx : okL xs) (Y : D) : ∀ (ys : List Str) (o2 : Option EV), okL ys →
    sat (forGo (setNS 2) (ifS [] (tst (op2 (inG true) (vD 2) (vD 0))) (retM [] (cD (.bool false))) nxM) (ys.map .str) [some (.dat (tupD xs)), some (.dat Y), o2] φ)
    fun q => q.2.2 = φ ∧ if subL ys xs = true then q.1 = .nx else q.1 = .ret (.dat (.bool false))
  | [], o2, _ => ⟨_, rfl, rfl, rfl⟩
  | y :: ys, o2, hy => by
    have ih := incl_loop hx Y ys (some (.dat (.str y))) fun z m => hy z (by simp [m])
    have hi := in_tupD (neg := true) (sh_str (k := 0) (hy y (by simp))) hx
    rw [inS_str] at hi
    have es : subL (y :: ys) xs = (memB y xs && subL ys xs) := rfl
    rw [es, List.map_cons, forGo_c]
    generalize tupD xs = X at hi ih ⊢
    cases hm : memB y xs with
    | true =>
      rw [hm] at hi
      simp [soft_c, hi]
      refine sat_mono ih fun q hq => ⟨hq.1, ?_⟩
      exact hq.2
    | false =>
      rw [hm] at hi
      simp [soft_c, hi]
theorem includes_e {xs ys : List Str} (hx : okL xs) (hy : okL ys) : m_includes [tupD xs, tupD ys] φ = .ok (.dat (.bool (subL ys xs)), φ) := by
  apply eq_of
  unfold m_includes b_includes
  rw [fnM_o]
  have lp := incl_loop (φ := φ) hx (tupD ys) ys none hy
  have sq : ∀ φ, seqD (tupD ys) φ = .ok (ys.map .str, φ) := fun φ => rfl
  generalize ys.map PyData.str = YS at lp sq
  generalize tupD ys = Y at lp sq
  generalize tupD xs = X at lp
  simp [soft_c, sq]
  refine sat_mono lp ?_
  rintro ⟨fl, σ, φ'⟩ ⟨h1, h2⟩
  dsimp only at h1 h2
  subst h1
  cases hs : subL ys xs with
  | true =>
    rw [hs, if_pos rfl] at h2
    subst h2
    simp
  | false =>
    rw [hs, if_neg (by decide)] at h2
    subst h2
    simp
def lotF (hs : List Str) : D → Bool
  | .tuple ds => ds.all (inS hs) && ascB (ds.map strD)
  | _ => false
theorem all_strs {hs : List Str} {ds : List D} (h : ds.all (inS hs) = true) : ∃ xs : List Str, ds = xs.map .str ∧ ∀ x ∈ xs, x ∈ hs := by
  induction ds with
  | nil => exact ⟨[], rfl, fun x m => by cases m⟩
  | cons d ds ih =>
    rw [List.all_cons, Bool.and_eq_true] at h
    obtain ⟨x, mx, rfl⟩ := inS_iff.mp h.1
    obtain ⟨xs, rfl, hx⟩ := ih h.2
    exact ⟨x :: xs, rfl, fun y m => (List.mem_cons.mp m).elim (fun e => e ▸ mx) (hx y)⟩
theorem lot_iff {hs : List Str} {d : D} : lotF hs d = true ↔ ∃ xs, d = tupD xs ∧ (∀ x ∈ xs, x ∈ hs) ∧ ascB xs = true := by
  constructor
  · intro h
    unfold lotF at h
    split at h
    · rw [Bool.and_eq_true] at h
      obtain ⟨xs, rfl, hx⟩ := all_strs h.1
      have e : (xs.map PyData.str).map strD = xs := by rw [List.map_map]; exact List.map_id' _
      rw [e] at h
      exact ⟨xs, rfl, hx, h.2⟩
    · cases h
  · rintro ⟨xs, rfl, hx, ha⟩
    show ((xs.map PyData.str).all (inS hs) && ascB ((xs.map PyData.str).map strD)) = true
    have e : (xs.map PyData.str).map strD = xs := by rw [List.map_map]; exact List.map_id' _
    rw [e, ha, Bool.and_true, List.all_eq_true]
    intro d m
    obtain ⟨x, mx, rfl⟩ := List.mem_map.mp m
    exact inS_iff.mpr ⟨x, hx x mx, rfl⟩
theorem is_lot_e {hs : List Str} {d : D} {n : Nat} (hh : okL hs) (h : Pt d 40 n) (hn : n ≤ 400000) : m_is_lot_of [tupD hs, d] φ = .ok (.dat (.bool (lotF hs d)), φ) := by
  have isi := h.sh.isi (T := "tuple") (φ := φ)
  cases d with
  | tuple ds =>
    have lc := fun r2 => lc_eq (φ := φ) (set := setN 2) (mt := yesT) (me := op2 (inG false) (vD 2) (vD 0)) (as := ds) (ρ0 := [some (tupD hs), some (.tuple ds), r2]) (fun _ => true) (fun d => PyData.bool (inS hs d)) fun d hd => by
      have hi := in_tupD (neg := false) (h.part d hd).sh hh
      refine ⟨_, rfl, rfl, fun _ => ?_⟩
      generalize tupD hs = X at hi
      simp [hi]
    have ef : (ds.filter fun _ => true).map (fun d => PyData.bool (inS hs d)) = (ds.map (inS hs)).map .bool := by
      rw [List.filter_eq_self.mpr fun _ _ => rfl, List.map_map]
      rfl
    rw [ef] at lc
    have ll : ds.length ≤ 1000000 := by have := h.len; omega
    have ea : allG [.list ((ds.map (inS hs)).map .bool)] = .ok (.dat (.bool (ds.all (inS hs)))) := by
      rw [allG_e, all_map]
    have isi : isiD "tuple" (.tuple ds) φ = .ok (.dat (.bool true), φ) := isi
    apply eq_of
    unfold m_is_lot_of b_is_lot_of
    rw [fnM_o]
    have el : lotF hs (.tuple ds) = (ds.all (inS hs) && ascB (ds.map strD)) := rfl
    rw [el]
    generalize (ds.map (inS hs)).map PyData.bool = BL at lc ea
    cases hb : ds.all (inS hs) with
    | false =>
      rw [hb] at ea
      generalize tupD hs = X at lc
      simp [isi, lc, ll, ea]
    | true =>
      rw [hb] at ea
      obtain ⟨xs, ed, hx⟩ := all_strs hb
      have e : ds.map strD = xs := by rw [ed, List.map_map]; exact List.map_id' _
      rw [e]
      have as : m_ascend [.tuple ds] φ = .ok (.dat (.bool (ascB xs)), φ) := by
        rw [ed]
        exact ascend_e (by rw [ed, List.length_map] at ll; exact ll)
      generalize tupD hs = X at lc
      simp [isi, lc, ll, ea, as]
  | none => rfl
  | bool b => rfl
  | int i => rfl
  | str x => rfl
  | list ds => rfl
  | dict kv =>
    have := h.sh.lay
    simp [PyData.canLay0] at this
end
end V23
set_option maxHeartbeats 4000000
namespace V23
open PySem PySem.Spec PyProof.Rows L2 VI
section
variable {φ : FS}
theorem all_lots {hs : List Str} {ds : List D} (h : ds.all (lotF hs) = true) : ∃ f : List (List Str), ds = f.map tupD ∧ ∀ x ∈ f, (∀ y ∈ x, y ∈ hs) ∧ ascB x = true := by
  induction ds with
  | nil => exact ⟨[], rfl, fun x m => by cases m⟩
  | cons d ds ih =>
    rw [List.all_cons, Bool.and_eq_true] at h
    obtain ⟨x, rfl, hx, ha⟩ := lot_iff.mp h.1
    obtain ⟨f, rfl, hf⟩ := ih h.2
    exact ⟨x :: f, rfl, fun y m => (List.mem_cons.mp m).elim (fun e => e ▸ ⟨hx, ha⟩) (hf y)⟩
theorem map_lot (f : List (List Str)) : (f.map tupD).map lotD = f := by
  rw [List.map_map]
  have : f.map (lotD ∘ tupD) = f.map id := List.map_congr_left fun x _ => lot_tup x
  rw [this, List.map_id]
theorem sh_fam {f : List (List Str)} (h : ∀ x ∈ f, okL x) : Sh 2 (famD f) := Sh.tup (k := 1) fun d m => by
  obtain ⟨x, mx, rfl⟩ := List.mem_map.mp m
  exact sh_tup (h x mx)
def setF : D → Bool
  | .tuple ds => ds.all nameB && ascB (ds.map strD)
  | _ => false
theorem name_strOk {x : Str} (h : nameB (.str x) = true) : PyData.strOk x = true := by
  rw [nameB_s] at h
  simp only [Bool.and_eq_true] at h
  rw [strOk_iff]
  intro c m
  have := List.all_eq_true.mp h.2 c m
  unfold letB at this
  simp at this
  omega
theorem all_names {ds : List D} (h : ds.all nameB = true) : ∃ xs : List Str, ds = xs.map .str ∧ ∀ x ∈ xs, nameB (.str x) = true := by
  induction ds with
  | nil => exact ⟨[], rfl, fun x m => by cases m⟩
  | cons d ds ih =>
    rw [List.all_cons, Bool.and_eq_true] at h
    obtain ⟨xs, rfl, hx⟩ := ih h.2
    cases d with
    | str x => exact ⟨x :: xs, rfl, fun y m => (List.mem_cons.mp m).elim (fun e => e ▸ h.1) (hx y)⟩
    | none => exact absurd h.1 (by decide)
    | bool b => exact absurd h.1 (by simp [nameB])
    | int i => exact absurd h.1 (by simp [nameB])
    | list l => exact absurd h.1 (by simp [nameB])
    | tuple l => exact absurd h.1 (by simp [nameB])
    | dict l => exact absurd h.1 (by simp [nameB])
theorem set_iff {d : D} : setF d = true ↔ ∃ xs, d = tupD xs ∧ (∀ x ∈ xs, nameB (.str x) = true) ∧ ascB xs = true := by
  constructor
  · intro h
    unfold setF at h
    split at h
    · rw [Bool.and_eq_true] at h
      obtain ⟨xs, rfl, hx⟩ := all_names h.1
      have e : (xs.map PyData.str).map strD = xs := by rw [List.map_map]; exact List.map_id' _
      rw [e] at h
      exact ⟨xs, rfl, hx, h.2⟩
    · cases h
  · rintro ⟨xs, rfl, hx, ha⟩
    show ((xs.map PyData.str).all nameB && ascB ((xs.map PyData.str).map strD)) = true
    have e : (xs.map PyData.str).map strD = xs := by rw [List.map_map]; exact List.map_id' _
    rw [e, ha, Bool.and_true, List.all_eq_true]
    intro d m
    obtain ⟨x, mx, rfl⟩ := List.mem_map.mp m
    exact hx x mx
theorem ascB_to : ∀ {xs : List Str}, ascB xs = true → Asc xs
  | [], _ => List.Pairwise.nil
  | [x], _ => List.pairwise_singleton _ _
  | x :: y :: r, h => by
    have e : ascB (x :: y :: r) = (ltS x y && ascB (y :: r)) := rfl
    rw [e, Bool.and_eq_true] at h
    have ih := ascB_to (xs := y :: r) h.2
    refine List.pairwise_cons.mpr ⟨fun z m => ?_, ih⟩
    rcases List.mem_cons.mp m with rfl | m
    · exact h.1
    · exact tot_S.trans _ _ _ h.1 ((List.pairwise_cons.mp ih).1 z m)
theorem asc_ix : ∀ xs : List Str, ascB xs = (List.range (xs.length - 1)).all fun i => ltS (xs.getD i "") (xs.getD (i + 1) "")
  | [] => rfl
  | [x] => rfl
  | x :: y :: r => by
    have ih := asc_ix (y :: r)
    have e : ascB (x :: y :: r) = (ltS x y && ascB (y :: r)) := rfl
    rw [e, ih]
    show _ = (List.range (r.length + 1)).all _
    rw [List.range_succ_eq_map, List.all_cons, List.all_map]
    rfl
def dropB (xs : List Str) : D → Bool
  | .int z => !ltS (xs.getD (z.toNat - 1) "") (xs.getD z.toNat "")
  | _ => false
theorem le_str {x y : Str} : leG (.str x) (.str y) = .ok (.dat (.bool (!ltS y x))) := rfl
theorem sub_int {z : Int} : subG (.int z) (.int 1) = .ok (.dat (.int (z - 1))) := rfl
theorem drop_empty (xs : List Str) : ((List.range (xs.length - 1)).map fun (i : Nat) => PyData.int (((1 : Nat) : Int) + (i : Int))).filter (dropB xs) = [] ↔ ascB xs = true := by
  rw [asc_ix, List.filter_eq_nil_iff, List.all_eq_true]
  constructor
  · intro h i mi
    have := h _ (List.mem_map.mpr ⟨i, mi, rfl⟩)
    have e : (((1 : Nat) : Int) + (i : Int)).toNat = i + 1 := by omega
    unfold dropB at this
    dsimp only at this
    rw [e] at this
    simpa using this
  · intro h d md
    obtain ⟨i, mi, rfl⟩ := List.mem_map.mp md
    have := h i mi
    have e : (((1 : Nat) : Int) + (i : Int)).toNat = i + 1 := by omega
    unfold dropB
    dsimp only
    rw [e]
    simpa using this
theorem range_sat {d : D} {n : Nat} (l : lenG [d] = .ok (.dat (.int (n : Int)))) (hn : n < 1000000) {o0 : Option D} {rest : List (Option D)} (φ : FS) : rng2I (cD (.int 1)) (callM lenG (consA (vD 1) nilA)) (o0 :: some d :: rest) φ = .ok ((List.range (n - 1)).map fun (i : Nat) => PyData.int (((1 : Nat) : Int) + (i : Int)), φ) := by
  apply eq_of
  refine sat_rng2 ?_
  simp [l]
  exact ⟨1, rfl, n, rfl, by decide, hn, rfl⟩
theorem eq_nilT {d : D} {k : Nat} (h : Sh k d) (hk : k ≤ 60 := by omega) : eqG d (.tuple []) = .ok (.dat (.bool (PyData.eqv d (.tuple [])))) := eq_sh h (Sh.tup (k := 0) fun d m => by cases m)
theorem ne_nilT {d : D} {k : Nat} (h : Sh k d) (hk : k ≤ 60 := by omega) : neG d (.tuple []) = .ok (.dat (.bool (!PyData.eqv d (.tuple [])))) := ne_sh h (Sh.tup (k := 0) fun d m => by cases m)
theorem eqv_nilT (ds : List D) : PyData.eqv (.tuple ds) (.tuple []) = ds.isEmpty := by cases ds <;> rfl
end
end V23
set_option maxHeartbeats 4000000
namespace V23
open PySem PySem.Spec PyProof.Rows L2 VI
section
variable {φ : FS}
theorem greatest_e {f : List (List Str)} {d : D} (hd : d = .tuple (f.map tupD) ∨ d = .list (f.map tupD)) (hf : ∀ x ∈ f, okL x) (hl : f.length < 64) : m_greatest [d] φ = .ok (.dat (famD (topU f)), φ) := by
  have h0 : ssM (vD 0) (soft [] (startS 4 [d])) φ = .ok (.own ((sortU ltL f).map tupD), φ) := ssM_e (e := .dat d) (ds := f.map tupD) (by simp) (by rcases hd with e | e <;> rw [e] <;> simp) (ssG_tup hl)
  refine fn_rt ((seq_nx (asgD_e h0 (by simp))).trans (ret_e ?_))
  have len : (sortU ltL f).length ≤ 1000000 := Nat.le_trans sortU_len (by omega)
  have hs : ∀ x ∈ sortU ltL f, okL x := fun x m => hf x ((mem_sortU tot_L).mp m)
  simp only [aft_nil, toD_own, start_cons, start_nil, List.set_cons_succ, List.set_cons_zero, List.replicate_succ, List.replicate_zero, soft_d, soft_o, soft_n]
  have inner : ∀ x ∈ sortU ltL f, lcM [3] (seqI (vD 1)) (setN 3) (tst (op2 neG (vD 3) (vD 2))) (appM 2 m_includes (consA (vD 3) (consA (vD 2) nilA))) [some d, some (.list ((sortU ltL f).map tupD)), some (tupD x), none] φ =
      .ok (.own ((((sortU ltL f).map tupD).filter fun y => decide (lotD y ≠ x)).map fun y => .bool (subL x (lotD y))), φ) := fun x mx => by
    refine lc_pure _ _ (seqI_l (by simp)) (by rw [List.length_map]; exact len) fun a ha => ?_
    obtain ⟨y, my, ey⟩ := List.mem_map.mp ha
    subst ey
    have nn : neG (tupD y) (tupD x) = .ok (.dat (.bool (!decide (y = x)))) := by rw [ne_sh (sh_tup (hs y my)) (sh_tup (hs x mx)), eqv_tup]
    refine ⟨_, rfl, tst_e (?_ : _ = Res.ok (EV.dat (.bool (decide (lotD (tupD y) ≠ x))), φ)), fun _ => ⟨.dat (.bool (subL x y)), ?_, by rw [lot_tup]; rfl⟩⟩
    · simp [wipeD, nn, lot_tup]
    · simp [wipeD, includes_e (hs y my) (hs x mx)]
  have outer : lcM [2] (seqI (vD 1)) (setN 2) (notT (tst (callM anyG (consA (lcM [3] (seqI (vD 1)) (setN 3) (tst (op2 neG (vD 3) (vD 2))) (appM 2 m_includes (consA (vD 3) (consA (vD 2) nilA)))) nilA)))) (vD 2) [some d, some (.list ((sortU ltL f).map tupD)), none, none] φ =
      .ok (.own ((((sortU ltL f).map tupD).filter fun a => ((sortU ltL f).filter fun y => decide (y ≠ lotD a) && subL (lotD a) y).isEmpty).map id), φ) := by
    refine lc_pure _ id (seqI_l (by simp)) (by rw [List.length_map]; exact len) fun a ha => ?_
    obtain ⟨x, mx, ex⟩ := List.mem_map.mp ha
    subst ex
    refine ⟨[some d, some (.list ((sortU ltL f).map tupD)), some (tupD x), none], rfl, ?_, fun _ => ⟨.dat (tupD x), rfl, rfl⟩⟩
    have e : ((((sortU ltL f).map tupD).filter fun y => decide (lotD y ≠ x)).map fun y => PyData.bool (subL x (lotD y))) = (((sortU ltL f).filter fun y => decide (y ≠ x)).map fun y => subL x y).map PyData.bool := by
      rw [List.filter_map, List.map_map, List.map_map]
      have e1 : ((fun y => decide (lotD y ≠ x)) ∘ tupD) = fun y => decide (y ≠ x) := funext fun y => by
        show decide (lotD (tupD y) ≠ x) = _
        rw [lot_tup]
      rw [e1]
      refine List.map_congr_left fun y _ => ?_
      show PyData.bool (subL x (lotD (tupD y))) = _
      rw [lot_tup]
      rfl
    simp only [notT_e, tst_b, callM_e, consA_e, inner x mx, bind_e, nilA_e, toD_own]
    rw [e, anyG_e]
    simp only [bind_e]
    rw [any_map', lot_tup, ← maxU_any]
  simp only [callM_e, consA_e, outer, bind_e, nilA_e, toD_own, tupleG_l, List.map_id]
  rw [List.filter_map]
  have e : ((fun a => ((sortU ltL f).filter fun y => decide (y ≠ lotD a) && subL (lotD a) y).isEmpty) ∘ tupD) = fun x => ((sortU ltL f).filter fun y => decide (y ≠ x) && subL x y).isEmpty := funext fun x => by
    show (((sortU ltL f).filter fun y => decide (y ≠ lotD (tupD x)) && subL (lotD (tupD x)) y).isEmpty) = _
    rw [lot_tup]
  rw [e]
  rfl
theorem snoc {α : Type} {es : List α} (h : es ≠ []) : ∃ as p, es = as ++ [p] := ⟨es.dropLast, es.getLast h, (List.dropLast_concat_getLast h).symm⟩
theorem name_str {d : D} (h : nameB d = true) : ∃ x, d = .str x := by
  cases d with
  | str x => exact ⟨x, rfl⟩
  | none => cases h
  | bool b => cases h
  | int i => cases h
  | list l => cases h
  | tuple l => cases h
  | dict l => cases h
def famF (hs : List Str) : D → Bool
  | .tuple (x :: xs) => (x :: xs).all (lotF hs) && decide (topU ((x :: xs).map lotD) = (x :: xs).map lotD)
  | _ => false
theorem is_family_e {hs : List Str} {d : D} {n : Nat} (hh : okL hs) (h : Pt d 40 n) (hn : n ≤ 400000) (few : ∀ ds, d = .tuple ds → ds.length < 64) : m_is_family_of [tupD hs, d] φ = .ok (.dat (.bool (famF hs d)), φ) := by
  have isi := h.sh.isi (T := "tuple") (φ := φ)
  have q : eqG d (.tuple []) = .ok (.dat (.bool (PyData.eqv d (.tuple [])))) := eq_sh h.sh (Sh.tup (k := 0) fun d m => by cases m)
  cases d with
  | tuple ds =>
    have isi : isiD "tuple" (.tuple ds) φ = .ok (.dat (.bool true), φ) := isi
    cases ds with
    | nil =>
      have q : eqG (.tuple []) (.tuple []) = .ok (.dat (.bool true)) := q
      apply eq_of
      unfold m_is_family_of b_is_family_of
      rw [fnM_o]
      generalize tupD hs = X
      simp [isi, q, famF]
    | cons x xs =>
      have q : eqG (.tuple (x :: xs)) (.tuple []) = .ok (.dat (.bool false)) := q
      have fw := few (x :: xs) rfl
      have part := h.part
      have ell : (x :: xs).length ≤ 1000000 := by omega
      have ef : famF hs (.tuple (x :: xs)) = ((x :: xs).all (lotF hs) && decide (topU ((x :: xs).map lotD) = (x :: xs).map lotD)) := rfl
      rw [ef]
      generalize hds : x :: xs = ds at *
      have lc := fun r2 => lc_eq (φ := φ) (set := setN 2) (mt := yesT) (me := appM 2 m_is_lot_of (consA (vD 0) (consA (vD 2) nilA))) (as := ds) (ρ0 := [some (tupD hs), some (.tuple ds), r2]) (fun _ => true) (fun d => PyData.bool (lotF hs d)) fun d hd => by
        have e := is_lot_e (φ := φ) hh (part d hd) hn
        refine ⟨_, rfl, rfl, fun _ => ?_⟩
        generalize tupD hs = X at e
        simp [e]
      have e1 : (ds.filter fun _ => true).map (fun d => PyData.bool (lotF hs d)) = (ds.map (lotF hs)).map .bool := by
        rw [List.filter_eq_self.mpr fun _ _ => rfl, List.map_map]
        rfl
      rw [e1] at lc
      have ea : allG [.list ((ds.map (lotF hs)).map .bool)] = .ok (.dat (.bool (ds.all (lotF hs)))) := by
        rw [allG_e, all_map]
      generalize (ds.map (lotF hs)).map PyData.bool = BL at lc ea
      apply eq_of
      unfold m_is_family_of b_is_family_of
      rw [fnM_o]
      cases hb : ds.all (lotF hs) with
      | false =>
        rw [hb] at ea
        generalize tupD hs = X at lc
        simp [isi, q, lc, ell, ea]
      | true =>
        rw [hb] at ea
        obtain ⟨f, ed, hf⟩ := all_lots hb
        have ok : ∀ y ∈ f, okL y := fun y my z mz => hh z ((hf y my).1 z mz)
        have em : ds.map lotD = f := by rw [ed, map_lot]
        rw [em]
        have gr : m_greatest [.tuple ds] φ = .ok (.dat (famD (topU f)), φ) := greatest_e (.inl (by rw [ed])) ok (by rw [ed, List.length_map] at fw; exact fw)
        have eg : eqG (famD (topU f)) (.tuple ds) = .ok (.dat (.bool (decide (topU f = f)))) := by
          rw [ed]
          show eqG (famD (topU f)) (famD f) = _
          rw [eq_sh (sh_fam fun y my => ok y (mem_topU.mp my).1) (sh_fam ok), eqv_fam]
        generalize famD (topU f) = G at gr eg
        generalize tupD hs = X at lc
        simp [isi, q, lc, ell, ea, gr, eg]
  | none => rfl
  | bool b => rfl
  | int i => rfl
  | str x => rfl
  | list ds => rfl
  | dict kv =>
    have := h.sh.lay
    simp [PyData.canLay0] at this
theorem name_set_e {d : D} {n : Nat} (h : Pt d 40 n) (hn : n ≤ 400000) : m_is_name_set [d] φ = .ok (.dat (.bool (setF d)), φ) := by
  have isi := h.sh.isi (T := "tuple") (φ := φ)
  cases d with
  | tuple ds =>
    have isi : isiD "tuple" (.tuple ds) φ = .ok (.dat (.bool true), φ) := isi
    have lc := fun r1 => lc_eq (φ := φ) (set := setN 1) (mt := yesT) (me := appM 1 m_is_name (consA (vD 1) nilA)) (as := ds) (ρ0 := [some (.tuple ds), r1]) (fun _ => true) (fun d => PyData.bool (nameB d)) fun d hd => by
      have e := name_e (φ := φ) (h.part d hd) (by omega)
      refine ⟨_, rfl, rfl, fun _ => ?_⟩
      simp [e]
    have e1 : (ds.filter fun _ => true).map (fun d => PyData.bool (nameB d)) = (ds.map nameB).map .bool := by
      rw [List.filter_eq_self.mpr fun _ _ => rfl, List.map_map]
      rfl
    rw [e1] at lc
    have ll : ds.length ≤ 1000000 := by have := h.len; omega
    have ea : allG [.list ((ds.map nameB).map .bool)] = .ok (.dat (.bool (ds.all nameB))) := by
      rw [allG_e, all_map]
    have el : setF (.tuple ds) = (ds.all nameB && ascB (ds.map strD)) := rfl
    rw [el]
    generalize (ds.map nameB).map PyData.bool = BL at lc ea
    apply eq_of
    unfold m_is_name_set b_is_name_set
    rw [fnM_o]
    cases hb : ds.all nameB with
    | false =>
      rw [hb] at ea
      simp [isi, lc, ll, ea]
    | true =>
      rw [hb] at ea
      obtain ⟨xs, ed, hx⟩ := all_names hb
      have e : ds.map strD = xs := by rw [ed, List.map_map]; exact List.map_id' _
      rw [e]
      have as : m_ascend [.tuple ds] φ = .ok (.dat (.bool (ascB xs)), φ) := by
        rw [ed]
        exact ascend_e (by rw [ed, List.length_map] at ll; exact ll)
      simp [isi, lc, ll, ea, as]
  | none => rfl
  | bool b => rfl
  | int i => rfl
  | str x => rfl
  | list ds => rfl
  | dict kv =>
    have := h.sh.lay
    simp [PyData.canLay0] at this
def housesF (d : D) : Bool := setF d && !PyData.eqv d (.tuple [])
theorem houses_e {d : D} {n : Nat} (h : Pt d 40 n) (hn : n ≤ 400000) : m_are_houses [d] φ = .ok (.dat (.bool (housesF d)), φ) := by
  have q : neG d (.tuple []) = .ok (.dat (.bool (!PyData.eqv d (.tuple [])))) := ne_sh h.sh (Sh.tup (k := 0) fun d m => by cases m)
  have s := name_set_e (φ := φ) h hn
  apply eq_of
  unfold m_are_houses b_are_houses housesF
  rw [fnM_o]
  cases hb : setF d with
  | false =>
    rw [hb] at s
    simp [s]
  | true =>
    rw [hb] at s
    simp [s, q]
def netF : D → Bool
  | .tuple [h, .tuple fs] => housesF h && (decide (fs.length = (lotD h).length) && fs.all (famF (lotD h)))
  | _ => false
def Nar (d : D) : Prop := ∀ h fs, d = .tuple [h, .tuple fs] → ∀ f ∈ fs, ∀ ls, f = .tuple ls → ls.length < 64
theorem houses_tup {d : D} (h : housesF d = true) : ∃ xs, d = tupD xs ∧ (∀ x ∈ xs, nameB (.str x) = true) ∧ ascB xs = true ∧ xs ≠ [] := by
  unfold housesF at h
  rw [Bool.and_eq_true] at h
  obtain ⟨xs, rfl, hx, ha⟩ := set_iff.mp h.1
  refine ⟨xs, rfl, hx, ha, fun e => ?_⟩
  subst e
  exact absurd h.2 (by decide)
theorem tup2 {d : D} (h : tupN 2 d = true) : ∃ a b, d = .tuple [a, b] := by
  unfold tupN at h
  split at h
  · rename_i ds
    match ds, of_decide_eq_true h with
    | [a, b], _ => exact ⟨a, b, rfl⟩
  · cases h
theorem net_no {d : D} (h : tupN 2 d = false) : netF d = false := by
  unfold netF
  split
  · cases h
  · rfl
theorem net_e {d : D} {n : Nat} (h : Pt d 40 n) (hn : n ≤ 400000) (w : Nar d) : m_is_net [d] φ = .ok (.dat (.bool (netF d)), φ) := by
  have t2 := is_tup (φ := φ) h.sh 2
  have t2 : m_is_tuple_of [d, .int 2] φ = .ok (.dat (.bool (tupN 2 d)), φ) := t2
  apply eq_of
  unfold m_is_net b_is_net
  rw [fnM_o]
  cases ht : tupN 2 d with
  | false =>
    rw [ht] at t2
    rw [net_no ht]
    simp [t2]
  | true =>
    rw [ht] at t2
    obtain ⟨a, b, rfl⟩ := tup2 ht
    have pa := h.part a (by simp)
    have pb := h.part b (by simp)
    have ha := houses_e (φ := φ) pa hn
    cases hh : housesF a with
    | false =>
      rw [hh] at ha
      have e : netF (.tuple [a, b]) = false := by
        unfold netF
        split
        · rename_i h' fs e
          cases e
          rw [hh]
          rfl
        · rfl
      rw [e]
      simp [t2, ha]
    | true =>
      rw [hh] at ha
      obtain ⟨xs, rfl, hx, hasc, hne⟩ := houses_tup hh
      have ok : okL xs := fun x m => name_strOk (hx x m)
      have ll : lenG [tupD xs] = .ok (.dat (.int (xs.length : Int))) := by show Res.ok (EV.dat (PyData.int (xs.map PyData.str).length)) = _; rw [List.length_map]
      have tb := is_tup (φ := φ) pb.sh xs.length
      cases hb : tupN xs.length b with
      | false =>
        rw [hb] at tb
        have e : netF (.tuple [tupD xs, b]) = false := by
          unfold netF
          split
          · rename_i h' fs e
            cases e
            have : decide (fs.length = xs.length) = false := hb
            rw [lot_tup, this]
            simp
          · rfl
        rw [e]
        generalize tupD xs = X at ha ll t2
        simp [t2, ha, ll, tb]
      | true =>
        rw [hb] at tb
        obtain ⟨fs, rfl⟩ : ∃ fs, b = .tuple fs := by
          unfold tupN at hb
          split at hb
          · exact ⟨_, rfl⟩
          · cases hb
        have hlen : decide (fs.length = xs.length) = true := hb
        have e : netF (.tuple [tupD xs, .tuple fs]) = fs.all (famF xs) := by
          show (housesF (tupD xs) && (decide (fs.length = (lotD (tupD xs)).length) && fs.all (famF (lotD (tupD xs))))) = _
          rw [hh, lot_tup, hlen]
          rfl
        rw [e]
        have lc := fun r0 r3 => lc_eq (φ := φ) (set := setN 3) (mt := yesT) (me := appM 2 m_is_family_of (consA (vD 1) (consA (vD 3) nilA))) (as := fs) (ρ0 := [r0, some (tupD xs), some (.tuple fs), r3]) (fun _ => true) (fun d => PyData.bool (famF xs d)) fun d hd => by
          have e := is_family_e (φ := φ) ok (pb.part d hd) hn fun ls el => w _ _ rfl d hd ls el
          refine ⟨_, rfl, rfl, fun _ => ?_⟩
          generalize tupD xs = X at e
          simp [e]
        have e1 : (fs.filter fun _ => true).map (fun d => PyData.bool (famF xs d)) = (fs.map (famF xs)).map .bool := by
          rw [List.filter_eq_self.mpr fun _ _ => rfl, List.map_map]
          rfl
        rw [e1] at lc
        have lf : fs.length ≤ 1000000 := by have := pb.len; omega
        have ea : allG [.list ((fs.map (famF xs)).map .bool)] = .ok (.dat (.bool (fs.all (famF xs)))) := by
          rw [allG_e, all_map]
        generalize (fs.map (famF xs)).map PyData.bool = BL at lc ea
        generalize tupD xs = X at ha ll t2 lc
        simp [t2, ha, ll, tb, lc, lf, ea]
end
end V23
set_option maxHeartbeats 4000000
namespace V23
open PySem PySem.Spec PyProof.Rows L2 VI
def cutL (c x : List Str) : List Str := x.filter fun y => memB y c
def compL (xs ys : List Str) : List Str := xs.filter fun x => !memB x ys
theorem minU_any (l : List (List Str)) (x : List Str) : (!((l.filter fun y => decide (y ≠ x)).any fun y => subL y x)) = (l.filter fun y => decide (y ≠ x) && subL y x).isEmpty := by
  induction l with
  | nil => rfl
  | cons y l ih =>
    by_cases h : y = x
    · simpa [List.filter_cons, h] using ih
    · cases h2 : subL y x with
      | true => simp [List.filter_cons, h, h2]
      | false => simpa [List.filter_cons, h, h2] using ih
section
variable {φ : FS}
theorem common_e {x c : List Str} (hx : okL x) (hc : okL c) (hl : x.length ≤ 1000) : m_common [tupD x, tupD c] φ = .ok (.dat (tupD (cutL c x)), φ) := by
  have lc := lc_eq (φ := φ) (set := setN 2) (mt := tst (op2 (inG false) (vD 2) (vD 1))) (me := vD 2) (as := x.map PyData.str) (ρ0 := [some (tupD x), some (tupD c), none]) (fun d => inS c d) id fun a ha => by
    obtain ⟨y, my, rfl⟩ := List.mem_map.mp ha
    have hi := in_tupD (neg := false) (sh_str (k := 0) (hx y my)) hc
    refine ⟨_, rfl, ?_, fun _ => by simp⟩
    generalize tupD x = X
    generalize tupD c = C at hi
    simp [hi]
  have ef : ((x.map PyData.str).filter fun d => inS c d).map id = (cutL c x).map .str := by
    rw [List.map_id, List.filter_map]
    unfold cutL
    congr 1
    exact List.filter_congr fun y _ => inS_str
  rw [ef] at lc
  have sq : ∀ φ, seqD (tupD x) φ = .ok (x.map .str, φ) := fun φ => rfl
  have ll : (x.map PyData.str).length ≤ 1000000 := by rw [List.length_map]; omega
  have tg : tupleG [.list ((cutL c x).map PyData.str)] = .ok (.dat (tupD (cutL c x))) := rfl
  apply eq_of
  unfold m_common b_common
  rw [fnM_o]
  generalize tupD (cutL c x) = R at *
  generalize (cutL c x).map PyData.str = CL at *
  generalize x.map PyData.str = XL at *
  generalize tupD x = X at *
  generalize tupD c = C at *
  simp [soft_c, sq, ll, lc, tg]
theorem filt_e {xs ys : List Str} (hx : okL xs) (hy : okL ys) : lcGo (setN 2) (tst (op2 (inG true) (vD 2) (vD 1))) (vD 2) [some (tupD xs), some (tupD ys), none] (xs.map PyData.str) φ = .ok ((compL xs ys).map PyData.str, φ) := by
  have key := lc_eq (φ := φ) (set := setN 2) (mt := tst (op2 (inG true) (vD 2) (vD 1))) (me := vD 2) (as := xs.map PyData.str) (ρ0 := [some (tupD xs), some (tupD ys), none]) (fun d => !memB (strD d) ys) id fun a ha => by
    obtain ⟨x, mx, rfl⟩ := List.mem_map.mp ha
    have hi := in_tupD (neg := true) (sh_str (k := 0) (hx x mx)) hy
    rw [inS_str] at hi
    have e : strD (.str x) = x := rfl
    refine ⟨_, rfl, ?_, fun _ => by simp⟩
    rw [e]
    generalize tupD ys = Y at hi
    simp [hi]
  rw [key, List.map_id, List.filter_map]
  rfl
theorem without_e {xs ys : List Str} (hx : okL xs) (hy : okL ys) (hl : xs.length ≤ 1000) : m_without [tupD xs, tupD ys] φ = .ok (.dat (tupD (compL xs ys)), φ) := by
  have f := filt_e (φ := φ) hx hy
  have h1 : (xs.map PyData.str).length ≤ 1000000 := by rw [List.length_map]; omega
  have sq : ∀ φ, seqD (tupD xs) φ = .ok (xs.map .str, φ) := fun φ => rfl
  apply eq_of
  unfold m_without b_without
  rw [fnM_o]
  have e : tupD (compL xs ys) = .tuple ((compL xs ys).map PyData.str) := rfl
  rw [e]
  generalize (compL xs ys).map PyData.str = CS at f ⊢
  generalize xs.map PyData.str = XS at h1 f sq
  generalize tupD xs = X at f sq
  generalize tupD ys = Y at f
  simp [soft_c, sq, h1, f]
theorem least_e {f : List (List Str)} {d : D} (hd : d = .tuple (f.map tupD) ∨ d = .list (f.map tupD)) (hf : ∀ x ∈ f, okL x) (hl : f.length < 64) : m_least [d] φ = .ok (.dat (famD (lsU f)), φ) := by
  have h0 : ssM (vD 0) (soft [] (startS 4 [d])) φ = .ok (.own ((sortU ltL f).map tupD), φ) := ssM_e (e := .dat d) (ds := f.map tupD) (by simp) (by rcases hd with e | e <;> rw [e] <;> simp) (ssG_tup hl)
  refine fn_rt ((seq_nx (asgD_e h0 (by simp))).trans (ret_e ?_))
  have len : (sortU ltL f).length ≤ 1000000 := Nat.le_trans sortU_len (by omega)
  have hs : ∀ x ∈ sortU ltL f, okL x := fun x m => hf x ((mem_sortU tot_L).mp m)
  simp only [aft_nil, toD_own, start_cons, start_nil, List.set_cons_succ, List.set_cons_zero, List.replicate_succ, List.replicate_zero, soft_d, soft_o, soft_n]
  have inner : ∀ x ∈ sortU ltL f, lcM [3] (seqI (vD 1)) (setN 3) (tst (op2 neG (vD 3) (vD 2))) (appM 2 m_includes (consA (vD 2) (consA (vD 3) nilA))) [some d, some (.list ((sortU ltL f).map tupD)), some (tupD x), none] φ =
      .ok (.own ((((sortU ltL f).map tupD).filter fun y => decide (lotD y ≠ x)).map fun y => .bool (subL (lotD y) x)), φ) := fun x mx => by
    refine lc_pure _ _ (seqI_l (by simp)) (by rw [List.length_map]; exact len) fun a ha => ?_
    obtain ⟨y, my, ey⟩ := List.mem_map.mp ha
    subst ey
    have nn : neG (tupD y) (tupD x) = .ok (.dat (.bool (!decide (y = x)))) := by rw [ne_sh (sh_tup (hs y my)) (sh_tup (hs x mx)), eqv_tup]
    refine ⟨_, rfl, tst_e (?_ : _ = Res.ok (EV.dat (.bool (decide (lotD (tupD y) ≠ x))), φ)), fun _ => ⟨.dat (.bool (subL y x)), ?_, by rw [lot_tup]; rfl⟩⟩
    · simp [wipeD, nn, lot_tup]
    · simp [wipeD, includes_e (hs x mx) (hs y my)]
  have outer : lcM [2] (seqI (vD 1)) (setN 2) (notT (tst (callM anyG (consA (lcM [3] (seqI (vD 1)) (setN 3) (tst (op2 neG (vD 3) (vD 2))) (appM 2 m_includes (consA (vD 2) (consA (vD 3) nilA)))) nilA)))) (vD 2) [some d, some (.list ((sortU ltL f).map tupD)), none, none] φ =
      .ok (.own ((((sortU ltL f).map tupD).filter fun a => ((sortU ltL f).filter fun y => decide (y ≠ lotD a) && subL y (lotD a)).isEmpty).map id), φ) := by
    refine lc_pure _ id (seqI_l (by simp)) (by rw [List.length_map]; exact len) fun a ha => ?_
    obtain ⟨x, mx, ex⟩ := List.mem_map.mp ha
    subst ex
    refine ⟨[some d, some (.list ((sortU ltL f).map tupD)), some (tupD x), none], rfl, ?_, fun _ => ⟨.dat (tupD x), rfl, rfl⟩⟩
    have e : ((((sortU ltL f).map tupD).filter fun y => decide (lotD y ≠ x)).map fun y => PyData.bool (subL (lotD y) x)) = (((sortU ltL f).filter fun y => decide (y ≠ x)).map fun y => subL y x).map PyData.bool := by
      rw [List.filter_map, List.map_map, List.map_map]
      have e1 : ((fun y => decide (lotD y ≠ x)) ∘ tupD) = fun y => decide (y ≠ x) := funext fun y => by
        show decide (lotD (tupD y) ≠ x) = _
        rw [lot_tup]
      rw [e1]
      refine List.map_congr_left fun y _ => ?_
      show PyData.bool (subL (lotD (tupD y)) x) = _
      rw [lot_tup]
      rfl
    simp only [notT_e, tst_b, callM_e, consA_e, inner x mx, bind_e, nilA_e, toD_own]
    rw [e, anyG_e]
    simp only [bind_e]
    rw [any_map', lot_tup, ← minU_any]
  simp only [callM_e, consA_e, outer, bind_e, nilA_e, toD_own, tupleG_l, List.map_id]
  rw [List.filter_map]
  have e : ((fun a => ((sortU ltL f).filter fun y => decide (y ≠ lotD a) && subL y (lotD a)).isEmpty) ∘ tupD) = fun x => ((sortU ltL f).filter fun y => decide (y ≠ x) && subL y x).isEmpty := funext fun x => by
    show (((sortU ltL f).filter fun y => decide (y ≠ lotD (tupD x)) && subL y (lotD (tupD x))).isEmpty) = _
    rw [lot_tup]
  rw [e]
  rfl
end
end V23
set_option maxHeartbeats 4000000
namespace V23
open PySem PySem.Spec PyProof.Rows L2 VI
section
variable {φ : FS}
theorem okL_sub {V x : List Str} (hV : okL V) (h : ∀ z ∈ x, z ∈ V) : okL x := fun z m => hV z (h z m)
theorem cut_hit {q k : List Str} : (cutL q k = []) ↔ hitB q k = false := by
  rw [← Bool.not_eq_true, hitB_iff]
  unfold cutL
  rw [List.filter_eq_nil_iff]
  constructor
  · rintro h ⟨z, h1, h2⟩
    exact h z h2 (memB_iff.mpr h1)
  · intro h z m z2
    exact h ⟨z, memB_iff.mp z2, m⟩
/-- sorted(k + (h,)) -/
theorem ins_sorted {V k : List Str} {h : Str} (hV : Asc V) (hk : k.Sublist V) (hh : h ∈ V) (hn : h ∉ k) : sortU ltS (k ++ [h]) = insV V h k := by
  refine asc_same tot_S (sortU_asc tot_S _) (hV.sublist List.filter_sublist) fun z => ?_
  rw [mem_sortU tot_S, mem_insV hk hh, List.mem_append, List.mem_singleton]
theorem nodup_asc {x : List Str} (h : Asc x) : x.Nodup := h.imp fun {a b} h e => by
  subst e
  rw [tot_S.irr] at h
  cases h
theorem with_e {V k q : List Str} (hV : Asc V) (oV : okL V) (lV : V.length ≤ 60) (hk : k.Sublist V) (hq : ∀ h ∈ q, h ∈ V) (lq : q.length ≤ 1000) : m_with_one_of [tupD k, tupD q] φ = .ok (.own ((stepV V q k).map tupD), φ) := by
  apply eq_of
  have ok : okL k := okL_sub oV fun z m => hk.subset m
  have oq : okL q := okL_sub oV hq
  have lk : k.length ≤ 60 := Nat.le_trans hk.length_le lV
  have co := common_e (φ := φ) ok oq (by omega)
  have oc : okL (cutL q k) := okL_sub ok fun z m => (List.mem_filter.mp m).1
  have on : okL [] := fun _ m => by cases m
  have ne : neG (tupD (cutL q k)) (.tuple []) = .ok (.dat (.bool (!decide (cutL q k = [])))) := by
    show neG (tupD _) (tupD []) = _
    rw [ne_sh (sh_tup oc) (sh_tup on), eqv_tup]
  unfold m_with_one_of b_with_one_of stepV
  rw [fnM_o]
  cases hb : hitB q k with
  | true =>
    have e : decide (cutL q k = []) = false := decide_eq_false fun z => by
      rw [cut_hit.mp z] at hb
      cases hb
    rw [e] at ne
    rw [if_pos rfl]
    generalize tupD (cutL q k) = C at *
    generalize hK : tupD k = K at *
    generalize tupD q = Q at *
    simp [soft_c, co, ne, hK]
  | false =>
    have e : decide (cutL q k = []) = true := decide_eq_true (cut_hit.mpr hb)
    rw [e] at ne
    have nh : ∀ h ∈ q, h ∉ k := fun h m z => by
      have : hitB q k = true := hitB_iff.mpr ⟨h, m, z⟩
      rw [hb] at this
      cases this
    have lc : ∀ r2, lcGo (setN 2) yesT (callM tupleG (consA (callM srt3G (consA (op2 addG (vD 0) (tupM (consA (vD 2) nilA))) nilA)) nilA)) [some (tupD k), some (tupD q), r2] (q.map PyData.str) φ = .ok (q.map fun h => tupD (insV V h k), φ) := fun r2 => by
      have key := lc_eq (φ := φ) (set := setN 2) (mt := yesT) (me := callM tupleG (consA (callM srt3G (consA (op2 addG (vD 0) (tupM (consA (vD 2) nilA))) nilA)) nilA)) (as := q.map PyData.str) (ρ0 := [some (tupD k), some (tupD q), r2]) (fun _ => true) (fun d => tupD (insV V (strD d) k)) fun a ha => by
        obtain ⟨h, mh, rfl⟩ := List.mem_map.mp ha
        have ad : addG (tupD k) (.tuple [.str h]) = .ok (.dat (tupD (k ++ [h]))) := by
          have := add_tt (xs := k.map PyData.str) (ys := [.str h]) (by rw [List.length_map]; simp; omega)
          show addG (.tuple _) _ = _
          rw [this]
          show _ = Res.ok (EV.dat (.tuple ((k ++ [h]).map PyData.str)))
          rw [List.map_append]
          rfl
        have nd : (k ++ [h]).Nodup := by
          rw [List.nodup_append]
          refine ⟨nodup_asc (hV.sublist hk), by simp, fun a ma b mb => ?_⟩
          rw [List.mem_singleton.mp mb]
          intro z
          subst z
          exact nh a mh ma
        have st : srt3G [tupD (k ++ [h])] = .ok (.own ((sortU ltS (k ++ [h])).map .str)) := by
          show srtL ((k ++ [h]).map PyData.str) = _
          unfold srtL
          rw [strsOf_map]
          dsimp only
          rw [if_pos ⟨by simp; omega, nd⟩]
        rw [ins_sorted hV hk (hq h mh) (nh h mh)] at st
        have tg : tupleG [.list ((insV V h k).map PyData.str)] = .ok (.dat (tupD (insV V h k))) := rfl
        have es : strD (.str h) = h := rfl
        refine ⟨_, rfl, rfl, fun _ => ?_⟩
        rw [es]
        generalize tupD (insV V h k) = R at *
        generalize (insV V h k).map PyData.str = RL at *
        generalize tupD (k ++ [h]) = K1 at *
        generalize tupD k = K at *
        simp [ad, st, tg]
      rw [key, List.filter_eq_self.mpr fun _ _ => rfl, List.map_map]
      rfl
    have sq : ∀ φ, seqD (tupD q) φ = .ok (q.map .str, φ) := fun φ => rfl
    have ll : (q.map PyData.str).length ≤ 1000000 := by rw [List.length_map]; omega
    have em : (q.map fun h => tupD (insV V h k)) = (q.map fun h => insV V h k).map tupD := by rw [List.map_map]; rfl
    rw [em] at lc
    rw [if_neg (by simp)]
    generalize (q.map fun h => insV V h k).map tupD = RL at *
    generalize tupD (cutL q k) = C at *
    generalize q.map PyData.str = QL at *
    generalize tupD k = K at *
    generalize tupD q = Q at *
    simp [soft_c, co, ne, sq, ll, lc]
end
end V23
set_option maxHeartbeats 4000000
namespace V23
open PySem PySem.Spec PyProof.Rows L2 VI
section
variable {φ : FS}
theorem lc_id (r0 r1 r2 r3 : Option D) : ∀ L : List D, lcGo (setN 4) yesT (vD 4) [r0, r1, r2, r3, none] L φ = .ok (L, φ)
  | [] => rfl
  | d :: L => by
    have ih := lc_id r0 r1 r2 r3 L
    show (match setN 4 d [r0, r1, r2, r3, none] with
      | none => Res.bad
      | some ρ1 => (yesT ρ1 φ).bind fun r => if r.1 = true then (vD 4 ρ1 r.2).bind fun r1' => (lcGo (setN 4) yesT (vD 4) [r0, r1, r2, r3, none] L r1'.2).bind fun r2' => .ok (r1'.1.toD :: r2'.1, r2'.2) else lcGo (setN 4) yesT (vD 4) [r0, r1, r2, r3, none] L r.2) = _
    show ((lcGo (setN 4) yesT (vD 4) [r0, r1, r2, r3, none] L φ).bind fun r2' => .ok (d :: r2'.1, r2'.2)) = _
    rw [ih]
    rfl
def wM : ME := appM 2 m_with_one_of (consA (vD 3) (consA (vD 2) nilA))
structure Hs (V : List Str) : Prop where
  asc : Asc V
  ok : okL V
  few : V.length ≤ 5
theorem step_len {V q k : List Str} (lq : q.length ≤ 5) : (stepV V q k).length ≤ 5 := by
  unfold stepV
  split
  · simp
  · rw [List.length_map]; exact lq
theorem lc_step {V q : List Str} (hV : Hs V) (hq : q.Sublist V) (r0 r1 : Option D) : ∀ K : List (List Str), (∀ k ∈ K, k.Sublist V) →
    lcGo2 [4] (setN 3) yesT (seqI wM) (setN 4) yesT (vD 4) [r0, r1, some (tupD q), none, none] (K.map tupD) φ = .ok ((K.flatMap (stepV V q)).map tupD, φ)
  | [], _ => rfl
  | k :: K, h => by
    have ih := lc_step hV hq r0 r1 K fun x m => h x (by simp [m])
    have lq : q.length ≤ 5 := Nat.le_trans hq.length_le hV.few
    have w := with_e (φ := φ) hV.asc hV.ok (by have := hV.few; omega) (h k (by simp)) (fun z m => hq.subset m) (by omega)
    have m1 : seqI wM [r0, r1, some (tupD q), some (tupD k), none] φ = .ok ((stepV V q k).map tupD, φ) := by
      apply eq_of
      unfold wM
      have sq : ∀ L φ, seqD (.list L) φ = .ok (L, φ) := fun L φ => rfl
      generalize (stepV V q k).map tupD = L at *
      generalize tupD q = Q at *
      generalize tupD k = K1 at *
      simp [w, sq]
    have ln : ((stepV V q k).map tupD).length ≤ 1000 := by rw [List.length_map]; have := step_len (V := V) (k := k) lq; omega
    have li := lc_id (φ := φ) r0 r1 (some (tupD q)) (some (tupD k)) ((stepV V q k).map tupD)
    rw [List.map_cons, List.flatMap_cons, List.map_append]
    show ((yesT [r0, r1, some (tupD q), some (tupD k), none] φ).bind fun r => if r.1 = true then (seqI wM [r0, r1, some (tupD q), some (tupD k), none] r.2).bind fun r1' => if r1'.1.length ≤ 1000 then (lcGo (setN 4) yesT (vD 4) (wipeD [r0, r1, some (tupD q), some (tupD k), none] [4]) r1'.1 r1'.2).bind fun r2 => (lcGo2 [4] (setN 3) yesT (seqI wM) (setN 4) yesT (vD 4) [r0, r1, some (tupD q), none, none] (K.map tupD) r2.2).bind fun r3 => .ok (r2.1 ++ r3.1, r3.2) else .bad else lcGo2 [4] (setN 3) yesT (seqI wM) (setN 4) yesT (vD 4) [r0, r1, some (tupD q), none, none] (K.map tupD) r.2) = _
    show ((seqI wM [r0, r1, some (tupD q), some (tupD k), none] φ).bind fun r1' => if r1'.1.length ≤ 1000 then (lcGo (setN 4) yesT (vD 4) [r0, r1, some (tupD q), some (tupD k), none] r1'.1 r1'.2).bind fun r2 => (lcGo2 [4] (setN 3) yesT (seqI wM) (setN 4) yesT (vD 4) [r0, r1, some (tupD q), none, none] (K.map tupD) r2.2).bind fun r3 => .ok (r2.1 ++ r3.1, r3.2) else .bad) = _
    rw [m1, bind_e]
    dsimp only
    rw [if_pos ln, li, bind_e]
    dsimp only
    rw [ih]
    rfl
def subs : List Str → List (List Str)
  | [] => [[]]
  | v :: V => subs V ++ (subs V).map (v :: ·)
theorem mem_subs : ∀ {V x : List Str}, x.Sublist V → x ∈ subs V
  | [], x, h => by
    rw [List.sublist_nil.mp h]
    exact List.mem_singleton.mpr rfl
  | v :: V, x, h => by
    show x ∈ subs V ++ (subs V).map (v :: ·)
    rw [List.mem_append]
    cases h with
    | cons _ h => exact .inl (mem_subs h)
    | cons_cons _ h => exact .inr (List.mem_map.mpr ⟨_, mem_subs h, rfl⟩)
theorem len_subs : ∀ V : List Str, (subs V).length = 2 ^ V.length
  | [] => rfl
  | v :: V => by
    show (subs V ++ (subs V).map (v :: ·)).length = _
    rw [List.length_append, List.length_map, len_subs V, List.length_cons, Nat.pow_succ]
    omega
theorem subs_len {V : List Str} {K : List (List Str)} (nd : K.Nodup) (h : ∀ k ∈ K, k.Sublist V) : K.length ≤ 2 ^ V.length := by
  rw [← len_subs V]
  exact nd_le nd fun x m => mem_subs (h x m)
theorem cand_len (V q : List Str) : ∀ K : List (List Str), (K.flatMap (stepV V q)).length = (K.filter fun k => hitB q k).length + q.length * (K.filter fun k => !hitB q k).length
  | [] => by simp
  | k :: K => by
    have ih := cand_len V q K
    rw [List.flatMap_cons, List.length_append, ih]
    unfold stepV
    cases hb : hitB q k with
    | true => simp [hb]; omega
    | false => simp [hb, Nat.mul_add]; omega
theorem split_len {α : Type} (p : α → Bool) : ∀ V : List α, (V.filter fun z => p z).length + (V.filter fun z => !p z).length = V.length
  | [] => rfl
  | v :: V => by
    have ih := split_len p V
    cases e : p v with
    | true => simp [e]; omega
    | false => simp [e]; omega
theorem cand_few {V q : List Str} (hV : Hs V) (hq : q.Sublist V) {K : List (List Str)} (nd : K.Nodup) (h : ∀ k ∈ K, k.Sublist V) : (K.flatMap (stepV V q)).length < 64 := by
  have few := hV.few
  have h1 : (K.filter fun k => hitB q k).length ≤ 2 ^ V.length := subs_len (nd.sublist List.filter_sublist) fun k m => h k (List.mem_filter.mp m).1
  have h2 : (K.filter fun k => !hitB q k).length ≤ 2 ^ (V.filter fun z => !decide (z ∈ q)).length := by
    refine subs_len (nd.sublist List.filter_sublist) fun k m => ?_
    obtain ⟨m1, m2⟩ := List.mem_filter.mp m
    refine asc_sublist (hV.asc.sublist (h k m1)) (hV.asc.sublist List.filter_sublist) fun z mz => List.mem_filter.mpr ⟨(h k m1).subset mz, ?_⟩
    have : z ∉ q := fun z2 => by
      have : hitB q k = true := hitB_iff.mpr ⟨z, z2, mz⟩
      rw [this] at m2
      cases m2
    simp [this]
  have h3 : q.length + (V.filter fun z => !decide (z ∈ q)).length ≤ V.length := by
    have a : q.length ≤ (V.filter fun z => decide (z ∈ q)).length := nd_le (nodup_asc (hV.asc.sublist hq)) fun x m => List.mem_filter.mpr ⟨hq.subset m, by simp [m]⟩
    have b : (V.filter fun z => decide (z ∈ q)).length + (V.filter fun z => !decide (z ∈ q)).length = V.length := by
      exact split_len (fun z => decide (z ∈ q)) V
    omega
  have p1 : 2 ^ V.length ≤ 2 ^ 5 := Nat.pow_le_pow_right (by decide) few
  rw [cand_len]
  generalize (V.filter fun z => !decide (z ∈ q)).length = n at h2 h3
  generalize (K.filter fun k => !hitB q k).length = b at h2 ⊢
  generalize (K.filter fun k => hitB q k).length = a at h1 ⊢
  generalize q.length = m at h3 ⊢
  have hn : n ≤ 5 - m := by omega
  have p2 : 2 ^ n ≤ 2 ^ (5 - m) := Nat.pow_le_pow_right (by decide) hn
  have hm : m ≤ 5 := by omega
  have hb : b ≤ 2 ^ (5 - m) := Nat.le_trans h2 p2
  have t : m * b ≤ m * 2 ^ (5 - m) := Nat.mul_le_mul_left _ hb
  have u : m * 2 ^ (5 - m) ≤ 16 := by
    match m, hm with
    | 0, _ => decide
    | 1, _ => decide
    | 2, _ => decide
    | 3, _ => decide
    | 4, _ => decide
    | 5, _ => decide
  have p3 : (2 : Nat) ^ 5 = 32 := rfl
  omega
end
end V23
set_option maxHeartbeats 4000000
namespace V23
open PySem PySem.Spec PyProof.Rows L2 VI
section
variable {φ : FS}
theorem lsU_nodup (f : List (List Str)) : (lsU f).Nodup := (lsU_asc f).imp fun {a b} h e => by
  subst e
  rw [tot_L.irr] at h
  cases h
def kM : MS := asgD [] 1 (appM 1 m_least (consA (lcM2 [3, 4] [4] (seqI (vD 1)) (setN 3) yesT (seqI wM) (setN 4) yesT (vD 4)) nilA))
theorem kers_o : b_least_kernels = seqM (asgD [] 1 (tupM (consA (tupM nilA) nilA))) (seqM (forM [] (seqI (vD 0)) (setNS 2) kM) (retV 1)) := rfl
theorem kM_e {V q : List Str} (hV : Hs V) (hq : q.Sublist V) {K : List (List Str)} (nd : K.Nodup) (h : ∀ k ∈ K, k.Sublist V) (F : D) : kM [some (.dat F), some (.dat (famD K)), some (.dat (tupD q)), none, none] φ = .ok (.nx, [some (.dat F), some (.dat (famD (lsU (K.flatMap (stepV V q))))), some (.dat (tupD q)), none, none], φ) := by
  have few := cand_few hV hq nd h
  have lK : K.length ≤ 32 := by
    have := subs_len nd h
    have p1 : 2 ^ V.length ≤ 2 ^ 5 := Nat.pow_le_pow_right (by decide) hV.few
    have p3 : (2 : Nat) ^ 5 = 32 := rfl
    omega
  have okc : ∀ x ∈ K.flatMap (stepV V q), okL x := fun x m => by
    obtain ⟨k, mk, mx⟩ := List.mem_flatMap.mp m
    have tk : Trv V [] k := ⟨h k mk, fun p mp => by cases mp⟩
    exact okL_sub hV.ok fun z mz => (step_tr tk (fun z m => hq.subset m) mx).1.sub.subset mz
  have le := least_e (φ := φ) (f := K.flatMap (stepV V q)) (d := .list ((K.flatMap (stepV V q)).map tupD)) (.inr rfl) okc few
  have lc := lc_step (φ := φ) hV hq (some F) (some (famD K)) K h
  have sq : seqI (vD 1) [some F, some (famD K), some (tupD q), none, none] φ = .ok (K.map tupD, φ) := rfl
  have wi : wipeD [some F, some (famD K), some (tupD q), none, none] [3, 4] = [some F, some (famD K), some (tupD q), none, none] := rfl
  have l2 : lcM2 [3, 4] [4] (seqI (vD 1)) (setN 3) yesT (seqI wM) (setN 4) yesT (vD 4) [some F, some (famD K), some (tupD q), none, none] φ = .ok (.own ((K.flatMap (stepV V q)).map tupD), φ) := by
    show ((seqI (vD 1) [some F, some (famD K), some (tupD q), none, none] φ).bind fun r => if r.1.length ≤ 1000 then (lcGo2 [4] (setN 3) yesT (seqI wM) (setN 4) yesT (vD 4) (wipeD [some F, some (famD K), some (tupD q), none, none] [3, 4]) r.1 r.2).bind fun r2 => .ok (EV.own r2.1, r2.2) else .bad) = _
    rw [sq, bind_e]
    dsimp only
    rw [if_pos (by rw [List.length_map]; omega), wi, lc]
    rfl
  apply eq_of
  unfold kM
  generalize lcM2 [3, 4] [4] (seqI (vD 1)) (setN 3) yesT (seqI wM) (setN 4) yesT (vD 4) = LM at l2 ⊢
  generalize (K.flatMap (stepV V q)).map tupD = CL at *
  generalize famD (lsU (K.flatMap (stepV V q))) = R at *
  generalize famD K = KD at *
  generalize tupD q = Q at *
  simp [soft_c, aft, l2, le]
theorem kers_loop {V : List Str} (hV : Hs V) (F : D) : ∀ (G P K : List (List Str)) (o2 : Option EV), (∀ q ∈ G, q.Sublist V) → (∀ x, x ∈ K ↔ MinT V P x) → K.Nodup →
    ∃ o2', forGo (setNS 2) kM (G.map tupD) [some (.dat F), some (.dat (famD K)), o2, none, none] φ = .ok (.nx, [some (.dat F), some (.dat (famD (G.foldl (fun K q => lsU (K.flatMap (stepV V q))) K))), o2', none, none], φ)
  | [], P, K, o2, _, _, _ => ⟨o2, rfl⟩
  | q :: G, P, K, o2, hG, hK, nd => by
    have hq := hG q (by simp)
    have st : setNS 2 (tupD q) [some (.dat F), some (.dat (famD K)), o2, none, none] = some [some (.dat F), some (.dat (famD K)), some (.dat (tupD q)), none, none] := rfl
    obtain ⟨o2', ih⟩ := kers_loop hV F G (P ++ [q]) (lsU (K.flatMap (stepV V q))) (some (.dat (tupD q))) (fun p m => hG p (by simp [m])) (berge hV.asc hK fun z m => hq.subset m) (lsU_nodup _)
    refine ⟨o2', ?_⟩
    rw [List.map_cons, forGo_c, st]
    dsimp only
    rw [kM_e hV hq nd (fun k m => ((hK k).mp m).tr.sub) F, bind_e]
    exact ih
theorem kernels_e {V : List Str} (hV : Hs V) {F : List (List Str)} (hF : ∀ q ∈ F, q.Sublist V) : m_least_kernels [famD F] φ = .ok (.dat (famD (kersV V F)), φ) := by
  obtain ⟨o2', lp⟩ := kers_loop (φ := φ) hV (famD F) F [] [[]] none hF none_min (by simp)
  have s1 : asgD [] 1 (tupM (consA (tupM nilA) nilA)) [some (.dat (famD F)), none, none, none, none] φ = .ok (.nx, [some (.dat (famD F)), some (.dat (famD [[]])), none, none, none], φ) := rfl
  have sq : seqI (vD 0) (soft [] [some (.dat (famD F)), some (.dat (famD [[]])), none, none, none]) φ = .ok (F.map tupD, φ) := rfl
  unfold m_least_kernels
  rw [fnM_o, kers_o, show startS 5 [famD F] = [some (.dat (famD F)), none, none, none, none] from rfl, seqM_o, s1, bind_e]
  dsimp only
  rw [seqM_o, forM_o, sq, bind_e, settle_nil]
  dsimp only
  rw [lp, bind_e]
  rfl
end
end V23
set_option maxHeartbeats 4000000
namespace V23
open PySem PySem.Spec PyProof.Rows L2 VI
def allH (F : List (List Str)) (x : List Str) : Bool := F.all fun q => hitB q x
def isK (F : List (List Str)) (x : List Str) : Bool := allH F x && !(x.any fun h => allH F (compL x [h]))
theorem allH_iff {F : List (List Str)} {x : List Str} : allH F x = true ↔ ∀ q ∈ F, ∃ h, h ∈ q ∧ h ∈ x := by
  unfold allH
  rw [List.all_eq_true]
  exact ⟨fun h q m => hitB_iff.mp (h q m), fun h q m => hitB_iff.mpr (h q m)⟩
theorem mem_comp {x : List Str} {h z : Str} : z ∈ compL x [h] ↔ z ∈ x ∧ z ≠ h := by
  unfold compL
  rw [List.mem_filter]
  refine and_congr_right fun _ => ?_
  rw [Bool.not_eq_true', memB_no, List.mem_singleton]
theorem isK_iff {V : List Str} (hV : Asc V) {F : List (List Str)} {x : List Str} (hx : x.Sublist V) : isK F x = true ↔ MinT V F x := by
  unfold isK
  rw [Bool.and_eq_true, Bool.not_eq_true', allH_iff, ← Bool.not_eq_true, List.any_eq_true]
  constructor
  · rintro ⟨h1, h2⟩
    refine ⟨⟨hx, h1⟩, fun y ty sy => sub_eq hV ty.sub hx fun z => ⟨sy z, fun mz => Classical.byContradiction fun nz => h2 ⟨z, mz, ?_⟩⟩⟩
    refine allH_iff.mpr fun q mq => ?_
    obtain ⟨h, a, b⟩ := ty.hit q mq
    exact ⟨h, a, mem_comp.mpr ⟨sy h b, fun e => nz (e ▸ b)⟩⟩
  · intro m
    refine ⟨m.tr.hit, fun ⟨h, mh, a⟩ => ?_⟩
    have e := m.min (compL x [h]) ⟨(List.filter_sublist).trans hx, allH_iff.mp a⟩ fun z mz => (mem_comp.mp mz).1
    have : h ∈ compL x [h] := by rw [e]; exact mh
    exact (mem_comp.mp this).2 rfl
/-- all lots of these houses, ascending -/
structure Evr (V : List Str) (E : List (List Str)) : Prop where
  asc : E.Pairwise fun x y => ltL x y = true
  mem : ∀ x, x ∈ E ↔ x.Sublist V
theorem due_eq {V : List Str} (hV : Asc V) {F : List (List Str)} (hF : ∀ q ∈ F, q.Sublist V) {E : List (List Str)} (hE : Evr V E) (kA : (kersV V F).Pairwise fun x y => ltL x y = true) : lsU (E.filter (allH F)) = kersV V F := by
  refine asc_same tot_L (lsU_asc _) kA fun x => ?_
  rw [kers_iff hV (fun q m h mh => (hF q m).subset mh), mem_lsU]
  have tr : ∀ y, y ∈ E.filter (allH F) ↔ Trv V F y := fun y => by
    rw [List.mem_filter, hE.mem, allH_iff]
    exact ⟨fun h => ⟨h.1, h.2⟩, fun h => ⟨h.sub, h.hit⟩⟩
  constructor
  · rintro ⟨m, h⟩
    refine ⟨(tr x).mp m, fun y ty sy => Classical.byContradiction fun ne => ?_⟩
    have := h y ((tr y).mpr ty) ne
    rw [subL_iff.mpr sy] at this
    cases this
  · intro m
    refine ⟨(tr x).mpr m.tr, fun y my ne => ?_⟩
    cases s : subL y x with
    | false => rfl
    | true => exact absurd (m.min y ((tr y).mp my) (subL_iff.mp s)) ne
theorem fil_eq {V : List Str} (hV : Asc V) {F : List (List Str)} (hF : ∀ q ∈ F, q.Sublist V) {E : List (List Str)} (hE : Evr V E) (kA : (kersV V F).Pairwise fun x y => ltL x y = true) : E.filter (isK F) = kersV V F := by
  refine asc_same tot_L (hE.asc.sublist List.filter_sublist) kA fun x => ?_
  rw [kers_iff hV (fun q m h mh => (hF q m).subset mh), List.mem_filter, hE.mem]
  exact ⟨fun h => (isK_iff hV h.1).mp h.2, fun h => ⟨h.tr.sub, (isK_iff hV h.tr.sub).mpr h⟩⟩
theorem kers_asc (V : List Str) (F : List (List Str)) : (kersV V F).Pairwise fun x y => ltL x y = true := by
  have go : ∀ (G K : List (List Str)), (K.Pairwise fun x y => ltL x y = true) → (G.foldl (fun K q => lsU (K.flatMap (stepV V q))) K).Pairwise fun x y => ltL x y = true := by
    intro G
    induction G with
    | nil => intro K h; exact h
    | cons q G ih => intro K _; exact ih _ (lsU_asc _)
  exact go F [[]] (by simp)
section
variable {φ : FS}
theorem lc_eqG {γ : Type} {set : D → Env' → Option Env'} {me : ME} {f g : γ → D} {ρ0 : Env'} : ∀ {as : List γ}, (∀ a ∈ as, ∃ ρ1, set (f a) ρ0 = some ρ1 ∧ sat (me ρ1 φ) fun r => r.1.toD = g a ∧ r.2 = φ) → lcGo set yesT me ρ0 (as.map f) φ = .ok (as.map g, φ)
  | [], _ => rfl
  | a :: as, h => by
    have ih := lc_eqG (set := set) (me := me) (f := f) (g := g) (ρ0 := ρ0) (as := as) fun b m => h b (by simp [m])
    obtain ⟨ρ1, h1, ⟨⟨e, φ'⟩, h2, h3, h4⟩⟩ := h a (by simp)
    dsimp only at h3 h4
    subst h4
    rw [List.map_cons, List.map_cons, ← h3]
    unfold lcGo
    rw [h1]
    dsimp only
    have y : yesT ρ1 φ' = .ok (true, φ') := rfl
    rw [y, bind_e, if_pos rfl, h2, bind_e, ih]
    rfl
theorem meets_e {V x : List Str} (hV : Hs V) (hx : x.Sublist V) {F : List (List Str)} (hF : ∀ q ∈ F, q.Sublist V) (lF : F.length ≤ 1000) : m_meets_each [tupD x, famD F] φ = .ok (.dat (.bool (allH F x)), φ) := by
  have ox : okL x := okL_sub hV.ok fun z m => hx.subset m
  have lx : x.length ≤ 1000 := by have := hx.length_le; have := hV.few; omega
  have on : okL [] := fun _ m => by cases m
  have lc := lc_eqG (φ := φ) (set := setN 2) (me := op2 neG (appM 2 m_common (consA (vD 0) (consA (vD 2) nilA))) (tupM nilA)) (f := tupD) (g := fun q => PyData.bool (hitB q x)) (ρ0 := [some (tupD x), some (famD F), none]) (as := F) fun q mq => by
    have oq : okL q := okL_sub hV.ok fun z m => (hF q mq).subset m
    have co := common_e (φ := φ) ox oq lx
    have oc : okL (cutL q x) := okL_sub ox fun z m => (List.mem_filter.mp m).1
    have ne : neG (tupD (cutL q x)) (.tuple []) = .ok (.dat (.bool (!decide (cutL q x = [])))) := by
      show neG (tupD (cutL q x)) (tupD []) = _
      rw [ne_sh (sh_tup oc) (sh_tup on), eqv_tup]
    have e : (!decide (cutL q x = [])) = hitB q x := by
      cases hb : hitB q x with
      | false => rw [decide_eq_true (cut_hit.mpr hb)]; rfl
      | true => rw [decide_eq_false fun z => by rw [cut_hit.mp z] at hb; cases hb]; rfl
    rw [e] at ne
    refine ⟨_, rfl, ?_⟩
    generalize tupD (cutL q x) = C at *
    generalize tupD x = X at *
    generalize tupD q = Q at *
    generalize famD F = FD at *
    simp [co, ne]
  have sq : ∀ φ, seqD (famD F) φ = .ok (F.map tupD, φ) := fun φ => rfl
  have ll : (F.map tupD).length ≤ 1000000 := by rw [List.length_map]; omega
  have al : allG [.list (F.map fun q => PyData.bool (hitB q x))] = .ok (.dat (.bool (allH F x))) := by
    have e : (F.map fun q => PyData.bool (hitB q x)) = (F.map fun q => hitB q x).map .bool := by rw [List.map_map]; rfl
    rw [e, allG_e]
    unfold allH
    rw [List.all_map]
    rfl
  apply eq_of
  unfold m_meets_each b_meets_each
  rw [fnM_o]
  generalize (F.map fun q => PyData.bool (hitB q x)) = BL at *
  generalize F.map tupD = FL at *
  generalize tupD x = X at *
  generalize famD F = FD at *
  simp [soft_c, sq, ll, lc, al]
end
end V23
set_option maxHeartbeats 4000000
namespace V23
open PySem PySem.Spec PyProof.Rows L2 VI
section
variable {φ : FS}
def emB : D → Bool
  | .tuple ds => ds.any fun z => PyData.eqv z (.tuple [])
  | _ => false
def quoF (hs : List Str) (d : D) : Bool := famF hs d && !emB d
def quosF (hs : List Str) : D → Bool
  | .tuple fs => decide (fs.length = hs.length) && fs.all (quoF hs)
  | _ => false
def NarQ (d : D) : Prop := ∀ fs, d = .tuple fs → ∀ f ∈ fs, ∀ ls, f = .tuple ls → ls.length < 64
theorem fam_tup {hs : List Str} {d : D} (h : famF hs d = true) : ∃ ds, d = .tuple ds := by
  unfold famF at h
  split at h
  · exact ⟨_, rfl⟩
  · cases h
theorem no_empty {d : D} {n : Nat} (h : Pt d 40 n) {ds : List D} (e : d = .tuple ds) : inG true (.tuple []) d = .ok (.dat (.bool (!emB d))) := by
  subst e
  have s1 : SeqAt.shaped (.tuple []) = true := rfl
  have s2 : SeqAt.shaped (.list ds) = true := (Sh.lst (k := 40) fun z mz => (h.part z mz).sh).shaped
  show (if SeqAt.shaped (.tuple []) = true ∧ SeqAt.shaped (.list ds) = true then rb (true ^^ ds.any fun z => PyData.eqv z (.tuple [])) else .bad) = _
  rw [if_pos ⟨s1, s2⟩]
  show Res.ok (EV.dat (.bool (true ^^ ds.any fun z => PyData.eqv z (.tuple [])))) = _
  rw [Bool.true_xor]
  rfl
theorem quos_e {hs : List Str} {d : D} {n : Nat} (hh : okL hs) (h : Pt d 40 n) (hn : n ≤ 400000) (w : NarQ d) : m_are_quorums_of [tupD hs, d] φ = .ok (.dat (.bool (quosF hs d)), φ) := by
  have tb := is_tup (φ := φ) h.sh hs.length
  have ll : lenG [tupD hs] = .ok (.dat (.int (hs.length : Int))) := by show Res.ok (EV.dat (PyData.int (hs.map PyData.str).length)) = _; rw [List.length_map]
  apply eq_of
  unfold m_are_quorums_of b_are_quorums_of
  rw [fnM_o]
  cases ht : tupN hs.length d with
  | false =>
    rw [ht] at tb
    have e : quosF hs d = false := by
      unfold quosF
      split
      · rename_i fs
        have : decide (fs.length = hs.length) = false := ht
        rw [this]
        rfl
      · rfl
    rw [e]
    generalize tupD hs = X at ll
    simp [ll, tb]
  | true =>
    rw [ht] at tb
    obtain ⟨fs, rfl⟩ : ∃ fs, d = .tuple fs := by
      unfold tupN at ht
      split at ht
      · exact ⟨_, rfl⟩
      · cases ht
    have hlen : decide (fs.length = hs.length) = true := ht
    have e : quosF hs (.tuple fs) = fs.all (quoF hs) := by
      show (decide (fs.length = hs.length) && fs.all (quoF hs)) = _
      rw [hlen]
      rfl
    rw [e]
    have lc := fun r2 => lc_eq (φ := φ) (set := setN 2) (mt := yesT) (me := andM (appM 2 m_is_family_of (consA (vD 0) (consA (vD 2) nilA))) (op2 (inG true) (tupM nilA) (vD 2))) (as := fs) (ρ0 := [some (tupD hs), some (.tuple fs), r2]) (fun _ => true) (fun d => PyData.bool (quoF hs d)) fun d hd => by
      have e := is_family_e (φ := φ) hh (h.part d hd) hn fun ls el => w _ rfl d hd ls el
      refine ⟨_, rfl, rfl, fun _ => ?_⟩
      unfold quoF
      cases hf : famF hs d with
      | false =>
        rw [hf] at e
        generalize tupD hs = X at e
        simp [e]
      | true =>
        rw [hf] at e
        obtain ⟨ds, ed⟩ := fam_tup hf
        have ne := no_empty (h.part d hd) ed
        generalize tupD hs = X at e
        simp [e, ne]
    have e1 : (fs.filter fun _ => true).map (fun d => PyData.bool (quoF hs d)) = (fs.map (quoF hs)).map .bool := by
      rw [List.filter_eq_self.mpr fun _ _ => rfl, List.map_map]
      rfl
    rw [e1] at lc
    have lf : fs.length ≤ 1000000 := by have := h.len; omega
    have ea : allG [.list ((fs.map (quoF hs)).map .bool)] = .ok (.dat (.bool (fs.all (quoF hs)))) := by
      rw [allG_e, all_map]
    generalize (fs.map (quoF hs)).map PyData.bool = BL at lc ea
    generalize tupD hs = X at ll lc
    simp [ll, tb, lc, lf, ea]
def famAt (hs : List Str) (fs : List (List (List Str))) (h : Str) : List (List Str) := match hs.findIdx? (· == h) with
  | some i => fs.getD i []
  | none => []
theorem find_at {hs : List Str} {h : Str} (m : h ∈ hs) : ∃ i, hs.findIdx? (· == h) = some i ∧ hs[i]? = some h := by
  induction hs with
  | nil => cases m
  | cons a r ih =>
    by_cases e : a = h
    · subst e
      exact ⟨0, by simp [List.findIdx?_cons], rfl⟩
    · obtain ⟨i, h1, h2⟩ := ih ((List.mem_cons.mp m).resolve_left fun z => e z.symm)
      refine ⟨i + 1, ?_, h2⟩
      rw [List.findIdx?_cons]
      have : (a == h) = false := by simpa using e
      rw [this, h1]
      rfl
theorem fam_mem {hs : List Str} {fs : List (List (List Str))} (hl : fs.length = hs.length) {h : Str} (m : h ∈ hs) : ∃ i f, hs.findIdx? (· == h) = some i ∧ fs[i]? = some f ∧ famAt hs fs h = f ∧ f ∈ fs := by
  obtain ⟨i, h1, h2⟩ := find_at m
  have hi : i < fs.length := by
    have := (List.getElem?_eq_some_iff.mp h2).1
    omega
  refine ⟨i, fs[i], h1, List.getElem?_eq_getElem hi, ?_, List.getElem_mem hi⟩
  unfold famAt
  rw [h1]
  dsimp only
  rw [List.getD_eq_getElem?_getD, List.getElem?_eq_getElem hi]
  rfl
theorem famof_e {hs : List Str} {fs : List (List (List Str))} (hl : fs.length = hs.length) {h : Str} (m : h ∈ hs) : m_family_of [netD hs fs, .str h] φ = .ok (.dat (famD (famAt hs fs h)), φ) := by
  obtain ⟨i, f, h1, h2, h3, _⟩ := fam_mem hl m
  have ig := idxG_e h1
  have ix : ixG (.tuple (fs.map famD)) (.int (i : Int)) = .ok (.dat (famD f)) := ixG_n (by rw [List.getElem?_map, h2]; rfl)
  have up : ∀ φ, unpM [] [2, 3] (vD 0) [some (.dat (netD hs fs)), some (.dat (.str h)), none, none] φ = .ok (.nx, [some (.dat (netD hs fs)), some (.dat (.str h)), some (.dat (tupD hs)), some (.dat (.tuple (fs.map famD)))], φ) := fun φ => by
    have e : netD hs fs = .tuple [tupD hs, .tuple (fs.map famD)] := rfl
    rw [e]
    generalize tupD hs = X
    generalize PyData.tuple (fs.map famD) = F
    apply eq_of
    simp [soft_c]
  rw [h3]
  apply eq_of
  unfold m_family_of b_family_of
  rw [fnM_o, show startS 4 [netD hs fs, PyData.str h] = [some (.dat (netD hs fs)), some (.dat (.str h)), none, none] from rfl, seqM_o, up, bind_e]
  dsimp only
  generalize PyData.tuple (fs.map famD) = FT at *
  generalize tupD hs = X at *
  generalize netD hs fs = W at *
  simp [soft_c, ig, ix]
/-- a net and quorums that are asked for -/
structure Nq (V : List Str) (fs QS : List (List (List Str))) : Prop where
  hs : Hs V
  pn : Pt (netD V fs) 40 400000
  nn : Nar (netD V fs)
  net : netF (netD V fs) = true
  pq : Pt (.tuple (QS.map famD)) 40 400000
  nq : NarQ (.tuple (QS.map famD))
  quo : quosF V (.tuple (QS.map famD)) = true
  len : QS.length = V.length
  sub : ∀ Q ∈ QS, ∀ q ∈ Q, q.Sublist V
  few : ∀ Q ∈ QS, Q.length ≤ 60
theorem need_e {V : List Str} {fs QS : List (List (List Str))} (N : Nq V fs QS) : m_need_quorums [netD V fs, .tuple (QS.map famD)] φ = .ok (.dat .none, φ) := by
  have ie := net_e (φ := φ) N.pn (Nat.le_refl _) N.nn
  rw [N.net] at ie
  have qe := quos_e (φ := φ) N.hs.ok N.pq (Nat.le_refl _) N.nq
  rw [N.quo] at qe
  have i0 : ixG (netD V fs) (.int 0) = .ok (.dat (tupD V)) := ixG_n (i := 0) rfl
  have nd : ∀ w, m_need [.bool true, w] φ = .ok (.dat .none, φ) := fun w => rfl
  apply eq_of
  unfold m_need_quorums b_need_quorums
  rw [fnM_o]
  generalize netD V fs = W at *
  generalize tupD V = X at *
  generalize PyData.tuple (QS.map famD) = Q at *
  simp [soft_c, ie, qe, i0, nd]
theorem in_house {V : List Str} (ok : okL V) {h : Str} (m : h ∈ V) : inG false (.str h) (tupD V) = .ok (.dat (.bool true)) := by
  rw [in_tupD (sh_str (k := 0) (ok h m)) ok]
  have e : inS V (.str h) = true := by rw [inS_str]; exact memB_iff.mpr m
  rw [e]
  rfl
theorem kof_e {V : List Str} {fs QS : List (List (List Str))} (N : Nq V fs QS) {h : Str} (m : h ∈ V) : m_kernels_of [netD V fs, .tuple (QS.map famD), .str h] φ = .ok (.dat (famD (kersV V (famAt V QS h))), φ) := by
  have ne := need_e (φ := φ) N
  have i0 : ixG (netD V fs) (.int 0) = .ok (.dat (tupD V)) := ixG_n (i := 0) rfl
  have nd : ∀ w, m_need [.bool true, w] φ = .ok (.dat .none, φ) := fun w => rfl
  have ih := in_house N.hs.ok m
  have fo := famof_e (φ := φ) N.len m
  obtain ⟨_, f, _, _, ef, mf⟩ := fam_mem N.len m
  have ke := kernels_e (φ := φ) N.hs (F := famAt V QS h) fun q mq => N.sub _ (by rw [ef]; exact mf) q mq
  have e : netD V QS = .tuple [tupD V, .tuple (QS.map famD)] := rfl
  rw [e] at fo
  apply eq_of
  unfold m_kernels_of b_kernels_of
  rw [fnM_o]
  generalize famD (kersV V (famAt V QS h)) = R at *
  generalize famD (famAt V QS h) = FD at *
  generalize netD V fs = W at *
  generalize tupD V = X at *
  generalize PyData.tuple (QS.map famD) = Q at *
  simp [soft_c, ne, i0, ih, nd, fo, ke]
end
end V23
set_option maxHeartbeats 4000000
namespace V23
open PySem PySem.Spec PyProof.Rows L2 VI
section
variable {φ : FS}
theorem isK_e {V : List Str} {fs QS : List (List (List Str))} (N : Nq V fs QS) {h : Str} (m : h ∈ V) {x : List Str} (hx : x.Sublist V) : m_is_kernel [netD V fs, .tuple (QS.map famD), .str h, tupD x] φ = .ok (.dat (.bool (isK (famAt V QS h) x)), φ) := by
  have ne := need_e (φ := φ) N
  have i0 : ixG (netD V fs) (.int 0) = .ok (.dat (tupD V)) := ixG_n (i := 0) rfl
  have nd : ∀ w, m_need [.bool true, w] φ = .ok (.dat .none, φ) := fun w => rfl
  have ih := in_house N.hs.ok m
  have fo := famof_e (φ := φ) N.len m
  obtain ⟨_, f, _, _, ef, mf⟩ := fam_mem N.len m
  have sub : ∀ q ∈ famAt V QS h, q.Sublist V := fun q mq => N.sub _ (by rw [ef]; exact mf) q mq
  have few : (famAt V QS h).length ≤ 1000 := by have := N.few _ mf; rw [ef]; omega
  have lx : x.length ≤ 5 := Nat.le_trans hx.length_le N.hs.few
  have ox : okL x := okL_sub N.hs.ok fun z mz => hx.subset mz
  have lp : Pt (tupD x) 40 400000 := by
    have pV : Pt (tupD V) 40 400000 := N.pn.part (tupD V) (by simp [netD])
    refine ⟨prAll_iff.mpr fun d md => ?_, ?_, ?_⟩
    · obtain ⟨y, my, rfl⟩ := List.mem_map.mp md
      exact (pV.part (.str y) (List.mem_map_of_mem (hx.subset my))).pr
    · show PyData.depthAll (x.map PyData.str) + 1 ≤ 40
      have : PyData.depthAll (x.map PyData.str) ≤ 0 := depthAll_le fun d md => by
        obtain ⟨y, _, rfl⟩ := List.mem_map.mp md
        exact Nat.le_refl _
      omega
    · have key : ∀ {a b : List Str}, a.Sublist b → spAll (a.map PyData.str) ≤ spAll (b.map PyData.str) := by
        intro a b s
        induction s with
        | slnil => exact Nat.le_refl _
        | cons v _ ih =>
          rw [List.map_cons]
          show _ ≤ sp (.str v) + 2 + spAll _
          omega
        | cons_cons v _ ih =>
          rw [List.map_cons, List.map_cons]
          show sp (.str v) + 2 + spAll _ ≤ sp (.str v) + 2 + spAll _
          omega
      have a := key hx
      have b : spAll (V.map PyData.str) + 4 ≤ 400000 := pV.sz
      show spAll (x.map PyData.str) + 4 ≤ 400000
      omega
  have il := is_lot_e (φ := φ) N.hs.ok lp (Nat.le_refl _)
  rw [lot_iff.mpr ⟨x, rfl, fun y my => hx.subset my, ascB_of (N.hs.asc.sublist hx)⟩] at il
  have me := meets_e (φ := φ) N.hs hx sub few
  have lc := lc_eqG (φ := φ) (set := setN 5) (me := appM 2 m_meets_each (consA (appM 2 m_without (consA (vD 3) (consA (tupM (consA (vD 5) nilA)) nilA))) (consA (vD 4) nilA))) (f := PyData.str) (g := fun g => PyData.bool (allH (famAt V QS h) (compL x [g]))) (ρ0 := [some (netD V fs), some (.tuple (QS.map famD)), some (.str h), some (tupD x), some (famD (famAt V QS h)), none]) (as := x) fun g mg => by
    have og : okL [g] := fun z mz => by rw [List.mem_singleton.mp mz]; exact ox g mg
    have wo := without_e (φ := φ) ox og (by omega)
    have m2 := meets_e (φ := φ) N.hs (x := compL x [g]) ((List.filter_sublist).trans hx) sub few
    have t1 : ∀ r0 r1 r2 r3 r4 φ, tupM (consA (vD 5) nilA) [r0, r1, r2, r3, r4, some (.str g)] φ = .ok (.dat (tupD [g]), φ) := fun r0 r1 r2 r3 r4 φ => rfl
    refine ⟨_, rfl, ?_⟩
    generalize tupM (consA (vD 5) nilA) = T1 at t1 ⊢
    generalize tupD (compL x [g]) = R at *
    generalize tupD [g] = G at *
    generalize tupD x = X at *
    generalize netD V fs = W at *
    generalize PyData.tuple (QS.map famD) = Q at *
    generalize famD (famAt V QS h) = FD at *
    simp [t1, wo, m2]
  have sq : ∀ φ, seqD (tupD x) φ = .ok (x.map .str, φ) := fun φ => rfl
  have ll : (x.map PyData.str).length ≤ 1000000 := by rw [List.length_map]; omega
  have an : anyG [.list (x.map fun g => PyData.bool (allH (famAt V QS h) (compL x [g])))] = .ok (.dat (.bool (x.any fun g => allH (famAt V QS h) (compL x [g])))) := by
    have e : (x.map fun g => PyData.bool (allH (famAt V QS h) (compL x [g]))) = (x.map fun g => allH (famAt V QS h) (compL x [g])).map .bool := by rw [List.map_map]; rfl
    rw [e, anyG_e, List.any_map]
    rfl
  have e : netD V QS = .tuple [tupD V, .tuple (QS.map famD)] := rfl
  rw [e] at fo
  have ek : isK (famAt V QS h) x = (allH (famAt V QS h) x && !(x.any fun g => allH (famAt V QS h) (compL x [g]))) := rfl
  rw [ek]
  apply eq_of
  unfold m_is_kernel b_is_kernel
  rw [fnM_o]
  generalize (x.map fun g => PyData.bool (allH (famAt V QS h) (compL x [g]))) = BL at *
  generalize (x.any fun g => allH (famAt V QS h) (compL x [g])) = B2 at *
  generalize allH (famAt V QS h) x = B1 at *
  generalize famD (famAt V QS h) = FD at *
  generalize x.map PyData.str = XL at *
  generalize tupD x = X at *
  generalize netD V fs = W at *
  generalize tupD V = VX at *
  generalize PyData.tuple (QS.map famD) = Q at *
  cases B1 with
  | true => simp [soft_c, aft, ne, i0, ih, nd, il, fo, me, sq, ll, lc, an]
  | false => simp [soft_c, aft, ne, i0, ih, nd, il, fo, me]
end
end V23
set_option maxHeartbeats 4000000
namespace V23
open PySem PySem.Spec PyProof.Rows L2 VI
/-- a family of a net, or quorums, of these houses -/
structure FamV (V : List Str) (f : List (List Str)) : Prop where
  ne : f ≠ []
  few : f.length ≤ 60
  asc : f.Pairwise fun x y => ltL x y = true
  anti : ∀ x ∈ f, ∀ y ∈ f, y ≠ x → subL x y = false
  sub : ∀ x ∈ f, x.Sublist V
theorem FamV.top {V : List Str} {f : List (List Str)} (h : FamV V f) : topU f = f :=
  asc_same tot_L (topU_asc f) h.asc fun x => by rw [mem_topU]; exact ⟨fun m => m.1, fun m => ⟨m, h.anti x m⟩⟩
theorem FamV.bot {V : List Str} {f : List (List Str)} (h : FamV V f) : lsU f = f :=
  asc_same tot_L (lsU_asc f) h.asc fun x => by rw [mem_lsU]; exact ⟨fun m => m.1, fun m => ⟨m, fun y my ne => h.anti y my x m (Ne.symm ne)⟩⟩
theorem FamV.one {V : List Str} {f : List (List Str)} (h : FamV V f) : ∀ p ∈ f, ∀ q ∈ f, (∀ z ∈ p, z ∈ q) → p = q := fun p mp q mq s => Classical.byContradiction fun ne => by
  have := h.anti p mp q mq (Ne.symm ne)
  rw [subL_iff.mpr s] at this
  cases this
theorem famV_F {V : List Str} (ok : Asc V) {f : List (List Str)} (h : FamV V f) : famF V (famD f) = true := by
  cases f with
  | nil => exact absurd rfl h.ne
  | cons x xs =>
    show (((x :: xs).map tupD).all (lotF V) && decide (topU (((x :: xs).map tupD).map lotD) = ((x :: xs).map tupD).map lotD)) = true
    rw [map_lot, decide_eq_true h.top, Bool.and_true, List.all_eq_true]
    intro e me
    obtain ⟨y, my, rfl⟩ := List.mem_map.mp me
    exact lot_iff.mpr ⟨y, rfl, fun z mz => (h.sub y my).subset mz, ascB_of (ok.sublist (h.sub y my))⟩
/-- the kernels are quorums again -/
theorem kers_fam {V : List Str} (hV : Asc V) {F : List (List Str)} (hF : ∀ q ∈ F, q.Sublist V) (hne : ∀ q ∈ F, q ≠ []) (few : V.length ≤ 5) : FamV V (kersV V F) := by
  have iff := kers_iff hV (F := F) fun q m h mh => (hF q m).subset mh
  have tV : Trv V F V := ⟨List.Sublist.refl V, fun q m => by
    obtain ⟨h, r, e⟩ := List.exists_cons_of_ne_nil (hne q m)
    exact ⟨h, by rw [e]; simp, (hF q m).subset (by rw [e]; simp)⟩⟩
  have asc := kers_asc V F
  have nd : (kersV V F).Nodup := asc.imp fun {a b} h e => by
    subst e
    rw [tot_L.irr] at h
    cases h
  refine ⟨fun e => ?_, ?_, asc, fun x mx y my ne => ?_, fun x m => ((iff x).mp m).tr.sub⟩
  · obtain ⟨m, hm, _⟩ := min_below hV _ V (Nat.le_refl _) tV
    have := (iff m).mpr hm
    rw [e] at this
    cases this
  · have := subs_len nd fun k m => ((iff k).mp m).tr.sub
    have p1 : 2 ^ V.length ≤ 2 ^ 5 := Nat.pow_le_pow_right (by decide) few
    have p3 : (2 : Nat) ^ 5 = 32 := rfl
    omega
  · cases s : subL x y with
    | false => rfl
    | true => exact absurd (((iff y).mp my).min x ((iff x).mp mx).tr (subL_iff.mp s)).symm ne
theorem kers_nonempty {V : List Str} (hV : Asc V) {F : List (List Str)} (hF : ∀ q ∈ F, q.Sublist V) (ne : F ≠ []) : ∀ x ∈ kersV V F, x ≠ [] := fun x m e => by
  have iff := kers_iff hV (F := F) fun q m h mh => (hF q m).subset mh
  obtain ⟨q, r, ef⟩ := List.exists_cons_of_ne_nil ne
  obtain ⟨h, _, hx⟩ := ((iff x).mp m).tr.hit q (by rw [ef]; simp)
  rw [e] at hx
  cases hx
/-- theirs again -/
theorem kers_kers {V : List Str} (hV : Asc V) {F : List (List Str)} (h : FamV V F) : kersV V (kersV V F) = F := by
  have iff := kers_iff hV (F := F) fun q m g mg => (h.sub q m).subset mg
  have iff2 := kers_iff hV (F := kersV V F) fun q m g mg => ((iff q).mp m).tr.sub.subset mg
  refine asc_same tot_L (kers_asc V _) h.asc fun x => ?_
  rw [iff2, dual hV iff h.sub h.one x]
end V23
set_option maxHeartbeats 4000000
namespace V23
open PySem PySem.Spec PyProof.Rows L2 VI
theorem draw_e {n : Int} (h0 : 0 < n) (h1 : n < 18446744073709551616) (φ : FS) : sat (m_w_draw [.dict [], .int n] φ) fun r => ∃ z, r.1 = .dat (.int z) ∧ 0 ≤ z ∧ z < n := by
  have small : ∀ z : Int, 0 ≤ z % n ∧ z % n < n := fun z => ⟨Int.emod_nonneg z (by omega), Int.emod_lt_of_pos z h0⟩
  unfold m_w_draw b_w_draw
  rw [fnM_o]
  by_cases hl : 0 < φ.left
  · simp [hl, h0, h1, small]
  · by_cases hc : φ.cells = []
    · simp [hl, h0, h1, ne_ints, hc, mul_m, mul_c, small]
    · have ln : 0 < φ.cells.length := List.length_pos_iff.mpr hc
      have lp : (0 : Int) < φ.cells.length := by omega
      obtain ⟨c, ec⟩ := ix_ints (cs := φ.cells) (z := φ.nx % φ.cells.length) (Int.emod_nonneg _ (by omega)) (Int.emod_lt_of_pos _ lp)
      simp [hl, h0, h1, ne_ints, hc, ec, ln]
      by_cases hb : 1000000000000000000 ≤ c <;> by_cases hs : φ.nx < φ.cells.length <;> simp [hb, hs, h0, h1, mul_m, mul_c, small]
section
variable {φ : FS}
theorem any_e {ds : List D} {d0 : D} (hd : d0 = .list ds ∨ d0 = .tuple ds) (h : ds ≠ []) (hl : ds.length < 1000000) : sat (m_w_pick [.dict [], d0] φ) fun r => ∃ d ∈ ds, r.1 = .dat d := by
  have lp := List.length_pos_iff.mpr h
  unfold m_w_pick b_w_pick
  rw [fnM_o]
  have key : sat (m_w_draw [.dict [], .int (ds.length : Int)] φ) fun r => ∃ z, r.1 = .dat (.int z) ∧ 0 ≤ z ∧ z < ds.length := draw_e (by omega) (by omega) φ
  obtain ⟨⟨e, φ'⟩, e1, z, e2, z0, z1⟩ := key
  dsimp only at e2
  subst e2
  obtain ⟨d, md, ed⟩ := atI_in (ds := ds) z0 z1
  have ed' : ixG (.tuple ds) (.int z) = .ok (.dat d) := ed
  rcases hd with hd | hd <;> subst hd <;> simp [e1, ed, ed', md]
theorem draw_k {n : Int} {Q : EV × FS → Prop} (h0 : 0 < n) (h1 : n < 18446744073709551616) (k : ∀ (z : Nat) φ', (z : Int) < n → Q (.dat (.int z), φ')) : sat (m_w_draw [.dict [], .int n] φ) Q := by
  obtain ⟨⟨e, φ'⟩, e1, z, e2, z0, z1⟩ := draw_e h0 h1 φ
  dsimp only at e2
  subst e2
  obtain ⟨m, rfl⟩ := Int.eq_ofNat_of_zero_le z0
  exact ⟨_, e1, k m φ' z1⟩
theorem any_k {ds : List D} {d0 : D} {Q : EV × FS → Prop} (hd : d0 = .list ds ∨ d0 = .tuple ds) (h : ds ≠ []) (hl : ds.length < 1000000) (k : ∀ d ∈ ds, ∀ φ', Q (.dat d, φ')) : sat (m_w_pick [.dict [], d0] φ) Q := by
  obtain ⟨⟨e, φ'⟩, e1, d, md, e2⟩ := any_e (φ := φ) hd h hl
  dsimp only at e2
  subst e2
  exact ⟨_, e1, k d md φ'⟩
end
section
variable {φ : FS}
theorem lies_e {xs ys : List Str} (hx : okL xs) (hy : okL ys) (hl : xs.length ≤ 1000) : m_w_lies [tupD xs, tupD ys] φ = .ok (.dat (.bool (subL xs ys)), φ) := by
  apply eq_of
  unfold m_w_lies b_w_lies
  rw [fnM_o]
  have h1 : (xs.map PyData.str).length ≤ 1000000 := by rw [List.length_map]; omega
  have h2 : lcGo (setN 2) (tst (op2 (inG true) (vD 2) (vD 1))) (vD 2) [some (tupD xs), some (tupD ys), none] (xs.map PyData.str) φ = .ok (((xs.map PyData.str).filter fun d => !inS ys d).map id, φ) := lc_eq _ id fun a ha => by
    obtain ⟨x, mx, rfl⟩ := List.mem_map.mp ha
    have hi := in_tupD (neg := true) (sh_str (k := 0) (hx x mx)) hy
    refine ⟨_, rfl, ?_, fun _ => ?_⟩
    · generalize tupD ys = Y at hi
      simp [hi]
    · simp
  have h3 : eqG (.list ((xs.map PyData.str).filter fun d => !inS ys d)) (.list []) = .ok (.dat (.bool ((xs.map PyData.str).filter fun d => !inS ys d).isEmpty)) := eq_nil (k := 0) fun d m => by
    obtain ⟨x, mx, rfl⟩ := List.mem_map.mp (List.mem_filter.mp m).1
    exact sh_str (hx x mx)
  have h4 : ((xs.map PyData.str).filter fun d => !inS ys d).isEmpty = subL xs ys := by
    rw [Bool.eq_iff_iff, List.isEmpty_iff, List.filter_eq_nil_iff, subL_iff]
    constructor
    · intro h x m
      have := h (.str x) (List.mem_map_of_mem m)
      have : inS ys (.str x) = true := by simpa using this
      obtain ⟨y, my, e⟩ := inS_iff.mp this
      cases e
      exact my
    · intro h d m
      obtain ⟨x, mx, rfl⟩ := List.mem_map.mp m
      have : inS ys (.str x) = true := inS_iff.mpr ⟨x, h x mx, rfl⟩
      simp [this]
  simp only [List.map_id] at h2
  have sq : ∀ φ, seqD (tupD xs) φ = .ok (xs.map .str, φ) := fun φ => rfl
  generalize ((xs.map PyData.str).filter fun d => !inS ys d) = G at h2 h3 h4
  generalize xs.map PyData.str = XS at h1 h2 sq
  generalize tupD xs = X at h2 sq
  generalize tupD ys = Y at h2
  simp [sq, h1, h2, h3, h4]
theorem w_greatest_e {f : List (List Str)} (hf : ∀ x ∈ f, okL x ∧ x.length ≤ 1000) (hl : f.length < 64) : m_w_greatest [.list (f.map tupD)] φ = .ok (.dat (famD (topU f)), φ) := by
  have h0 : ssG (f.map tupD) = .ok (.own ((sortU ltL f).map tupD)) := ssG_tup hl
  have len : (sortU ltL f).length ≤ 1000000 := Nat.le_trans sortU_len (by omega)
  have hs : ∀ x ∈ sortU ltL f, okL x ∧ x.length ≤ 1000 := fun x m => hf x ((mem_sortU tot_L).mp m)
  have ss : ssM (callM listG (consA (vD 0) nilA)) [some (.list (f.map tupD)), none, none, none] φ = .ok (.own ((sortU ltL f).map tupD), φ) := by
    simp [ssM, h0]
  have inner : ∀ x ∈ sortU ltL f, lcGo (setN 3) (andT (tst (op2 neG (vD 3) (vD 2))) (tst (appM 2 m_w_lies (consA (vD 2) (consA (vD 3) nilA))))) (vD 3) [some (.list (f.map tupD)), some (.list ((sortU ltL f).map tupD)), some (tupD x), none] ((sortU ltL f).map tupD) φ =
      .ok (((sortU ltL f).filter fun y => decide (y ≠ x) && subL x y).map tupD, φ) := fun x mx => by
    have key := lc_eq (φ := φ) (set := setN 3) (mt := andT (tst (op2 neG (vD 3) (vD 2))) (tst (appM 2 m_w_lies (consA (vD 2) (consA (vD 3) nilA))))) (me := vD 3) (as := (sortU ltL f).map tupD) (ρ0 := [some (.list (f.map tupD)), some (.list ((sortU ltL f).map tupD)), some (tupD x), none]) (fun a => decide (lotD a ≠ x) && subL x (lotD a)) id fun a ha => by
      obtain ⟨y, my, rfl⟩ := List.mem_map.mp ha
      have nn : neG (tupD y) (tupD x) = .ok (.dat (.bool (!decide (y = x)))) := by rw [ne_sh (sh_tup (hs y my).1) (sh_tup (hs x mx).1), eqv_tup]
      have li := lies_e (φ := φ) (hs x mx).1 (hs y my).1 (hs x mx).2
      refine ⟨_, rfl, ?_, fun _ => by simp⟩
      rw [lot_tup]
      generalize (sortU ltL f).map tupD = SL
      generalize f.map tupD = FL
      generalize tupD x = X at nn li
      generalize tupD y = Y at nn li
      by_cases e : y = x
      · simp [nn, e]
      · simp [nn, e, li]
    rw [key]
    congr 2
    rw [List.map_id, List.filter_map]
    congr 1
    refine List.filter_congr fun y _ => ?_
    show (decide (lotD (tupD y) ≠ x) && subL x (lotD (tupD y))) = _
    rw [lot_tup]
  have outer : lcGo (setN 2) (tst (op2 eqG (lcM [3] (seqI (vD 1)) (setN 3) (andT (tst (op2 neG (vD 3) (vD 2))) (tst (appM 2 m_w_lies (consA (vD 2) (consA (vD 3) nilA))))) (vD 3)) (lstM nilA))) (vD 2) [some (.list (f.map tupD)), some (.list ((sortU ltL f).map tupD)), none, none] ((sortU ltL f).map tupD) φ = .ok ((topU f).map tupD, φ) := by
    have key := lc_eq (φ := φ) (set := setN 2) (mt := tst (op2 eqG (lcM [3] (seqI (vD 1)) (setN 3) (andT (tst (op2 neG (vD 3) (vD 2))) (tst (appM 2 m_w_lies (consA (vD 2) (consA (vD 3) nilA))))) (vD 3)) (lstM nilA))) (me := vD 2) (as := (sortU ltL f).map tupD) (ρ0 := [some (.list (f.map tupD)), some (.list ((sortU ltL f).map tupD)), none, none]) (fun a => ((sortU ltL f).filter fun y => decide (y ≠ lotD a) && subL (lotD a) y).isEmpty) id fun a ha => by
      obtain ⟨x, mx, rfl⟩ := List.mem_map.mp ha
      have inn := inner x mx
      have h3 : eqG (.list (((sortU ltL f).filter fun y => decide (y ≠ x) && subL x y).map tupD)) (.list []) = .ok (.dat (.bool ((sortU ltL f).filter fun y => decide (y ≠ x) && subL x y).isEmpty)) := by
        rw [eq_nil (k := 1) fun d m => by
          obtain ⟨y, my, rfl⟩ := List.mem_map.mp m
          exact sh_tup (hs y (List.mem_filter.mp my).1).1, List.isEmpty_map]
      have ln : ((sortU ltL f).map tupD).length ≤ 1000000 := by rw [List.length_map]; exact len
      refine ⟨_, rfl, ?_, fun _ => by simp⟩
      rw [lot_tup]
      generalize ((sortU ltL f).filter fun y => decide (y ≠ x) && subL x y) = G at inn h3
      generalize (sortU ltL f).map tupD = SL at inn ln
      generalize f.map tupD = FL at inn
      generalize tupD x = X at inn
      generalize (andT (tst (op2 neG (vD 3) (vD 2))) (tst (appM 2 m_w_lies (consA (vD 2) (consA (vD 3) nilA))))) = MT at inn
      simp [inn, ln, h3]
    rw [key]
    congr 2
    rw [List.map_id, List.filter_map]
    unfold topU maxU
    congr 1
    refine List.filter_congr fun x _ => ?_
    show ((sortU ltL f).filter fun y => decide (y ≠ lotD (tupD x)) && subL (lotD (tupD x)) y).isEmpty = _
    rw [lot_tup]
  have ln : ((sortU ltL f).map tupD).length ≤ 1000000 := by rw [List.length_map]; exact len
  apply eq_of
  unfold m_w_greatest b_w_greatest
  rw [fnM_o]
  generalize (tst (op2 eqG (lcM [3] (seqI (vD 1)) (setN 3) (andT (tst (op2 neG (vD 3) (vD 2))) (tst (appM 2 m_w_lies (consA (vD 2) (consA (vD 3) nilA))))) (vD 3)) (lstM nilA))) = MT at outer ⊢
  generalize (sortU ltL f).map tupD = SL at outer ss ln
  generalize f.map tupD = FL at outer ss
  generalize ssM (callM listG (consA (vD 0) nilA)) = SS at ss ⊢
  unfold famD
  generalize (topU f).map tupD = TL at outer
  simp [soft_c, ss, outer, ln]
def POOLS : List (List Str) := [["a", "b", "c", "d", "e", "f", "g", "h", "i"], ["a", "aa", "aaa", "ab", "b", "ba", "lot", "zz", "zzzzzzzz"], ["agree", "fallen", "fell", "naive", "rest", "rose", "round", "wise", "within"]]
theorem pools_ok : ∀ p ∈ POOLS, p.length = 9 ∧ Asc p ∧ ∀ x ∈ p, nameB (.str x) = true ∧ x ≠ ("nobody" : Str) := by decide +kernel
theorem pool_e : sat (m_w_pool [.dict []] φ) fun r => ∃ p ∈ POOLS, r.1 = .dat (.list (p.map .str)) := by
  unfold m_w_pool b_w_pool
  rw [fnM_o]
  simp
  refine any_k (ds := POOLS.map fun p => .list (p.map .str)) (.inl rfl) (by decide) (by decide) fun d md φ1 => ?_
  obtain ⟨p, mp, rfl⟩ := List.mem_map.mp md
  exact ⟨_, rfl, _, rfl, p, mp, rfl⟩
theorem part_e {xs : List Str} {d : D} {w : Int} (hd : d = .list (xs.map .str) ∨ d = .tuple (xs.map .str)) (hl : xs.length ≤ 1000) (w0 : 0 < w) (w1 : w < 1000) : sat (m_w_part [.dict [], d, .int w] φ) fun r => ∃ zs : List Str, r.1 = .dat (tupD zs) ∧ zs.Sublist xs := by
  unfold m_w_part b_w_part
  rw [fnM_o]
  have ll : (xs.map PyData.str).length ≤ 1000000 := by rw [List.length_map]; omega
  have sq : ∀ φ, seqD d φ = .ok (xs.map .str, φ) := fun φ => by rcases hd with rfl | rfl <;> rfl
  simp [soft_c, sq]
  rw [if_pos (by omega), sat_bind]
  refine sat_lc (fun pre3 ds _ => ∃ zs : List Str, ds = zs.map .str ∧ zs.Sublist (pre3.map strD)) ⟨[], rfl, .slnil⟩ (fun pre3 c post3 ds φ e3 hI => ?_) (fun ds φ hI => ?_)
  · obtain ⟨zs, rfl, sx⟩ := hI
    have mc : c ∈ xs.map PyData.str := by rw [e3]; simp
    obtain ⟨x, mx, rfl⟩ := List.mem_map.mp mc
    refine ⟨_, rfl, ?_⟩
    simp
    refine draw_k w0 (by omega) fun y φ4 hy => ?_
    have e5 : eqG (.int y) (.int 0) = .ok (.dat (.bool (decide ((y : Int) = 0)))) := by
      rw [eq_sh (k := 0) (k' := 0) Sh.int Sh.int]
      rfl
    simp [e5]
    by_cases hy0 : y = 0
    · simp [hy0]
      exact ⟨zs ++ [x], by simp, by simpa [strD] using sx.append (List.Sublist.refl [x])⟩
    · simp [hy0]
      exact ⟨zs, rfl, sx.trans (List.sublist_append_left _ _)⟩
  · obtain ⟨zs, rfl, sx⟩ := hI
    have es : (xs.map PyData.str).map strD = xs := by rw [List.map_map]; exact List.map_id' _
    rw [es] at sx
    simp [soft_c]
    exact ⟨zs, rfl, sx⟩
end
end V23
set_option maxHeartbeats 4000000
namespace V23
open PySem PySem.Spec PyProof.Rows L2 VI
section
variable {φ : FS}
structure FamN (hs : List Str) (f : List (List Str)) : Prop where
  ne : f ≠ []
  few : f.length ≤ 10
  lot : ∀ x ∈ f, Asc x ∧ ∀ y ∈ x, y ∈ hs
  top : topU f = f
structure Dn (hs : List Str) (fs : List (List (List Str))) : Prop where
  ok : ∀ x ∈ hs, nameB (.str x) = true
  nob : ∀ x ∈ hs, x ≠ ("nobody" : Str)
  asc : Asc hs
  ne : hs ≠ []
  few : hs.length ≤ 9
  len : fs.length = hs.length
  fam : ∀ f ∈ fs, FamN hs f
theorem settle_no {vs : List Nat} {k : Nat} {x : Option EV} (h : k ∉ vs) : settle1 vs k x = x := by
  cases x with
  | none => rfl
  | some e =>
    cases e with
    | dat d => rfl
    | own ds =>
      rw [settle1_w, if_neg h]
theorem slx_l {ds : List D} {lo hi : Option Int} : slxG (.list ds) lo hi = .ok (.own (VI.cutD ds lo hi)) := rfl
theorem slx_t {ds : List D} {lo hi : Option Int} : slxG (.tuple ds) lo hi = .ok (.dat (.tuple (VI.cutD ds lo hi))) := rfl
theorem asc_len {xs hs : List Str} (h : Asc xs ∧ ∀ y ∈ xs, y ∈ hs) (hh : Asc hs) : xs.length ≤ hs.length := (asc_sublist h.1 hh h.2).length_le
theorem net_d {mm : Int} (h0 : 0 < mm) (h9 : mm ≤ 9) : sat (m_w_net [.dict [], .int mm] φ) fun r => ∃ hs fs, r.1 = .dat (netD hs fs) ∧ Dn hs fs ∧ (hs.length : Int) ≤ mm := by
  unfold m_w_net b_w_net
  rw [fnM_o]
  simp
  refine sat_mono pool_e ?_
  rintro ⟨r, φ1⟩ ⟨p, mp, hr⟩
  dsimp only at hr
  subst hr
  obtain ⟨lp, ap, op⟩ := pools_ok p mp
  simp
  refine draw_k h0 (by omega) fun y φ3 hy => ?_
  have ey : (1 : Int) + (y : Int) = ((1 + y : Nat) : Int) := by omega
  simp
  rw [ey]
  simp only [slx_l, cut_to, ← List.map_take]
  obtain ⟨hs, hL, oL, nb, asc, nL, lL, lmm⟩ : ∃ L, p.take (1 + y) = L ∧ (∀ x ∈ L, nameB (.str x) = true) ∧ (∀ x ∈ L, x ≠ ("nobody" : Str)) ∧ Asc L ∧ L ≠ [] ∧ L.length ≤ 9 ∧ (L.length : Int) ≤ mm := ⟨_, rfl, fun x mx => (op x (List.mem_of_mem_take mx)).1, fun x mx => (op x (List.mem_of_mem_take mx)).2, ap.sublist (List.take_sublist _ _), fun z => by
    have := congrArg List.length z
    rw [List.length_take, lp] at this
    simp at this, by rw [List.length_take, lp]; omega, by rw [List.length_take, lp]; omega⟩
  rw [hL]
  clear hL mp lp op ap
  simp
  refine draw_k (by decide) (by decide) fun z φ4 hz => ?_
  have e0 : eqG (.int (z : Int)) (.int 0) = .ok (.dat (.bool (decide (z = 0)))) := eq_int z 0
  have e1 : eqG (.int (z : Int)) (.int 1) = .ok (.dat (.bool (decide (z = 1)))) := eq_int z 1
  have okh : okL hs := fun x m => name_strOk (oL x m)
  simp
  have lch : ∀ (x : Str) (r0 r1 r4 r5 r6 r7 r8 r9 : Option D), x ∈ hs → ∀ φ, lcGo (setN 8) (tst (op2 neG (vD 8) (vD 3))) (vD 8) [r0, r1, some (.tuple (hs.map .str)), some (.str x), r4, r5, r6, r7, r8, r9] (hs.map .str) φ = .ok (((hs.filter fun y => !decide (y = x)).map .str), φ) := fun x r0 r1 r4 r5 r6 r7 r8 r9 mx φ => by
    have key := lc_eq (φ := φ) (set := setN 8) (mt := tst (op2 neG (vD 8) (vD 3))) (me := vD 8) (as := hs.map PyData.str) (ρ0 := [r0, r1, some (.tuple (hs.map .str)), some (.str x), r4, r5, r6, r7, r8, r9]) (fun d => !decide (strD d = x)) id fun a ha => by
      obtain ⟨w, mw, rfl⟩ := List.mem_map.mp ha
      have nn : neG (.str w) (.str x) = .ok (.dat (.bool (!decide (w = x)))) := by rw [ne_sh (sh_str (k := 0) (okh w mw)) (sh_str (k := 0) (okh x mx)), eqv_str]
      refine ⟨_, rfl, ?_, fun _ => by simp⟩
      generalize hs.map PyData.str = HS
      have e : strD (.str w) = w := rfl
      rw [e]
      simp [nn]
    rw [key, List.map_id, List.filter_map]
    rfl
  have lcs : ∀ (r0 r1 r3 r4 r5 r6 r7 r8 r9 : Option D) (φ : FS), lcGo (setN 8) yesT (tupM (consA (vD 8) nilA)) [r0, r1, some (.tuple (hs.map .str)), r3, r4, r5, r6, r7, r8, r9] (hs.map .str) φ = .ok ((hs.map fun x => [x]).map tupD, φ) := fun r0 r1 r3 r4 r5 r6 r7 r8 r9 φ => by
    have key := lc_eq (φ := φ) (set := setN 8) (mt := yesT) (me := tupM (consA (vD 8) nilA)) (as := hs.map PyData.str) (ρ0 := [r0, r1, some (.tuple (hs.map .str)), r3, r4, r5, r6, r7, r8, r9]) (fun _ => true) (fun d => .tuple [d]) fun a ha => by
      refine ⟨_, rfl, rfl, fun _ => ?_⟩
      generalize hs.map PyData.str = HS
      simp
    rw [key, List.filter_eq_self.mpr fun _ _ => rfl, List.map_map, List.map_map]
    rfl
  have lhl : (hs.map PyData.str).length ≤ 1000000 := by rw [List.length_map]; omega
  have sqh : ∀ φ, seqD (.tuple (hs.map .str)) φ = .ok (hs.map .str, φ) := fun φ => rfl
  refine sat_for (fun pre σ _ => ∃ (fs : List (List (List Str))) (o3 o6 o7 o8 o9 : Option EV), σ = [some (.dat (.dict [])), some (.dat (.int mm)), some (.dat (.tuple (hs.map .str))), o3, some (.dat (.int z)), some (.own (fs.map famD)), o6, o7, o8, o9] ∧ fs.length = pre.length ∧ ∀ f ∈ fs, FamN hs f)
    ⟨[], none, none, none, none, none, rfl, rfl, fun f mf => by cases mf⟩ (fun pre a post σ φ e hI => ?_) (fun σ φ hI => ?_)
  · obtain ⟨fs, o3, o6, o7, o8, o9, rfl, lf, hf⟩ := hI
    have lpre : pre.length < 9 := by
      have q := congrArg List.length e
      rw [List.length_map, List.length_append, List.length_cons] at q
      omega
    obtain ⟨x, mx, rfl⟩ := List.mem_map.mp (show a ∈ hs.map PyData.str by rw [e]; simp)
    clear e
    refine ⟨_, by simp; rfl, ?_⟩
    obtain ⟨R, hR, lR⟩ : ∃ R : List Str, (hs.filter fun y => !decide (y = x)) = R ∧ R.Sublist hs := ⟨_, rfl, List.filter_sublist⟩
    have lch := fun r0 r1 r4 r5 r6 r7 r8 r9 φ => lch x r0 r1 r4 r5 r6 r7 r8 r9 mx φ
    rw [hR] at lch
    -- the first two rows
    have s1 : ∀ φ, asgD [] 6 (lcM [8] (seqI (vD 2)) (setN 8) (tst (op2 neG (vD 8) (vD 3))) (vD 8)) [some (.dat (.dict [])), some (.dat (.int mm)), some (.dat (.tuple (hs.map .str))), some (.dat (.str x)), some (.dat (.int z)), some (.own (fs.map famD)), o6, o7, o8, o9] φ = .ok (.nx, [some (.dat (.dict [])), some (.dat (.int mm)), some (.dat (.tuple (hs.map .str))), some (.dat (.str x)), some (.dat (.int z)), some (.own (fs.map famD)), some (.dat (.list (R.map .str))), o7, o8, o9], φ) := fun φ => by
      generalize R.map PyData.str = RS at lch
      generalize hs.map PyData.str = HS at lch lhl sqh ⊢
      generalize fs.map famD = FS'
      apply eq_of
      simp [soft_c, sqh, lhl, lch]
    rw [seqM_o, s1, bind_e]
    dsimp only
    have lR5 : R.length ≤ 9 := Nat.le_trans lR.length_le lL
    let Lots : List (List Str) → Prop := fun ls => ∀ l ∈ ls, Asc l ∧ ∀ y ∈ l, y ∈ hs
    have subA : ∀ zs : List Str, zs.Sublist hs → Asc zs ∧ ∀ y ∈ zs, y ∈ hs := fun zs h => ⟨asc.sublist h, fun y m => h.subset m⟩
    have s2 : sat (asgM [] 7 (lcM [9] (rng1I (op2 addG (cD (.int 1)) (appM 2 m_w_draw (consA (vD 0) (consA (cD (.int 4)) nilA))))) (setN 9) yesT (appM 3 m_w_part (consA (vD 0) (consA (vD 6) (consA (appM 2 m_w_pick (consA (vD 0) (consA (lstM (consA (cD (.int 2)) (consA (cD (.int 3)) (consA (cD (.int 3)) nilA)))) nilA))) nilA))))) [some (.dat (.dict [])), some (.dat (.int mm)), some (.dat (.tuple (hs.map .str))), some (.dat (.str x)), some (.dat (.int z)), some (.own (fs.map famD)), some (.dat (.list (R.map .str))), o7, o8, o9] φ)
        fun q => q.1 = .nx ∧ ∃ ls : List (List Str), q.2.1 = [some (.dat (.dict [])), some (.dat (.int mm)), some (.dat (.tuple (hs.map .str))), some (.dat (.str x)), some (.dat (.int z)), some (.own (fs.map famD)), some (.dat (.list (R.map .str))), some (.own (ls.map tupD)), o8, o9] ∧ ls ≠ [] ∧ ls.length ≤ 4 ∧ Lots ls := by
      have pe := fun (w : Int) (w0 : 0 < w) (w1 : w < 1000) (φ : FS) => part_e (φ := φ) (xs := R) (d := .list (R.map .str)) (w := w) (.inl rfl) (by omega) w0 w1
      generalize R.map PyData.str = RS at pe ⊢
      generalize hs.map PyData.str = HS
      generalize fs.map famD = FS'
      simp [soft_c]
      refine sat_rng1 ?_
      simp [soft_c]
      refine draw_k (by decide) (by decide) fun k φ5 hk => ?_
      simp
      refine ⟨1 + k, by simp, by omega, ?_⟩
      rw [if_pos (by omega), sat_bind]
      refine sat_lc (fun pre ds _ => ∃ ls : List (List Str), ds = ls.map tupD ∧ ls.length = pre.length ∧ Lots ls) ⟨[], rfl, rfl, fun l m => by cases m⟩ (fun pre3 a3 post3 ds φ e3 hI => ?_) (fun ds φ hI => ?_)
      · obtain ⟨ls, rfl, ll, hl⟩ := hI
        refine ⟨_, rfl, ?_⟩
        simp
        refine any_k (.inl rfl) (by simp) (by simp) fun d md φ6 => ?_
        obtain ⟨w, w0, w1, rfl⟩ : ∃ w : Int, 0 < w ∧ w < 1000 ∧ d = .int w := by
          simp at md
          rcases md with rfl | rfl <;> exact ⟨_, by decide, by decide, rfl⟩
        simp
        refine sat_mono (pe w w0 w1 φ6) ?_
        rintro ⟨r, φ7⟩ ⟨zs, hr, sz⟩
        dsimp only at hr
        subst hr
        refine ⟨ls ++ [zs], by simp, by simp [ll], fun l ml => ?_⟩
        rcases List.mem_append.mp ml with ml | ml
        · exact hl l ml
        · rw [List.mem_singleton.mp ml]
          exact subA zs (sz.trans lR)
      · obtain ⟨ls, rfl, ll, hl⟩ := hI
        rw [List.length_map, List.length_range] at ll
        simp
        exact ⟨ls, rfl, fun z => by rw [z] at ll; simp at ll; omega, by omega, hl⟩
    rw [seqM_o, sat_bind]
    refine sat_mono s2 ?_
    rintro ⟨fl, σ, φ6⟩ ⟨h1, ls, h2, nls, lls, hls⟩
    dsimp only at h1 h2
    subst h1 h2
    dsimp only
    have s3 : ∃ ls' : List (List Str), ifS [] (tst (op2 eqG (vD 4) (cD (.int 0)))) (asgM [] 7 (lcM [8] (seqI (vD 2)) (setN 8) yesT (tupM (consA (vD 8) nilA)))) nxM [some (.dat (.dict [])), some (.dat (.int mm)), some (.dat (.tuple (hs.map .str))), some (.dat (.str x)), some (.dat (.int z)), some (.own (fs.map famD)), some (.dat (.list (R.map .str))), some (.own (ls.map tupD)), o8, o9] φ6 = .ok (.nx, [some (.dat (.dict [])), some (.dat (.int mm)), some (.dat (.tuple (hs.map .str))), some (.dat (.str x)), some (.dat (.int z)), some (.own (fs.map famD)), some (.dat (.list (R.map .str))), some (.own (ls'.map tupD)), o8, o9], φ6) ∧ ls' ≠ [] ∧ ls'.length ≤ 9 ∧ Lots ls' := by
      by_cases hz0 : z = 0
      · rw [decide_eq_true hz0] at e0
        refine ⟨hs.map fun x => [x], ?_, by simpa using nL, by rw [List.length_map]; exact lL, fun l ml => ?_⟩
        · generalize (hs.map fun x => [x]).map tupD = SS at lcs ⊢
          generalize hs.map PyData.str = HS at lcs lhl sqh ⊢
          generalize fs.map famD = FS'
          generalize ls.map tupD = LS'
          generalize R.map PyData.str = RS
          apply eq_of
          simp [soft_c, e0, sqh, lhl, lcs]
        · obtain ⟨w, mw, rfl⟩ := List.mem_map.mp ml
          exact ⟨List.pairwise_singleton _ _, fun y my => by rw [List.mem_singleton.mp my]; exact mw⟩
      · rw [decide_eq_false hz0] at e0
        refine ⟨ls, ?_, nls, by omega, hls⟩
        generalize hs.map PyData.str = HS
        generalize fs.map famD = FS'
        generalize ls.map tupD = LS'
        generalize R.map PyData.str = RS
        apply eq_of
        simp [soft_c, e0]
    obtain ⟨ls', s3, nls', lls', hls'⟩ := s3
    rw [seqM_o, s3, bind_e]
    dsimp only
    clear s3 hls nls lls
    have s4 : sat (ifS [] (andT (tst (op2 eqG (vD 4) (cD (.int 1)))) (tst (op2 eqG (appM 2 m_w_draw (consA (vD 0) (consA (cD (.int 3)) nilA))) (cD (.int 0))))) (appendM [] 7 (appM 3 m_w_part (consA (vD 0) (consA (vD 2) (consA (cD (.int 2)) nilA))))) nxM [some (.dat (.dict [])), some (.dat (.int mm)), some (.dat (.tuple (hs.map .str))), some (.dat (.str x)), some (.dat (.int z)), some (.own (fs.map famD)), some (.dat (.list (R.map .str))), some (.own (ls'.map tupD)), o8, o9] φ6)
        fun q => q.1 = .nx ∧ ∃ ls : List (List Str), q.2.1 = [some (.dat (.dict [])), some (.dat (.int mm)), some (.dat (.tuple (hs.map .str))), some (.dat (.str x)), some (.dat (.int z)), some (.own (fs.map famD)), some (.dat (.list (R.map .str))), some (.own (ls.map tupD)), o8, o9] ∧ ls ≠ [] ∧ ls.length ≤ 10 ∧ Lots ls := by
      have pe := fun (φ : FS) => part_e (φ := φ) (xs := hs) (d := .tuple (hs.map .str)) (w := 2) (.inr rfl) (by omega) (by decide) (by decide)
      have r1 : ∃ ls : List (List Str), ls'.map tupD = ls.map tupD ∧ ls ≠ [] ∧ ls.length ≤ 10 ∧ Lots ls := ⟨ls', rfl, nls', by omega, hls'⟩
      have r2 : ∀ zs : List Str, zs.Sublist hs → ∃ ls : List (List Str), ls'.map tupD ++ [tupD zs] = ls.map tupD ∧ ls ≠ [] ∧ ls.length ≤ 10 ∧ Lots ls := fun zs sz => ⟨ls' ++ [zs], by simp, by simp, by simp; omega, fun l ml => by
        rcases List.mem_append.mp ml with ml | ml
        · exact hls' l ml
        · rw [List.mem_singleton.mp ml]
          exact subA zs sz⟩
      have ll : (ls'.map tupD).length < 1000000 := by rw [List.length_map]; omega
      generalize ls'.map tupD = LS' at r1 r2 ll ⊢
      generalize hs.map PyData.str = HS at pe ⊢
      generalize fs.map famD = FS'
      generalize R.map PyData.str = RS
      by_cases h1 : z = 1
      · rw [decide_eq_true h1] at e1
        simp [soft_c, e1]
        refine draw_k (by decide) (by decide) fun k φ7 hk => ?_
        have ek : eqG (.int (k : Int)) (.int 0) = .ok (.dat (.bool (decide (k = 0)))) := eq_int k 0
        by_cases hk0 : k = 0
        · rw [decide_eq_true hk0] at ek
          simp [ek, soft_c]
          refine sat_mono (pe φ7) ?_
          rintro ⟨r, φ8⟩ ⟨zs, hr, sz⟩
          dsimp only at hr
          subst hr
          simp [ll]
          exact r2 zs sz
        · rw [decide_eq_false hk0] at ek
          simp [ek]
          exact r1
      · rw [decide_eq_false h1] at e1
        simp [soft_c, e1]
        exact r1
    rw [seqM_o, sat_bind]
    refine sat_mono s4 ?_
    rintro ⟨fl, σ, φ7⟩ ⟨h1, ls2, h2, nls2, lls2, hls2⟩
    dsimp only at h1 h2
    subst h1 h2
    dsimp only
    have ol : ∀ l ∈ ls2, okL l ∧ l.length ≤ 1000 := fun l m => ⟨fun y my => okh y ((hls2 l m).2 y my), by have := asc_len (hls2 l m) asc; omega⟩
    have wg := fun φ => w_greatest_e (φ := φ) ol (by omega : ls2.length < 64)
    have nl : lfD (famD (topU ls2)) = true := lf_fam _
    have lf2 : (fs.map famD).length < 1000000 := by rw [List.length_map]; omega
    have fin : ∃ fs' : List (List (List Str)), fs.map famD ++ [famD (topU ls2)] = fs'.map famD ∧ fs'.length = pre.length + 1 ∧ ∀ f ∈ fs', FamN hs f := ⟨fs ++ [topU ls2], by simp, by simp [lf], fun f mf => by
      rcases List.mem_append.mp mf with mf | mf
      · exact hf f mf
      · rw [List.mem_singleton.mp mf]
        have := topU_len (f := ls2)
        refine ⟨topU_ne (fun x m => (hls2 x m).1) nls2, by omega, fun x m => hls2 x (mem_topU.mp m).1, topU_idem ls2⟩⟩
    generalize fs.map famD = FS' at lf2 fin ⊢
    generalize ls2.map tupD = LS' at wg
    generalize famD (topU ls2) = G at wg nl fin
    generalize hs.map PyData.str = HS
    generalize R.map PyData.str = RS
    simp [wg, aft, nl, lf2]
    exact fin
  · obtain ⟨fs, o3, o6, o7, o8, o9, rfl, lf, hf⟩ := hI
    rw [List.length_map] at lf
    simp
    exact ⟨hs, fs, rfl, ⟨oL, nb, asc, nL, lL, lf, hf⟩, lmm⟩
end
end V23
set_option maxHeartbeats 4000000
namespace V23
open PySem PySem.Spec PyProof.Rows L2 VI
section
variable {φ : FS} {hs : List Str} {fs : List (List (List Str))}
theorem ptM {d : D} {k n k' n' : Nat} (h : Pt d k n) (hk : k ≤ k') (hn : n ≤ n') : Pt d k' n' := ⟨h.pr, Nat.le_trans h.dp hk, Nat.le_trans h.sz hn⟩
theorem gdL {α : Type} {f : α → D} {k m : Nat} {L : List α} (h : ∀ a ∈ L, Pt (f a) k m) : Pt (.tuple (L.map f)) (k + 1) ((m + 2) * L.length + 4) := by
  refine ⟨?_, ?_, ?_⟩
  · show prAll (L.map f) = true
    refine prAll_iff.mpr fun d md => ?_
    obtain ⟨p, mp, rfl⟩ := List.mem_map.mp md
    exact (h p mp).pr
  · show PyData.depthAll (L.map f) + 1 ≤ k + 1
    refine Nat.succ_le_succ (depthAll_le fun d md => ?_)
    obtain ⟨p, mp, rfl⟩ := List.mem_map.mp md
    exact (h p mp).dp
  · show spAll (L.map f) + 4 ≤ _
    have : ∀ L : List α, (∀ a ∈ L, Pt (f a) k m) → spAll (L.map f) ≤ (m + 2) * L.length := by
      intro L
      induction L with
      | nil => intro _; exact Nat.zero_le _
      | cons a L ih =>
        intro h
        have h1 := (h a (by simp)).sz
        have h2 := ih fun b mb => h b (by simp [mb])
        rw [List.map_cons, List.length_cons, Nat.mul_succ]
        show sp (f a) + 2 + spAll (L.map f) ≤ _
        omega
    have := this L h
    omega
/-- whatever is small -/
def Sm (d : D) : Prop := Pt d 3 8000
theorem sm_tup {L : List D} (h : ∀ d ∈ L, Sm d) (hl : L.length ≤ 12) : Pt (.tuple L) 4 100000 := by
  have := gdL (f := fun d => d) (L := L) h
  rw [List.map_id'] at this
  refine ptM this (Nat.le_refl _) ?_
  have : (8000 + 2) * L.length ≤ (8000 + 2) * 12 := Nat.mul_le_mul_left _ hl
  omega
theorem sm_list {L : List D} (h : ∀ d ∈ L, Sm d) (hl : L.length ≤ 12) : Pt (.list L) 4 100000 := by
  have := sm_tup h hl
  exact ⟨this.pr, this.dp, this.sz⟩
theorem pair_pt {a b : D} {m n : Nat} (h1 : Pt a 4 m) (h2 : Pt b 4 n) : Pt (.tuple [a, b]) 40 (m + n + 8) := by
  have a1 := h1.pr
  have a2 := h2.pr
  have b1 := h1.dp
  have b2 := h2.dp
  have c1 := h1.sz
  have c2 := h2.sz
  refine ⟨?_, ?_, ?_⟩
  · simp only [pr, prAll, Bool.and_eq_true]
    exact ⟨a1, a2, trivial⟩
  · simp only [PyData.depth, PyData.depthAll]
    omega
  · simp only [sp, spAll]
    omega
theorem name_len {x : Str} (h : nameB (.str x) = true) : 1 ≤ x.length ∧ x.length ≤ 8 := by
  rw [nameB_s] at h
  simp only [Bool.and_eq_true, decide_eq_true_eq] at h
  exact h.1
theorem str_pt {x : Str} (h : nameB (.str x) = true) : Pt (.str x) 0 82 := ⟨name_strOk h, Nat.le_refl _, by show 10 * x.length + 2 ≤ _; have := (name_len h).2; omega⟩
theorem lot_pt {xs : List Str} (h : ∀ x ∈ xs, nameB (.str x) = true) (hl : xs.length ≤ 9) : Pt (tupD xs) 1 760 := by
  have := gdL (f := PyData.str) (L := xs) fun x mx => str_pt (h x mx)
  refine ptM this (Nat.le_refl _) ?_
  have : (82 + 2) * xs.length ≤ (82 + 2) * 9 := Nat.mul_le_mul_left _ hl
  omega
section
variable (N : Dn hs fs)
include N
theorem Dn.okl : okL hs := fun x m => name_strOk (N.ok x m)
theorem Dn.hpt : Pt (tupD hs) 1 760 := lot_pt N.ok N.few
theorem Dn.fpt {f : List (List Str)} (m : f ∈ fs) : Pt (famD f) 2 7624 := by
  have F := N.fam f m
  have := gdL (f := tupD) (L := f) fun x mx => lot_pt (fun y my => N.ok y ((F.lot x mx).2 y my)) (Nat.le_trans (asc_len (F.lot x mx) N.asc) N.few)
  refine ptM this (Nat.le_refl _) ?_
  have : (760 + 2) * f.length ≤ (760 + 2) * 10 := Nat.mul_le_mul_left _ F.few
  omega
theorem Dn.fsm : ∀ d ∈ fs.map famD, Sm d := fun d m => by
  obtain ⟨f, mf, rfl⟩ := List.mem_map.mp m
  exact ptM (N.fpt mf) (by decide) (by decide)
theorem Dn.lots {f : List (List Str)} (m : f ∈ fs) : (f.map tupD).all (lotF hs) = true := by
  rw [List.all_eq_true]
  intro d md
  obtain ⟨x, mx, rfl⟩ := List.mem_map.mp md
  have := (N.fam f m).lot x mx
  exact lot_iff.mpr ⟨x, rfl, this.2, ascB_of this.1⟩
theorem fam_true {f : List (List Str)} (ne : f ≠ []) (hl : ∀ x ∈ f, Asc x ∧ ∀ y ∈ x, y ∈ hs) (top : topU f = f) : famF hs (famD f) = true := by
  have al : (f.map tupD).all (lotF hs) = true := by
    rw [List.all_eq_true]
    intro d md
    obtain ⟨x, mx, rfl⟩ := List.mem_map.mp md
    exact lot_iff.mpr ⟨x, rfl, (hl x mx).2, ascB_of (hl x mx).1⟩
  cases f with
  | nil => exact absurd rfl ne
  | cons x xs =>
    show (((x :: xs).map tupD).all (lotF hs) && decide (topU (((x :: xs).map tupD).map lotD) = ((x :: xs).map tupD).map lotD)) = true
    rw [al, map_lot, decide_eq_true top]
    rfl
theorem Dn.houses : housesF (tupD hs) = true := by
  unfold housesF
  rw [set_iff.mpr ⟨hs, rfl, N.ok, ascB_of N.asc⟩]
  have : PyData.eqv (tupD hs) (.tuple []) = false := by
    have := N.ne
    cases hs with
    | nil => exact absurd rfl this
    | cons a b => rfl
  rw [this]
  rfl
theorem netF_o (L : List D) : netF (.tuple [tupD hs, .tuple L]) = (decide (L.length = hs.length) && L.all (famF hs)) := by
  show (housesF (tupD hs) && (decide (L.length = (lotD (tupD hs)).length) && L.all (famF (lotD (tupD hs))))) = _
  rw [N.houses, lot_tup]
  rfl
theorem Dn.net : netF (netD hs fs) = true := by
  unfold netD
  rw [netF_o N, decide_eq_true (by rw [List.length_map]; exact N.len), Bool.true_and, List.all_eq_true]
  intro d m
  obtain ⟨f, mf, rfl⟩ := List.mem_map.mp m
  have F := N.fam f mf
  exact fam_true N F.ne F.lot F.top
theorem Dn.narF : ∀ f ∈ fs.map famD, ∀ ls, f = .tuple ls → ls.length < 64 := fun f m ls e => by
  obtain ⟨g, mg, rfl⟩ := List.mem_map.mp m
  have := (N.fam g mg).few
  cases e
  rw [List.length_map]
  omega
end
theorem nar_no {a : D} (h : ∀ x fs, a ≠ .tuple [x, .tuple fs]) : Nar a := fun x fs e => absurd e (h x fs)
theorem nar_of {h : D} {L : List D} (hl : ∀ f ∈ L, ∀ ls, f = .tuple ls → ls.length < 64) : Nar (.tuple [h, .tuple L]) := fun x fs e => by
  cases e
  exact hl
end
end V23
set_option maxHeartbeats 4000000
namespace V23
open PySem PySem.Spec PyProof.Rows L2 VI
section
variable {φ : FS}
def botU (f : List (List Str)) : List (List Str) := (sortU ltL f).filter fun x => ((sortU ltL f).filter fun y => decide (y ≠ x) && subL y x).isEmpty
theorem mem_botU {f : List (List Str)} {x : List Str} : x ∈ botU f ↔ x ∈ f ∧ ∀ y ∈ f, y ≠ x → subL y x = false := by
  unfold botU
  rw [List.mem_filter, mem_sortU tot_L, List.isEmpty_iff, List.filter_eq_nil_iff]
  refine and_congr_right fun _ => ⟨fun h y my ne => ?_, fun h y my => ?_⟩
  · have := h y ((mem_sortU tot_L).mpr my)
    simpa [ne] using this
  · have my := (mem_sortU tot_L).mp my
    by_cases e : y = x
    · simp [e]
    · simp [e, h y my e]
theorem botU_asc (f : List (List Str)) : (botU f).Pairwise fun x y => ltL x y = true := (sortU_asc tot_L f).sublist List.filter_sublist
theorem botU_len {f : List (List Str)} : (botU f).length ≤ f.length := Nat.le_trans (List.length_filter_le _ _) sortU_len
theorem bot_top {f : List (List Str)} : botU f = f ↔ topU f = f := by
  constructor
  · intro h
    refine asc_same tot_L (topU_asc f) (by rw [← h]; exact botU_asc f) fun x => ?_
    rw [mem_topU]
    refine ⟨fun h => h.1, fun m => ⟨m, fun y my ne => ?_⟩⟩
    have := (mem_botU.mp (show y ∈ botU f by rw [h]; exact my)).2 x m (Ne.symm ne)
    exact this
  · intro h
    refine asc_same tot_L (botU_asc f) (by rw [← h]; exact topU_asc f) fun x => ?_
    rw [mem_botU]
    refine ⟨fun h => h.1, fun m => ⟨m, fun y my ne => ?_⟩⟩
    exact (mem_topU.mp (show y ∈ topU f by rw [h]; exact my)).2 x m (Ne.symm ne)
theorem w_least_e {f : List (List Str)} {d : D} (hd : d = .tuple (f.map tupD) ∨ d = .list (f.map tupD)) (hf : ∀ x ∈ f, okL x ∧ x.length ≤ 1000) (hl : f.length < 64) : m_w_least [d] φ = .ok (.dat (famD (botU f)), φ) := by
  have h0 : ssG (f.map tupD) = .ok (.own ((sortU ltL f).map tupD)) := ssG_tup hl
  have len : (sortU ltL f).length ≤ 1000000 := Nat.le_trans sortU_len (by omega)
  have hs : ∀ x ∈ sortU ltL f, okL x ∧ x.length ≤ 1000 := fun x m => hf x ((mem_sortU tot_L).mp m)
  have ss : ssM (callM listG (consA (vD 0) nilA)) [some d, none, none, none] φ = .ok (.own ((sortU ltL f).map tupD), φ) := by
    rcases hd with rfl | rfl <;> simp [ssM, h0]
  have inner : ∀ x ∈ sortU ltL f, lcGo (setN 3) (andT (tst (op2 neG (vD 3) (vD 2))) (tst (appM 2 m_w_lies (consA (vD 3) (consA (vD 2) nilA))))) (vD 3) [some d, some (.list ((sortU ltL f).map tupD)), some (tupD x), none] ((sortU ltL f).map tupD) φ =
      .ok (((sortU ltL f).filter fun y => decide (y ≠ x) && subL y x).map tupD, φ) := fun x mx => by
    have key := lc_eq (φ := φ) (set := setN 3) (mt := andT (tst (op2 neG (vD 3) (vD 2))) (tst (appM 2 m_w_lies (consA (vD 3) (consA (vD 2) nilA))))) (me := vD 3) (as := (sortU ltL f).map tupD) (ρ0 := [some d, some (.list ((sortU ltL f).map tupD)), some (tupD x), none]) (fun a => decide (lotD a ≠ x) && subL (lotD a) x) id fun a ha => by
      obtain ⟨y, my, rfl⟩ := List.mem_map.mp ha
      have nn : neG (tupD y) (tupD x) = .ok (.dat (.bool (!decide (y = x)))) := by rw [ne_sh (sh_tup (hs y my).1) (sh_tup (hs x mx).1), eqv_tup]
      have li := lies_e (φ := φ) (hs y my).1 (hs x mx).1 (hs y my).2
      refine ⟨_, rfl, ?_, fun _ => by simp⟩
      rw [lot_tup]
      generalize (sortU ltL f).map tupD = SL
      generalize f.map tupD = FL
      generalize tupD x = X at nn li
      generalize tupD y = Y at nn li
      by_cases e : y = x
      · simp [nn, e]
      · simp [nn, e, li]
    rw [key]
    congr 2
    rw [List.map_id, List.filter_map]
    congr 1
    refine List.filter_congr fun y _ => ?_
    show (decide (lotD (tupD y) ≠ x) && subL (lotD (tupD y)) x) = _
    rw [lot_tup]
  have outer : lcGo (setN 2) (tst (op2 eqG (lcM [3] (seqI (vD 1)) (setN 3) (andT (tst (op2 neG (vD 3) (vD 2))) (tst (appM 2 m_w_lies (consA (vD 3) (consA (vD 2) nilA))))) (vD 3)) (lstM nilA))) (vD 2) [some d, some (.list ((sortU ltL f).map tupD)), none, none] ((sortU ltL f).map tupD) φ = .ok ((botU f).map tupD, φ) := by
    have key := lc_eq (φ := φ) (set := setN 2) (mt := tst (op2 eqG (lcM [3] (seqI (vD 1)) (setN 3) (andT (tst (op2 neG (vD 3) (vD 2))) (tst (appM 2 m_w_lies (consA (vD 3) (consA (vD 2) nilA))))) (vD 3)) (lstM nilA))) (me := vD 2) (as := (sortU ltL f).map tupD) (ρ0 := [some d, some (.list ((sortU ltL f).map tupD)), none, none]) (fun a => ((sortU ltL f).filter fun y => decide (y ≠ lotD a) && subL y (lotD a)).isEmpty) id fun a ha => by
      obtain ⟨x, mx, rfl⟩ := List.mem_map.mp ha
      have inn := inner x mx
      have h3 : eqG (.list (((sortU ltL f).filter fun y => decide (y ≠ x) && subL y x).map tupD)) (.list []) = .ok (.dat (.bool ((sortU ltL f).filter fun y => decide (y ≠ x) && subL y x).isEmpty)) := by
        rw [eq_nil (k := 1) fun d m => by
          obtain ⟨y, my, rfl⟩ := List.mem_map.mp m
          exact sh_tup (hs y (List.mem_filter.mp my).1).1, List.isEmpty_map]
      have ln : ((sortU ltL f).map tupD).length ≤ 1000000 := by rw [List.length_map]; exact len
      refine ⟨_, rfl, ?_, fun _ => by simp⟩
      rw [lot_tup]
      generalize ((sortU ltL f).filter fun y => decide (y ≠ x) && subL y x) = G at inn h3
      generalize (sortU ltL f).map tupD = SL at inn ln
      generalize f.map tupD = FL at inn
      generalize tupD x = X at inn
      generalize (andT (tst (op2 neG (vD 3) (vD 2))) (tst (appM 2 m_w_lies (consA (vD 3) (consA (vD 2) nilA))))) = MT at inn
      simp [inn, ln, h3]
    rw [key]
    congr 2
    rw [List.map_id, List.filter_map]
    unfold botU
    congr 1
    refine List.filter_congr fun x _ => ?_
    show ((sortU ltL f).filter fun y => decide (y ≠ lotD (tupD x)) && subL y (lotD (tupD x))).isEmpty = _
    rw [lot_tup]
  have ln : ((sortU ltL f).map tupD).length ≤ 1000000 := by rw [List.length_map]; exact len
  apply eq_of
  unfold m_w_least b_w_least
  rw [fnM_o]
  generalize (tst (op2 eqG (lcM [3] (seqI (vD 1)) (setN 3) (andT (tst (op2 neG (vD 3) (vD 2))) (tst (appM 2 m_w_lies (consA (vD 3) (consA (vD 2) nilA))))) (vD 3)) (lstM nilA))) = MT at outer ⊢
  generalize (sortU ltL f).map tupD = SL at outer ss ln
  generalize f.map tupD = FL at outer ss
  generalize ssM (callM listG (consA (vD 0) nilA)) = SS at ss ⊢
  unfold famD
  generalize (botU f).map tupD = TL at outer
  simp [soft_c, ss, outer, ln]
end
end V23
set_option maxHeartbeats 4000000
namespace V23
open PySem PySem.Spec PyProof.Rows L2 VI
section
variable {φ : FS} {hs : List Str} {fs : List (List (List Str))}
theorem others_e {xs ys : List Str} (hx : okL xs) (hy : okL ys) (hl : xs.length ≤ 1000) : m_w_others [tupD xs, tupD ys] φ = .ok (.dat (tupD (compL xs ys)), φ) := without_e hx hy hl
theorem in_fam' {d : D} {f : List (List Str)} {neg : Bool} {k : Nat} (hd : Sh k d) (h : ∀ x ∈ f, okL x) (hk : k ≤ 60 := by omega) : inG neg d (famD f) = .ok (.dat (.bool (neg ^^ inF f d))) := by
  have s2 : SeqAt.shaped (.list (f.map tupD)) = true := (Sh.lst (k := 1) fun x m => by obtain ⟨y, my, e⟩ := List.mem_map.mp m; subst e; exact sh_tup (h y my)).shaped
  have e : ((f.map tupD).any fun z => PyData.eqv z d) = inF f d := any_map _ _ _
  show inG neg d (.tuple (f.map tupD)) = _
  rw [inG_t, if_pos ⟨hd.shaped, s2⟩, e]
  rfl
theorem inF_tup {f : List (List Str)} {x : List Str} : inF f (tupD x) = decide (x ∈ f) := by
  rw [Bool.eq_iff_iff, inF_iff, decide_eq_true_iff]
  constructor
  · rintro ⟨z, mz, e⟩
    have := congrArg lotD e
    rw [lot_tup, lot_tup] at this
    rw [this]
    exact mz
  · intro m
    exact ⟨x, m, rfl⟩
end
end V23
set_option maxHeartbeats 4000000
namespace V23
open PySem PySem.Spec PyProof.Rows L2 VI
section
variable {φ : FS} {hs : List Str} {fs : List (List (List Str))}
def PFam (hs : List Str) (f : List (List Str)) : List (List Str) := sortU ltL (f.map (compL hs))
theorem compL_mem {xs ys : List Str} {x : Str} : x ∈ compL xs ys ↔ x ∈ xs ∧ x ∉ ys := by
  unfold compL
  rw [List.mem_filter, Bool.not_eq_true', memB_no]
theorem compL_sub {xs ys : List Str} : (compL xs ys).Sublist xs := List.filter_sublist
theorem compL_inj {g g' : List Str} (h : Asc g ∧ ∀ y ∈ g, y ∈ hs) (h' : Asc g' ∧ ∀ y ∈ g', y ∈ hs) (e : compL hs g = compL hs g') : g = g' := by
  refine asc_same tot_S h.1 h'.1 fun x => ?_
  have q := fun x => (compL_mem (xs := hs) (ys := g) (x := x)).symm.trans ((by rw [e] : x ∈ compL hs g ↔ x ∈ compL hs g').trans compL_mem)
  have q := q x
  constructor
  · intro m
    by_cases m' : x ∈ g'
    · exact m'
    · exact absurd m (q.mpr ⟨h.2 x m, m'⟩).2
  · intro m
    by_cases m' : x ∈ g
    · exact m'
    · exact absurd m (q.mp ⟨h'.2 x m, m'⟩).2
theorem compL_nil {g : List Str} (ah : Asc hs) (h : Asc g ∧ ∀ y ∈ g, y ∈ hs) : compL hs g = [] ↔ hs = g := by
  constructor
  · intro e
    refine asc_same tot_S ah h.1 fun x => ⟨fun m => ?_, fun m => h.2 x m⟩
    by_cases m' : x ∈ g
    · exact m'
    · have := compL_mem.mpr ⟨m, m'⟩
      rw [e] at this
      cases this
  · intro e
    subst e
    refine List.eq_nil_iff_forall_not_mem.mpr fun x m => ?_
    have := compL_mem.mp m
    exact this.2 this.1
theorem nil_PFam {f : List (List Str)} (ah : Asc hs) (F : FamN hs f) : [] ∈ PFam hs f ↔ hs ∈ f := by
  unfold PFam
  rw [mem_sortU tot_L, List.mem_map]
  constructor
  · rintro ⟨g, mg, e⟩
    rw [(compL_nil ah (F.lot g mg)).mp e]
    exact mg
  · intro m
    exact ⟨hs, m, (compL_nil ah (F.lot hs m)).mpr rfl⟩
theorem PFam_len {f : List (List Str)} : (PFam hs f).length ≤ f.length := by
  have := sortU_len (lt := ltL) (l := f.map (compL hs))
  rw [List.length_map] at this
  exact this
theorem PFam_lot {f : List (List Str)} (ah : Asc hs) : ∀ x ∈ PFam hs f, Asc x ∧ ∀ y ∈ x, y ∈ hs := fun x m => by
  obtain ⟨g, mg, rfl⟩ := List.mem_map.mp ((mem_sortU tot_L).mp m)
  exact ⟨ah.sublist compL_sub, fun y my => compL_sub.subset my⟩
def PQ (hs : List Str) (fs : List (List (List Str))) : D := .tuple (fs.map fun f => famD (PFam hs f))
def allB (hs : List Str) (fs : List (List (List Str))) : Bool := fs.any fun f => decide (hs ∈ f)
def plainD (hs : List Str) (fs : List (List (List Str))) : D := if allB hs fs = true then .none else PQ hs fs
theorem i0_e : ixG (netD hs fs) (.int 0) = .ok (.dat (tupD hs)) := ixG_n (i := 0) rfl
theorem i1_e : ixG (netD hs fs) (.int 1) = .ok (.dat (.tuple (fs.map famD))) := ixG_n (i := 1) rfl
theorem comp_lc (N : Dn hs fs) {f : List (List Str)} (F : FamN hs f) (o1 o2 o3 o4 : Option D) : lcGo (setN 4) yesT (appM 2 m_w_others (consA (op2 ixG (vD 0) (cD (.int 0))) (consA (vD 4) nilA))) [some (netD hs fs), o1, o2, o3, o4] (f.map tupD) φ = .ok ((f.map (compL hs)).map tupD, φ) := by
  have key := lc_eq (φ := φ) (set := setN 4) (mt := yesT) (me := appM 2 m_w_others (consA (op2 ixG (vD 0) (cD (.int 0))) (consA (vD 4) nilA))) (as := f.map tupD) (ρ0 := [some (netD hs fs), o1, o2, o3, o4]) (fun _ => true) (fun d => tupD (compL hs (lotD d))) fun a ha => by
    obtain ⟨g, mg, rfl⟩ := List.mem_map.mp ha
    have ot := others_e (φ := φ) N.okl (ys := g) (fun y my => N.okl y ((F.lot g mg).2 y my)) (by have := N.few; omega)
    have i0 := i0_e (hs := hs) (fs := fs)
    refine ⟨_, rfl, rfl, fun _ => ?_⟩
    rw [lot_tup]
    generalize netD hs fs = W at i0 ⊢
    generalize tupD (compL hs g) = C at ot ⊢
    generalize tupD hs = X at i0 ot
    simp [i0, ot]
  rw [key, List.filter_eq_self.mpr fun _ _ => rfl, List.map_map, List.map_map]
  congr 2
  refine List.map_congr_left fun g _ => ?_
  show tupD (compL hs (lotD (tupD g))) = tupD (compL hs g)
  rw [lot_tup]
def plainM : MS := appendM [] 1 (callM tupleG (consA (ssM (lcM [4] (seqI (vD 2)) (setN 4) yesT (appM 2 m_w_others (consA (op2 ixG (vD 0) (cD (.int 0))) (consA (vD 4) nilA))))) nilA))
theorem plain_1 (N : Dn hs fs) {f : List (List Str)} (F : FamN hs f) {acc : List D} (ha : acc.length < 1000) (o3 o4 : Option EV) : plainM [some (.dat (netD hs fs)), some (.own acc), some (.dat (famD f)), o3, o4] φ = .ok (.nx, [some (.dat (netD hs fs)), some (.own (acc ++ [famD (PFam hs f)])), some (.dat (famD f)), o3, o4], φ) := by
  have lc := fun o1 o2 o3 o4 => comp_lc (φ := φ) N F o1 o2 o3 o4
  have sg : ssG ((f.map (compL hs)).map tupD) = .ok (.own ((PFam hs f).map tupD)) := ssG_tup (by rw [List.length_map]; have := F.few; omega)
  have sq : ∀ φ, seqD (famD f) φ = .ok (f.map tupD, φ) := fun φ => rfl
  have ll : (f.map tupD).length ≤ 1000000 := by rw [List.length_map]; have := F.few; omega
  have lf : lfD (famD (PFam hs f)) = true := lf_fam _
  have la : acc.length < 1000000 := by omega
  have tu : tupleG [.list ((PFam hs f).map tupD)] = .ok (.dat (famD (PFam hs f))) := rfl
  apply eq_of
  unfold plainM
  generalize netD hs fs = W at lc ⊢
  generalize famD f = FD at sq ⊢
  generalize famD (PFam hs f) = PD at lf tu ⊢
  generalize (PFam hs f).map tupD = PL at sg tu
  generalize (f.map (compL hs)).map tupD = CL at lc sg
  generalize f.map tupD = FL at lc sq ll
  simp [soft_c, ssM, lc, sg, sq, ll, lf, la, aft, tu]
theorem plain_loop (N : Dn hs fs) : ∀ (gs : List (List (List Str))) (acc : List D) (o2 o3 o4 : Option EV), (∀ g ∈ gs, FamN hs g) → acc.length + gs.length < 1000 →
    ∃ o2', forGo (setNS 2) plainM (gs.map famD) [some (.dat (netD hs fs)), some (.own acc), o2, o3, o4] φ = .ok (.nx, [some (.dat (netD hs fs)), some (.own (acc ++ gs.map fun f => famD (PFam hs f))), o2', o3, o4], φ)
  | [], acc, o2, o3, o4, _, _ => ⟨o2, by rw [List.map_nil, List.map_nil, List.append_nil]; rfl⟩
  | g :: gs, acc, o2, o3, o4, h, hl => by
    rw [List.length_cons] at hl
    have s1 := plain_1 (φ := φ) N (h g (by simp)) (acc := acc) (by omega) o3 o4
    obtain ⟨o2', ih⟩ := plain_loop N gs (acc ++ [famD (PFam hs g)]) (some (.dat (famD g))) o3 o4 (fun c m => h c (by simp [m])) (by simp; omega)
    refine ⟨o2', ?_⟩
    rw [List.map_cons, forGo_c, show setNS 2 (famD g) [some (.dat (netD hs fs)), some (.own acc), o2, o3, o4] = some [some (.dat (netD hs fs)), some (.own acc), some (.dat (famD g)), o3, o4] from rfl]
    dsimp only
    rw [s1, bind_e]
    dsimp only
    rw [ih]
    simp
theorem w_plain_e (N : Dn hs fs) : m_w_plain [netD hs fs] φ = .ok (.dat (plainD hs fs), φ) := by
  obtain ⟨o2, lp⟩ := plain_loop (φ := φ) N fs [] none none none N.fam (by have := N.few; have := N.len; simp; omega)
  rw [List.nil_append] at lp
  have i1 := i1_e (hs := hs) (fs := fs)
  have lc : ∀ r0 r1 r2 r3 r4, lcGo (setN 3) (tst (op2 (inG false) (tupM nilA) (vD 3))) (vD 3) [r0, r1, r2, r3, r4] (fs.map fun f => famD (PFam hs f)) φ = .ok ((fs.filter fun f => decide (hs ∈ f)).map fun f => famD (PFam hs f), φ) := fun r0 r1 r2 r3 r4 => by
    have key := lc_eq (φ := φ) (set := setN 3) (mt := tst (op2 (inG false) (tupM nilA) (vD 3))) (me := vD 3) (as := fs.map fun f => famD (PFam hs f)) (ρ0 := [r0, r1, r2, r3, r4]) (fun d => (match d with | .tuple ds => decide ([] ∈ ds.map lotD) | _ => false)) id fun a ha => by
      obtain ⟨f, mf, rfl⟩ := List.mem_map.mp ha
      have hi := in_fam' (d := .tuple []) (neg := false) (k := 1) (sh_tup (xs := []) (fun _ m => by cases m)) (f := PFam hs f) fun x mx y my => N.okl y ((PFam_lot N.asc x mx).2 y my)
      rw [show (PyData.tuple []) = tupD [] from rfl, inF_tup] at hi
      have e : (match famD (PFam hs f) with | .tuple ds => decide ([] ∈ ds.map lotD) | _ => false) = decide ([] ∈ PFam hs f) := by
        show decide ([] ∈ ((PFam hs f).map tupD).map lotD) = _
        rw [map_lot]
      refine ⟨_, rfl, ?_, fun _ => by simp⟩
      rw [e]
      generalize famD (PFam hs f) = F at hi
      have hi : inG false (.tuple []) F = _ := hi
      simp [hi]
    rw [key, List.map_id, List.filter_map]
    congr 2
    congr 1
    refine List.filter_congr fun f mf => ?_
    show decide ([] ∈ ((PFam hs f).map tupD).map lotD) = _
    rw [map_lot, decide_eq_decide]
    exact nil_PFam N.asc (N.fam f mf)
  have l1 : (fs.map famD).length ≤ 1000000 := by rw [List.length_map, N.len]; have := N.few; omega
  have l2 : (fs.map fun f => famD (PFam hs f)).length ≤ 1000000 := by rw [List.length_map, N.len]; have := N.few; omega
  have sq : ∀ φ, seqD (.tuple (fs.map famD)) φ = .ok (fs.map famD, φ) := fun φ => rfl
  have ne : neG (.list ((fs.filter fun f => decide (hs ∈ f)).map fun f => famD (PFam hs f))) (.list []) = .ok (.dat (.bool (allB hs fs))) := by
    rw [ne_nilD (k := 2) fun d m => by
      obtain ⟨f, mf, rfl⟩ := List.mem_map.mp m
      exact sh_fam fun x mx y my => N.okl y ((PFam_lot N.asc x mx).2 y my)]
    congr 3
    rw [List.isEmpty_map, Bool.eq_iff_iff, Bool.not_eq_true', ← Bool.not_eq_true, List.isEmpty_iff, List.filter_eq_nil_iff]
    unfold allB
    rw [List.any_eq_true]
    simp
  have tu : tupleG [.list (fs.map fun f => famD (PFam hs f))] = .ok (.dat (PQ hs fs)) := rfl
  apply eq_of
  unfold m_w_plain b_w_plain plainD
  rw [fnM_o]
  show sat (Res.bind (seqM _ (seqM (forM [] _ (setNS 2) plainM) _) _ _) _) _
  generalize ((fs.filter fun f => decide (hs ∈ f)).map fun f => famD (PFam hs f)) = FF at lc ne
  generalize PQ hs fs = PQ0 at tu ⊢
  generalize (fs.map fun f => famD (PFam hs f)) = PL at lp lc l2 tu
  generalize netD hs fs = W at lp i1 ⊢
  generalize fs.map famD = FL at lp i1 l1 sq
  generalize plainM = PM at lp ⊢
  generalize allB hs fs = B at ne ⊢
  cases B <;> simp [soft_c, i1, sq, l1, lp, lc, l2, ne, tu]
theorem tupL_srt {gs : List (List Str)} (h : gs.length < 64) (nd : gs.Nodup) : srt2G [.list (gs.map tupD)] = .ok (.own ((sortU ltL gs).map tupD)) := by
  cases gs with
  | nil => rfl
  | cons x r =>
    have e1 : srtL ((x :: r).map tupD) = .bad := by
      unfold srtL
      rfl
    unfold srt2G
    dsimp only
    rw [e1]
    dsimp only
    rw [tupsOf_map]
    dsimp only
    rw [if_pos ⟨h, nd⟩]
def plM : ME := callM tupleG (consA (callM srt2G (consA (lcM [4] (seqI (vD 3)) (setN 4) yesT (appM 2 m_without (consA (vD 1) (consA (vD 4) nilA)))) nilA)) nilA)
theorem topN {f : List (List Str)} (h : topU f = f) : f.Nodup := by
  have := topU_asc f
  rw [h] at this
  exact this.imp fun {a b} q e => by
    rw [e, tot_L.irr] at q
    cases q
theorem plain_2 (N : Dn hs fs) {f : List (List Str)} (F : FamN hs f) (o2 o4 : Option D) : plM [some (netD hs fs), some (tupD hs), o2, some (famD f), o4] φ = .ok (.dat (famD (PFam hs f)), φ) := by
  have lc : ∀ o4, lcGo (setN 4) yesT (appM 2 m_without (consA (vD 1) (consA (vD 4) nilA))) [some (netD hs fs), some (tupD hs), o2, some (famD f), o4] (f.map tupD) φ = .ok ((f.map (compL hs)).map tupD, φ) := fun o4 => by
    have key := lc_eq (φ := φ) (set := setN 4) (mt := yesT) (me := appM 2 m_without (consA (vD 1) (consA (vD 4) nilA))) (as := f.map tupD) (ρ0 := [some (netD hs fs), some (tupD hs), o2, some (famD f), o4]) (fun _ => true) (fun d => tupD (compL hs (lotD d))) fun a ha => by
      obtain ⟨g, mg, rfl⟩ := List.mem_map.mp ha
      have ot := without_e (φ := φ) N.okl (ys := g) (fun y my => N.okl y ((F.lot g mg).2 y my)) (by have := N.few; omega)
      refine ⟨_, rfl, rfl, fun _ => ?_⟩
      rw [lot_tup]
      generalize netD hs fs = W
      generalize famD f = FD
      generalize tupD (compL hs g) = C at ot ⊢
      generalize tupD hs = X at ot
      simp [ot]
    rw [key, List.filter_eq_self.mpr fun _ _ => rfl, List.map_map, List.map_map]
    congr 2
    refine List.map_congr_left fun g _ => ?_
    show tupD (compL hs (lotD (tupD g))) = tupD (compL hs g)
    rw [lot_tup]
  have nd : (f.map (compL hs)).Nodup := by
    have := topN F.top
    rw [List.nodup_iff_pairwise_ne, List.pairwise_map]
    rw [List.nodup_iff_pairwise_ne] at this
    refine this.imp_of_mem fun {a b} ma mb ne e => ne (compL_inj (F.lot a ma) (F.lot b mb) e)
  have sg : srt2G [.list ((f.map (compL hs)).map tupD)] = .ok (.own ((PFam hs f).map tupD)) := tupL_srt (by rw [List.length_map]; have := F.few; omega) nd
  have sq : ∀ φ, seqD (famD f) φ = .ok (f.map tupD, φ) := fun φ => rfl
  have ll : (f.map tupD).length ≤ 1000000 := by rw [List.length_map]; have := F.few; omega
  have tu : tupleG [.list ((PFam hs f).map tupD)] = .ok (.dat (famD (PFam hs f))) := rfl
  apply eq_of
  unfold plM
  generalize netD hs fs = W at lc ⊢
  generalize famD f = FD at lc sq ⊢
  generalize famD (PFam hs f) = PD at tu ⊢
  generalize (PFam hs f).map tupD = PL at sg tu
  generalize (f.map (compL hs)).map tupD = CL at lc sg
  generalize f.map tupD = FL at lc sq ll
  generalize tupD hs = X at lc ⊢
  simp [lc, sg, sq, ll, tu]
theorem net_pt (N : Dn hs fs) : Pt (netD hs fs) 40 90000 := by
  have fq : Pt (.tuple (fs.map famD)) 4 80000 := by
    have g := gdL (f := fun d => d) (L := fs.map famD) fun d m => (N.fsm d m : Sm d)
    rw [List.map_id'] at g
    refine ptM g (Nat.le_refl _) ?_
    have l5 := N.few
    have lf : (fs.map famD).length ≤ 9 := by rw [List.length_map, N.len]; exact l5
    have : (8000 + 2) * (fs.map famD).length ≤ (8000 + 2) * 9 := Nat.mul_le_mul_left _ lf
    omega
  exact ptM (pair_pt (ptM N.hpt (by decide) (Nat.le_refl _)) fq) (Nat.le_refl _) (by decide)
end
end V23
set_option maxHeartbeats 4000000
namespace V23
open PySem PySem.Spec PyProof.Rows L2 VI
section
variable {φ : FS} {hs : List Str} {fs : List (List (List Str))}
def Lots (hs : List Str) (ls : List (List Str)) : Prop := ls.length ≤ 10 ∧ ∀ x ∈ ls, Asc x ∧ ∀ y ∈ x, y ∈ hs
def Lot2 (hs : List Str) (ls : List (List Str)) : Prop := Lots hs ls ∧ ls ≠ [] ∧ ∀ x ∈ ls, x ≠ []
theorem set_e {xs : List Str} (hl : xs.length < 64) : m_w_set [tupD xs] φ = .ok (.dat (tupD (sortU ltS xs)), φ) := by
  have sg : ssG (xs.map PyData.str) = .ok (.own ((sortU ltS xs).map PyData.str)) := ssG_str hl
  have lg : listG [tupD xs] = .ok (.own (xs.map PyData.str)) := rfl
  have tg : tupleG [.list ((sortU ltS xs).map PyData.str)] = .ok (.dat (tupD (sortU ltS xs))) := rfl
  apply eq_of
  unfold m_w_set b_w_set
  rw [fnM_o]
  generalize tupD (sortU ltS xs) = T at tg ⊢
  generalize (sortU ltS xs).map PyData.str = SL at sg tg
  generalize xs.map PyData.str = XL at sg lg
  generalize tupD xs = X at lg
  simp [soft_c, ssM, lg, sg, tg]
def S1 : MS := asgD [] 6 (lcM [7] (rng1I (op2 addG (cD (.int 1)) (appM 2 m_w_draw (consA (vD 0) (consA (cD (.int 3)) nilA))))) (setN 7) yesT (appM 3 m_w_part (consA (vD 0) (consA (op2 ixG (vD 1) (cD (.int 0))) (consA (cD (.int 2)) nilA)))))
def S2 : MS := asgD [] 6 (lcM [8] (seqI (vD 6)) (setN 8) yesT (ifM (tst (op2 neG (vD 8) (tupM nilA))) (vD 8) (tupM (consA (op2 ixG (op2 ixG (vD 1) (cD (.int 0))) (vD 2)) nilA))))
def S3 : MS := ifS [] (andT (tst (op2 (isG true) (vD 4) (cD .none))) (orT (tst (op2 lt2G (vD 5) (cD (.int 2)))) (tst (op2 gtG (appM 2 m_w_draw (consA (vD 0) (consA (cD (.int 3)) nilA))) (cD (.int 0)))))) (seqM (asgD [] 6 (callM listG (consA (op2 ixG (vD 4) (vD 2)) nilA)))
  (ifS [] (andT (tst (op2 eqG (vD 5) (cD (.int 1)))) (tst (op2 eqG (appM 2 m_w_draw (consA (vD 0) (consA (cD (.int 3)) nilA))) (cD (.int 0))))) (asgD [] 6 (lcM [8] (seqI (vD 6)) (setN 8) yesT (appM 1 m_w_set (consA (op2 addG (vD 8) (tupM (consA (appM 2 m_w_pick (consA (vD 0) (consA (op2 ixG (vD 1) (cD (.int 0))) nilA))) nilA))) nilA)))) nxM)) nxM
def S4 : MS := appendM [] 3 (appM 1 m_w_least (consA (vD 6) nilA))
def packM : MS := seqM S1 (seqM S2 (seqM S3 S4))
/-- the state of the loop -/
def stP (hs : List Str) (fs : List (List (List Str))) (o2 : Option EV) (acc : List D) (y : Nat) (o6 o7 o8 : Option EV) : EnvS := [some (.dat (.dict [])), some (.dat (netD hs fs)), o2, some (.own acc), some (.dat (plainD hs fs)), some (.dat (.int (y : Int))), o6, o7, o8]
theorem s1_e (N : Dn hs fs) (o2 : Option EV) (acc : List D) (y : Nat) (o6 o7 o8 : Option EV) : sat (S1 (stP hs fs o2 acc y o6 o7 o8) φ) fun q => q.1 = .nx ∧ ∃ ls : List (List Str), q.2.1 = stP hs fs o2 acc y (some (.dat (.list (ls.map tupD)))) o7 o8 ∧ ls.length ≤ 3 ∧ ls ≠ [] ∧ Lots hs ls := by
  have pe := fun (φ : FS) => part_e (φ := φ) (xs := hs) (d := tupD hs) (w := 2) (.inr rfl) (by have := N.few; omega) (by decide) (by decide)
  have i0 := i0_e (hs := hs) (fs := fs)
  unfold S1 stP
  generalize netD hs fs = W at i0 ⊢
  generalize tupD hs = X at i0 pe
  generalize plainD hs fs = PD
  simp [soft_c]
  refine sat_rng1 ?_
  simp [soft_c]
  refine draw_k (by decide) (by decide) fun k φ5 hk => ?_
  simp
  refine ⟨1 + k, by simp, by omega, ?_⟩
  rw [if_pos (by omega), sat_bind]
  refine sat_lc (fun pre ds _ => ∃ ls : List (List Str), ds = ls.map tupD ∧ ls.length = pre.length ∧ ∀ x ∈ ls, Asc x ∧ ∀ y ∈ x, y ∈ hs) ⟨[], rfl, rfl, fun l m => by cases m⟩ (fun pre3 a3 post3 ds φ e3 hI => ?_) (fun ds φ hI => ?_)
  · obtain ⟨ls, rfl, ll, hl⟩ := hI
    refine ⟨_, rfl, ?_⟩
    simp [i0]
    refine sat_mono (pe φ) ?_
    rintro ⟨r, φ7⟩ ⟨zs, hr, sz⟩
    dsimp only at hr
    subst hr
    refine ⟨ls ++ [zs], by simp, by simp [ll], fun l ml => ?_⟩
    rcases List.mem_append.mp ml with ml | ml
    · exact hl l ml
    · rw [List.mem_singleton.mp ml]
      exact ⟨N.asc.sublist sz, fun y m => sz.subset m⟩
  · obtain ⟨ls, rfl, ll, hl⟩ := hI
    rw [List.length_map, List.length_range] at ll
    simp [aft]
    exact ⟨ls, rfl, by omega, fun e => by (rw [e] at ll; simp at ll; omega), by omega, hl⟩
theorem s2_e (N : Dn hs fs) {k : Nat} (hk : k < hs.length) (acc : List D) (y : Nat) {ls : List (List Str)} (h3 : ls.length ≤ 3) (h0 : ls ≠ []) (hl : Lots hs ls) (o7 o8 : Option EV) : ∃ ls' : List (List Str), S2 (stP hs fs (some (.dat (.int (k : Int)))) acc y (some (.dat (.list (ls.map tupD)))) o7 o8) φ = .ok (.nx, stP hs fs (some (.dat (.int (k : Int)))) acc y (some (.dat (.list (ls'.map tupD)))) o7 o8, φ) ∧ Lot2 hs ls' := by
  have i0 := i0_e (hs := hs) (fs := fs)
  obtain ⟨h, hh⟩ : ∃ h, hs[k]? = some h := ⟨_, List.getElem?_eq_getElem hk⟩
  have mh : h ∈ hs := List.mem_of_getElem? hh
  have ik : ixG (tupD hs) (.int (k : Int)) = .ok (.dat (.str h)) := ixG_n (by rw [List.getElem?_map, hh]; rfl)
  refine ⟨ls.map fun z => if z = [] then [h] else z, ?_, ?_⟩
  · have lc : ∀ r0 r3 r4 r5 r6 r7 r8, lcGo (setN 8) yesT (ifM (tst (op2 neG (vD 8) (tupM nilA))) (vD 8) (tupM (consA (op2 ixG (op2 ixG (vD 1) (cD (.int 0))) (vD 2)) nilA))) [r0, some (netD hs fs), some (.int (k : Int)), r3, r4, r5, r6, r7, r8] (ls.map tupD) φ = .ok ((ls.map fun z => if z = [] then [h] else z).map tupD, φ) := fun r0 r3 r4 r5 r6 r7 r8 => by
      have key := lc_eq (φ := φ) (set := setN 8) (mt := yesT) (me := ifM (tst (op2 neG (vD 8) (tupM nilA))) (vD 8) (tupM (consA (op2 ixG (op2 ixG (vD 1) (cD (.int 0))) (vD 2)) nilA))) (as := ls.map tupD) (ρ0 := [r0, some (netD hs fs), some (.int (k : Int)), r3, r4, r5, r6, r7, r8]) (fun _ => true) (fun d => tupD (if lotD d = [] then [h] else lotD d)) fun a ha => by
        obtain ⟨z, mz, rfl⟩ := List.mem_map.mp ha
        have nn : neG (tupD z) (.tuple []) = .ok (.dat (.bool (!decide (z = [])))) := by
          show neG (tupD z) (tupD []) = _
          rw [ne_sh (sh_tup fun y my => N.okl y ((hl.2 z mz).2 y my)) (sh_tup fun _ m => by cases m), eqv_tup]
        have e1 : PyData.tuple [.str h] = tupD [h] := rfl
        refine ⟨_, rfl, rfl, fun _ => ?_⟩
        rw [lot_tup]
        generalize netD hs fs = W at i0 ⊢
        generalize tupD hs = X at i0 ik
        by_cases ez : z = []
        · rw [decide_eq_true ez] at nn
          rw [if_pos ez, ← e1]
          generalize tupD z = Z at nn
          simp [i0, ik, nn]
        · rw [decide_eq_false ez] at nn
          rw [if_neg ez]
          generalize tupD z = Z at nn
          simp [nn]
      rw [key, List.filter_eq_self.mpr fun _ _ => rfl, List.map_map, List.map_map]
      congr 2
      refine List.map_congr_left fun z _ => ?_
      show tupD (if lotD (tupD z) = [] then [h] else lotD (tupD z)) = _
      rw [lot_tup]
      rfl
    have ll : (ls.map tupD).length ≤ 1000000 := by rw [List.length_map]; omega
    apply eq_of
    unfold S2 stP
    generalize netD hs fs = W at lc ⊢
    generalize plainD hs fs = PD
    generalize (ls.map fun z => if z = [] then [h] else z).map tupD = L2 at lc ⊢
    generalize ls.map tupD = L1 at lc ll ⊢
    simp [soft_c, lc, ll, aft]
  · refine ⟨⟨by rw [List.length_map]; omega, fun x m => ?_⟩, fun e => h0 (List.map_eq_nil_iff.mp e), fun x m => by
      obtain ⟨z, mz, rfl⟩ := List.mem_map.mp m
      by_cases ez : z = []
      · rw [if_pos ez]; simp
      · rw [if_neg ez]; exact ez⟩
    obtain ⟨z, mz, rfl⟩ := List.mem_map.mp m
    by_cases ez : z = []
    · rw [if_pos ez]
      exact ⟨List.pairwise_singleton _ _, fun y my => by rw [List.mem_singleton.mp my]; exact mh⟩
    · rw [if_neg ez]
      exact hl.2 z mz
end
end V23
set_option maxHeartbeats 4000000
namespace V23
open PySem PySem.Spec PyProof.Rows L2 VI
section
variable {φ : FS} {hs : List Str} {fs : List (List (List Str))}
def S3C : MS := ifS [] (andT (tst (op2 eqG (vD 5) (cD (.int 1)))) (tst (op2 eqG (appM 2 m_w_draw (consA (vD 0) (consA (cD (.int 3)) nilA))) (cD (.int 0))))) (asgD [] 6 (lcM [8] (seqI (vD 6)) (setN 8) yesT (appM 1 m_w_set (consA (op2 addG (vD 8) (tupM (consA (appM 2 m_w_pick (consA (vD 0) (consA (op2 ixG (vD 1) (cD (.int 0))) nilA))) nilA))) nilA)))) nxM
def S3B : MS := seqM (asgD [] 6 (callM listG (consA (op2 ixG (vD 4) (vD 2)) nilA))) S3C
theorem s3_o : S3 = ifS [] (andT (tst (op2 (isG true) (vD 4) (cD .none))) (orT (tst (op2 lt2G (vD 5) (cD (.int 2)))) (tst (op2 gtG (appM 2 m_w_draw (consA (vD 0) (consA (cD (.int 3)) nilA))) (cD (.int 0)))))) S3B nxM := rfl
theorem s3c_e (N : Dn hs fs) (o2 : Option EV) (acc : List D) (y : Nat) {ls : List (List Str)} (hl : Lot2 hs ls) (o7 o8 : Option EV) : sat (S3C (stP hs fs o2 acc y (some (.dat (.list (ls.map tupD)))) o7 o8) φ) fun q => q.1 = .nx ∧ ∃ ls' : List (List Str), q.2.1 = stP hs fs o2 acc y (some (.dat (.list (ls'.map tupD)))) o7 o8 ∧ Lot2 hs ls' := by
  have i0 := i0_e (hs := hs) (fs := fs)
  have e1 : eqG (.int (y : Int)) (.int 1) = .ok (.dat (.bool (decide (y = 1)))) := eq_int y 1
  have pe : ∀ φ, sat (m_w_pick [.dict [], tupD hs] φ) fun r => ∃ d ∈ hs.map PyData.str, r.1 = .dat d := fun φ => any_e (.inr rfl) (by simpa using N.ne) (by rw [List.length_map]; have := N.few; omega)
  have ll : (ls.map tupD).length ≤ 1000000 := by rw [List.length_map]; have := hl.1.1; omega
  have r1 : ∃ ls' : List (List Str), ls.map tupD = ls'.map tupD ∧ Lot2 hs ls' := ⟨ls, rfl, hl⟩
  have hm : ∀ (d : D) (p : Str), d ∈ ls.map tupD → p ∈ hs → ∃ zs, (∃ xs, d = tupD xs ∧ addG d (.tuple [.str p]) = .ok (.dat (tupD (xs ++ [p]))) ∧ ∀ φ, m_w_set [tupD (xs ++ [p])] φ = .ok (.dat (tupD zs), φ)) ∧ (Asc zs ∧ ∀ y ∈ zs, y ∈ hs) ∧ zs ≠ [] := fun d p m mp => by
    obtain ⟨xs, mx, rfl⟩ := List.mem_map.mp m
    have l9 := Nat.le_trans (asc_len (hl.1.2 xs mx) N.asc) N.few
    refine ⟨sortU ltS (xs ++ [p]), ⟨xs, rfl, ?_, fun φ => set_e (by simp; omega)⟩, ⟨sortU_asc tot_S _, fun y my => ?_⟩, fun e => by
      have : p ∈ sortU ltS (xs ++ [p]) := (mem_sortU tot_S).mpr (by simp)
      rw [e] at this
      cases this⟩
    · have := add_tt (xs := xs.map PyData.str) (ys := [.str p]) (by simp; omega)
      rw [show tupD (xs ++ [p]) = .tuple (xs.map PyData.str ++ [.str p]) by unfold tupD; rw [List.map_append]; rfl]
      exact this
    · have := (mem_sortU tot_S).mp my
      rcases List.mem_append.mp this with h | h
      · exact (hl.1.2 xs mx).2 y h
      · rw [List.mem_singleton.mp h]
        exact mp
  have hlen : ls.length ≤ 10 := hl.1.1
  have hlm : (ls.map tupD).length = ls.length := List.length_map _
  unfold S3C stP
  generalize netD hs fs = W at i0 ⊢
  generalize tupD hs = X at i0 pe
  generalize plainD hs fs = PD
  generalize ls.map tupD = L at *
  by_cases h1 : y = 1
  · rw [decide_eq_true h1] at e1
    simp [soft_c, e1]
    refine draw_k (by decide) (by decide) fun k φ7 hk => ?_
    have ek : eqG (.int (k : Int)) (.int 0) = .ok (.dat (.bool (decide (k = 0)))) := eq_int k 0
    by_cases hk0 : k = 0
    · rw [decide_eq_true hk0] at ek
      simp [ek, soft_c, ll]
      refine sat_lc (fun pre ds _ => ∃ l2 : List (List Str), ds = l2.map tupD ∧ l2.length = pre.length ∧ ∀ x ∈ l2, (Asc x ∧ ∀ y ∈ x, y ∈ hs) ∧ x ≠ []) ⟨[], rfl, rfl, fun l m => by cases m⟩ (fun pre3 a3 post3 ds φ e3 hI => ?_) (fun ds φ hI => ?_)
      · obtain ⟨l2, rfl, ll2, hl2⟩ := hI
        refine ⟨_, rfl, ?_⟩
        simp [i0]
        refine sat_mono (pe φ) ?_
        rintro ⟨r, φ7⟩ ⟨d, md, hr⟩
        dsimp only at hr
        subst hr
        obtain ⟨p, mp, rfl⟩ := List.mem_map.mp md
        obtain ⟨zs, ⟨xs, rfl, ha, hset⟩, az, hz⟩ := hm a3 p (by rw [e3]; simp) mp
        simp [ha, hset]
        refine ⟨l2 ++ [zs], by simp, by simp [ll2], fun l ml => ?_⟩
        rcases List.mem_append.mp ml with ml | ml
        · exact hl2 l ml
        · rw [List.mem_singleton.mp ml]
          exact ⟨az, hz⟩
      · obtain ⟨l2, rfl, ll2, hl2⟩ := hI
        simp [aft]
        exact ⟨l2, rfl, ⟨by omega, fun x m => (hl2 x m).1⟩, fun e => hl.2.1 (List.length_eq_zero_iff.mp (by (rw [e] at ll2; simp at ll2; omega))), fun x m => (hl2 x m).2⟩
    · rw [decide_eq_false hk0] at ek
      simp [ek]
      exact r1
  · rw [decide_eq_false h1] at e1
    simp [soft_c, e1]
    exact r1
theorem s3_e (N : Dn hs fs) {k : Nat} (hk : k < hs.length) (acc : List D) (y : Nat) {ls : List (List Str)} (hl : Lot2 hs ls) (o7 o8 : Option EV) : sat (S3 (stP hs fs (some (.dat (.int (k : Int)))) acc y (some (.dat (.list (ls.map tupD)))) o7 o8) φ) fun q => q.1 = .nx ∧ ∃ ls' : List (List Str), q.2.1 = stP hs fs (some (.dat (.int (k : Int)))) acc y (some (.dat (.list (ls'.map tupD)))) o7 o8 ∧ Lot2 hs ls' := by
  have r1 : ∃ ls' : List (List Str), ls.map tupD = ls'.map tupD ∧ Lot2 hs ls' := ⟨ls, rfl, hl⟩
  rw [s3_o]
  cases hb : allB hs fs with
  | true =>
    have ep : plainD hs fs = .none := by unfold plainD; rw [if_pos hb]
    have g1 : isG true .none .none = .ok (.dat (.bool false)) := rfl
    unfold stP
    rw [ep]
    generalize netD hs fs = W
    generalize ls.map tupD = L at *
    simp [soft_c, g1]
    exact r1
  | false =>
    have ep : plainD hs fs = PQ hs fs := by unfold plainD; rw [if_neg (by rw [hb]; decide)]
    have g1 : isG true (PQ hs fs) .none = .ok (.dat (.bool true)) := rfl
    obtain ⟨f, hf⟩ : ∃ f, fs[k]? = some f := ⟨_, List.getElem?_eq_getElem (by rw [N.len]; exact hk)⟩
    have mf : f ∈ fs := List.mem_of_getElem? hf
    have ik : ixG (PQ hs fs) (.int (k : Int)) = .ok (.dat (famD (PFam hs f))) := ixG_n (by rw [List.getElem?_map, hf]; rfl)
    have lg : listG [famD (PFam hs f)] = .ok (.own ((PFam hs f).map tupD)) := rfl
    have nf : hs ∉ f := fun m => by
      have : allB hs fs = true := List.any_eq_true.mpr ⟨f, mf, decide_eq_true m⟩
      rw [hb] at this
      cases this
    have lp : Lot2 hs (PFam hs f) := ⟨⟨Nat.le_trans PFam_len (N.fam f mf).few, PFam_lot N.asc⟩, fun e => (by
      obtain ⟨x, r, ef⟩ := List.exists_cons_of_ne_nil (N.fam f mf).ne
      have : compL hs x ∈ PFam hs f := (mem_sortU tot_L).mpr (List.mem_map_of_mem (by rw [ef]; simp))
      rw [e] at this
      cases this), fun x m e => nf ((nil_PFam N.asc (N.fam f mf)).mp (e ▸ m))⟩
    have key : ∀ φ, sat (S3B (stP hs fs (some (.dat (.int (k : Int)))) acc y (some (.dat (.list (ls.map tupD)))) o7 o8) φ) fun q => q.1 = .nx ∧ ∃ ls' : List (List Str), q.2.1 = stP hs fs (some (.dat (.int (k : Int)))) acc y (some (.dat (.list (ls'.map tupD)))) o7 o8 ∧ Lot2 hs ls' := fun φ => by
      have a : asgD [] 6 (callM listG (consA (op2 ixG (vD 4) (vD 2)) nilA)) (stP hs fs (some (.dat (.int (k : Int)))) acc y (some (.dat (.list (ls.map tupD)))) o7 o8) φ = .ok (.nx, stP hs fs (some (.dat (.int (k : Int)))) acc y (some (.dat (.list ((PFam hs f).map tupD)))) o7 o8, φ) := by
        apply eq_of
        unfold stP
        rw [ep]
        generalize netD hs fs = W
        generalize PQ hs fs = Q0 at *
        generalize famD (PFam hs f) = F0 at *
        generalize (PFam hs f).map tupD = L0 at *
        generalize ls.map tupD = L at *
        simp [soft_c, ik, lg, aft]
      unfold S3B
      rw [seqM_o, a, bind_e]
      exact s3c_e N _ acc y lp o7 o8
    have lt : lt2G (.int (y : Int)) (.int 2) = .ok (.dat (.bool (decide ((y : Int) < 2)))) := rfl
    unfold stP at key ⊢
    rw [ep] at key ⊢
    clear lp
    generalize netD hs fs = W at *
    generalize PQ hs fs = Q0 at *
    generalize S3B = B3 at key ⊢
    generalize ls.map tupD = L at *
    by_cases hy : (y : Int) < 2
    · rw [decide_eq_true hy] at lt
      simp [soft_c, g1, lt]
      exact key φ
    · rw [decide_eq_false hy] at lt
      simp [soft_c, g1, lt]
      refine draw_k (by decide) (by decide) fun c φ7 hc => ?_
      by_cases hc0 : 0 < c
      · simp [hc0]
        exact key φ7
      · simp [hc0]
        exact r1
end
end V23
set_option maxHeartbeats 4000000
namespace V23
open PySem PySem.Spec PyProof.Rows L2 VI
section
variable {φ : FS} {hs : List Str} {fs : List (List (List Str))}
theorem s4_e (N : Dn hs fs) (o2 : Option EV) {acc : List D} (ha : acc.length < 1000) (y : Nat) {ls : List (List Str)} (hl : Lot2 hs ls) (o7 o8 : Option EV) : S4 (stP hs fs o2 acc y (some (.dat (.list (ls.map tupD)))) o7 o8) φ = .ok (.nx, stP hs fs o2 (acc ++ [famD (botU ls)]) y (some (.dat (.list (ls.map tupD)))) o7 o8, φ) := by
  have ok : ∀ x ∈ ls, okL x ∧ x.length ≤ 1000 := fun x m => ⟨fun y my => N.okl y ((hl.1.2 x m).2 y my), by have := asc_len (hl.1.2 x m) N.asc; have := N.few; omega⟩
  have wl := w_least_e (φ := φ) (f := ls) (d := .list (ls.map tupD)) (.inr rfl) ok (by have := hl.1.1; omega)
  have lf : lfD (famD (botU ls)) = true := lf_fam _
  have la : acc.length < 1000000 := by omega
  apply eq_of
  unfold S4 stP
  generalize netD hs fs = W
  generalize plainD hs fs = PD
  generalize famD (botU ls) = B at wl lf ⊢
  generalize ls.map tupD = L at wl ⊢
  simp [soft_c, wl, aft, lf, la]
theorem packM_e (N : Dn hs fs) {k : Nat} (hk : k < hs.length) {acc : List D} (ha : acc.length < 1000) (y : Nat) (o6 o7 o8 : Option EV) : sat (packM (stP hs fs (some (.dat (.int (k : Int)))) acc y o6 o7 o8) φ) fun q => q.1 = .nx ∧ ∃ (p : List (List Str)) (o6' : Option EV), q.2.1 = stP hs fs (some (.dat (.int (k : Int)))) (acc ++ [famD p]) y o6' o7 o8 ∧ ∃ ls, p = botU ls ∧ Lot2 hs ls := by
  unfold packM
  rw [seqM_o, sat_bind]
  refine sat_mono (s1_e N _ acc y o6 o7 o8) ?_
  rintro ⟨fl, σ, φ1⟩ ⟨h1, ls, h2, l3, l0, hl⟩
  dsimp only at h1 h2
  subst h1 h2
  dsimp only
  obtain ⟨ls2, e2, hl2⟩ := s2_e (φ := φ1) N hk acc y l3 l0 hl o7 o8
  rw [seqM_o, e2, bind_e]
  dsimp only
  rw [seqM_o, sat_bind]
  refine sat_mono (s3_e N hk acc y hl2 o7 o8) ?_
  rintro ⟨fl, σ, φ2⟩ ⟨h1, ls3, h2, hl3⟩
  dsimp only at h1 h2
  subst h1 h2
  dsimp only
  have e4 := s4_e (φ := φ2) N (some (.dat (.int (k : Int)))) ha y hl3 o7 o8
  rw [e4]
  exact ⟨_, rfl, rfl, _, _, rfl, _, rfl, hl3⟩
theorem packs_d (N : Dn hs fs) : sat (m_w_packs [.dict [], netD hs fs] φ) fun r => ∃ ps : List (List (List Str)), r.1 = .dat (.tuple (ps.map famD)) ∧ ps.length = hs.length ∧ ∀ p ∈ ps, ∃ ls, p = botU ls ∧ Lot2 hs ls := by
  have i0 := i0_e (hs := hs) (fs := fs)
  have wp := fun φ => w_plain_e (φ := φ) N
  have ll : lenG [tupD hs] = .ok (.dat (.int (hs.length : Int))) := by show Res.ok (EV.dat (PyData.int (hs.map PyData.str).length)) = _; rw [List.length_map]
  unfold m_w_packs b_w_packs
  rw [fnM_o]
  show sat (Res.bind (seqM _ (seqM (forC [] _ (setNS 2) packM) _) _ _) _) _
  generalize hP : packM = P
  generalize hW : netD hs fs = W at i0 wp ⊢
  generalize hX : tupD hs = X at i0 ll
  generalize hQ : plainD hs fs = Q at wp
  simp [soft_c, wp]
  refine draw_k (by decide) (by decide) fun y φ2 hy => ?_
  have rg : sat (rng1I (callM lenG (consA (op2 ixG (vD 1) (cD (.int 0))) nilA)) [some (.dict []), some W, none, none, some Q, some (.int (y : Int)), none, none, none] φ2) fun r => r = ((List.range hs.length).map fun (i : Nat) => PyData.int (0 + (i : Int)), φ2) := by
    refine sat_rng1 ?_
    simp [i0, ll]
    exact ⟨hs.length, rfl, by have := N.few; omega, rfl⟩
  simp [soft_c]
  refine sat_mono rg ?_
  rintro r rfl
  dsimp only
  refine sat_for (fun pre σ _ => ∃ (ps : List (List (List Str))) (o2 o6 : Option EV), σ = stP hs fs o2 (ps.map famD) y o6 none none ∧ ps.length = pre.length ∧ ∀ p ∈ ps, ∃ ls, p = botU ls ∧ Lot2 hs ls) ⟨[], none, none, by unfold stP; rw [hW, hQ]; rfl, rfl, fun p m => by cases m⟩ (fun pre a post σ φ e hI => ?_) (fun σ φ hI => ?_)
  · obtain ⟨ps, o2, o6, rfl, lp, hp⟩ := hI
    have lpre : pre.length < hs.length := by
      have q := congrArg List.length e
      rw [List.length_map, List.length_range, List.length_append, List.length_cons] at q
      omega
    have ea : a = .int (pre.length : Int) := by
      have q : ((List.range hs.length).map fun (i : Nat) => PyData.int (0 + (i : Int)))[pre.length]? = some a := by rw [e, List.getElem?_append_right (Nat.le_refl _), Nat.sub_self]; rfl
      rw [List.getElem?_map, List.getElem?_range lpre] at q
      simpa using q.symm
    subst ea
    refine ⟨stP hs fs (some (.dat (.int (pre.length : Int)))) (ps.map famD) y o6 none none, rfl, ?_⟩
    rw [← hP]
    refine sat_mono (packM_e N lpre (by rw [List.length_map, lp]; have := N.few; omega) y o6 none none) ?_
    rintro ⟨fl, σ, φ3⟩ ⟨h1, p, o6', h2, h3⟩
    dsimp only at h1 h2
    subst h1 h2
    refine .inl ⟨rfl, ps ++ [p], some (.dat (.int (pre.length : Int))), o6', by simp, by simp [lp], fun q m => ?_⟩
    rcases List.mem_append.mp m with m | m
    · exact hp q m
    · rw [List.mem_singleton.mp m]
      exact h3
  · obtain ⟨ps, o2, o6, rfl, lp, hp⟩ := hI
    rw [List.length_map, List.length_range] at lp
    unfold stP
    have tg : tupleG [.list (ps.map famD)] = .ok (.dat (.tuple (ps.map famD))) := rfl
    have fin : ∃ ps' : List (List (List Str)), ps.map famD = ps'.map famD ∧ ps'.length = hs.length ∧ ∀ p ∈ ps', ∃ ls, p = botU ls ∧ Lot2 hs ls := ⟨ps, rfl, lp, hp⟩
    rw [hW, hQ]
    generalize ps.map famD = L at tg fin ⊢
    simp [soft_o', softF, soft1, tg]
    exact fin
end
end V23
set_option maxHeartbeats 4000000
namespace V23
open PySem PySem.Spec PyProof.Rows L2 VI
def addV (L : List (List Str)) (v : Str) : List (List Str) := L ++ L.map fun x => x ++ [v]
def allV (V : List Str) : List (List Str) := V.foldl addV [[]]
theorem allV_go : ∀ (W U : List Str) (L : List (List Str)), (U ++ W).Nodup → (∀ x, x ∈ L ↔ x.Sublist U) → L.Nodup → (∀ x, x ∈ W.foldl addV L ↔ x.Sublist (U ++ W)) ∧ (W.foldl addV L).Nodup
  | [], U, L, nd, h, n => by rw [List.append_nil]; exact ⟨h, n⟩
  | v :: W, U, L, nd, h, n => by
    have e : U ++ v :: W = (U ++ [v]) ++ W := by simp
    have nv : v ∉ U := fun m => by
      have := (List.nodup_append.mp nd).2.2 v m v (by simp)
      exact this rfl
    rw [e] at nd ⊢
    refine allV_go W (U ++ [v]) (addV L v) nd (fun x => ?_) ?_
    · unfold addV
      rw [List.mem_append, List.mem_map, List.sublist_append_iff]
      constructor
      · rintro (m | ⟨y, my, rfl⟩)
        · exact ⟨x, [], by simp, (h x).mp m, List.nil_sublist _⟩
        · exact ⟨y, [v], rfl, (h y).mp my, List.Sublist.refl _⟩
      · rintro ⟨a, b, rfl, ha, hb⟩
        cases b with
        | nil => rw [List.append_nil]; exact .inl ((h a).mpr ha)
        | cons c r =>
          have hl := hb.length_le
          have hr : r = [] := by cases r with
            | nil => rfl
            | cons d r => simp at hl
          subst hr
          have hc : c = v := List.mem_singleton.mp (hb.subset (by simp))
          subst hc
          exact .inr ⟨a, (h a).mpr ha, rfl⟩
    · unfold addV
      rw [List.nodup_append]
      refine ⟨n, ?_, fun a ma b mb e => ?_⟩
      · exact List.pairwise_map.mpr (n.imp fun {a b} hne e => hne (List.append_cancel_right e))
      · obtain ⟨y, my, rfl⟩ := List.mem_map.mp mb
        subst e
        exact nv (((h _).mp ma).subset (by simp))
theorem allV_mem {V : List Str} (hV : Asc V) : (∀ x, x ∈ allV V ↔ x.Sublist V) ∧ (allV V).Nodup := by
  have := allV_go V [] [[]] (by rw [List.nil_append]; exact nodup_asc hV) (fun x => by rw [List.mem_singleton, List.sublist_nil]) (by simp)
  rwa [List.nil_append] at this
theorem allV_evr {V : List Str} (hV : Asc V) : Evr V (sortU ltL (allV V)) := ⟨sortU_asc tot_L _, fun x => by rw [mem_sortU tot_L, (allV_mem hV).1]⟩
section
variable {φ : FS}
end
end V23
set_option maxHeartbeats 4000000
namespace V23
open PySem PySem.Spec PyProof.Rows L2 VI
section
variable {φ : FS}
theorem lc_fil {γ : Type} {set : D → Env' → Option Env'} {mt : MT} {me : ME} {f : γ → D} {ρ0 : Env'} (p : γ → Bool) : ∀ {as : List γ}, (∀ a ∈ as, ∃ ρ1, set (f a) ρ0 = some ρ1 ∧ mt ρ1 φ = .ok (p a, φ) ∧ sat (me ρ1 φ) fun r => r.1.toD = f a ∧ r.2 = φ) → lcGo set mt me ρ0 (as.map f) φ = .ok ((as.filter p).map f, φ)
  | [], _ => rfl
  | a :: as, h => by
    have ih := lc_fil (set := set) (mt := mt) (me := me) (f := f) (ρ0 := ρ0) p (as := as) fun b m => h b (by simp [m])
    obtain ⟨ρ1, h1, ht, ⟨⟨e, φ'⟩, h2, h3, h4⟩⟩ := h a (by simp)
    dsimp only at h3 h4
    subst h4
    rw [List.map_cons, List.filter_cons]
    show (match set (f a) ρ0 with
      | none => Res.bad
      | some ρ1 => (mt ρ1 φ').bind fun r => if r.1 = true then (me ρ1 r.2).bind fun r1' => (lcGo set mt me ρ0 (as.map f) r1'.2).bind fun r2' => .ok (r1'.1.toD :: r2'.1, r2'.2) else lcGo set mt me ρ0 (as.map f) r.2) = _
    rw [h1]
    dsimp only
    rw [ht, bind_e]
    dsimp only
    cases p a with
    | true =>
      rw [if_pos rfl, if_pos rfl, h2, bind_e]
      dsimp only
      rw [ih, bind_e, h3, List.map_cons]
    | false =>
      rw [if_neg (by decide), if_neg (by decide)]
      exact ih
end
end V23
set_option maxHeartbeats 4000000
namespace V23
open PySem PySem.Spec PyProof.Rows L2 VI
theorem num_at : ∀ {ds : List D} {k : Nat} {pre : List (D × D)} {a : D × D} {post : List (D × D)}, numL k ds = pre ++ a :: post → a.1 = .int ((k + pre.length : Nat) : Int) ∧ ds[pre.length]? = some a.2
  | [], k, pre, a, post, h => by cases pre <;> cases h
  | d :: ds, k, [], a, post, h => by
    have e := (List.cons.inj h).1
    subst e
    exact ⟨rfl, rfl⟩
  | d :: ds, k, p :: pre, a, post, h => by
    obtain ⟨h1, h2⟩ := num_at (List.cons.inj h).2
    refine ⟨?_, ?_⟩
    · rw [h1, List.length_cons]
      congr 2
      omega
    · rw [List.length_cons, List.getElem?_cons_succ]
      exact h2
theorem numL_len : ∀ (k : Nat) (ds : List D), (numL k ds).length = ds.length
  | _, [] => rfl
  | k, d :: ds => by rw [numL, List.length_cons, List.length_cons, numL_len]
/-- lots that quorums are made of -/
structure Late (V : List Str) (ls : List (List Str)) : Prop where
  ne : ls ≠ []
  few : ls.length ≤ 61
  lot : ∀ x ∈ ls, x.Sublist V ∧ x ≠ []
theorem least_fam {V : List Str} (hV : Hs V) {ls : List (List Str)} (L : Late V ls) : FamV V (lsU ls) ∧ ∀ q ∈ lsU ls, q ≠ [] := by
  have asc := lsU_asc ls
  have nd : (lsU ls).Nodup := asc.imp fun {a b} h e => by
    subst e
    rw [tot_L.irr] at h
    cases h
  have sub : ∀ x ∈ lsU ls, x.Sublist V := fun x m => (L.lot x (mem_lsU.mp m).1).1
  have below : ∀ (n : Nat) (x : List Str), x.length ≤ n → x ∈ ls → lsU ls ≠ [] := by
    intro n
    induction n with
    | zero =>
      intro x hx mx
      exact absurd (List.length_eq_zero_iff.mp (by omega)) (L.lot x mx).2
    | succ n ih =>
      intro x hx mx
      by_cases h : x ∈ lsU ls
      · exact fun e => by rw [e] at h; cases h
      · have : ∃ y ∈ ls, y ≠ x ∧ subL y x = true := Classical.byContradiction fun no => h (mem_lsU.mpr ⟨mx, fun y my ne => by
          cases s : subL y x with
          | false => rfl
          | true => exact absurd ⟨y, my, ne, s⟩ no⟩)
        obtain ⟨y, my, ne, s⟩ := this
        have sy := asc_sublist (hV.asc.sublist (L.lot y my).1) (hV.asc.sublist (L.lot x mx).1) (subL_iff.mp s)
        have ly : y.length < x.length := by
          rcases Nat.lt_or_ge y.length x.length with l | l
          · exact l
          · exact absurd (sy.eq_of_length (Nat.le_antisymm sy.length_le l)) ne
        exact ih y (by omega) my
  obtain ⟨x0, r0, e0⟩ := List.exists_cons_of_ne_nil L.ne
  refine ⟨⟨below _ x0 (Nat.le_refl _) (by rw [e0]; simp), ?_, asc, fun x mx y my ne => (mem_lsU.mp my).2 x (mem_lsU.mp mx).1 (Ne.symm ne), sub⟩, fun q m => (L.lot q (mem_lsU.mp m).1).2⟩
  have := subs_len nd sub
  have p1 : 2 ^ V.length ≤ 2 ^ 5 := Nat.pow_le_pow_right (by decide) hV.few
  have p3 : (2 : Nat) ^ 5 = 32 := rfl
  omega
section
variable {φ : FS}
theorem lc_sat {γ : Type} {P : γ → Prop} {set : D → Env' → Option Env'} {me : ME} {f : γ → D} {ρ0 : Env'} : ∀ (as : List D), (∀ a ∈ as, ∃ ρ1, set a ρ0 = some ρ1 ∧ ∀ φ, sat (me ρ1 φ) fun r => ∃ y, r.1.toD = f y ∧ P y) → ∀ φ, sat (lcGo set yesT me ρ0 as φ) fun r => ∃ ys : List γ, r.1 = ys.map f ∧ ys.length = as.length ∧ ∀ y ∈ ys, P y
  | [], _, φ => ⟨_, rfl, [], rfl, rfl, fun y m => by cases m⟩
  | a :: as, h, φ => by
    obtain ⟨ρ1, h1, ⟨⟨e, φ1⟩, h2, y, h3, hp⟩⟩ := h a (by simp)
      |> fun ⟨ρ1, h1, k⟩ => (⟨ρ1, h1, k φ⟩ : ∃ ρ1, set a ρ0 = some ρ1 ∧ sat (me ρ1 φ) fun r => ∃ y, r.1.toD = f y ∧ P y)
    obtain ⟨⟨ds, φ2⟩, k2, ys, k3, k4, k5⟩ := lc_sat (P := P) (set := set) (me := me) (f := f) (ρ0 := ρ0) as (fun b m => h b (by simp [m])) φ1
    dsimp only at h3 k3
    refine ⟨(f y :: ds, φ2), ?_, y :: ys, by rw [k3]; rfl, by simp [k4], fun z m => ?_⟩
    · show (match set a ρ0 with
        | none => Res.bad
        | some ρ1 => (yesT ρ1 φ).bind fun r => if r.1 = true then (me ρ1 r.2).bind fun r1' => (lcGo set yesT me ρ0 as r1'.2).bind fun r2' => .ok (r1'.1.toD :: r2'.1, r2'.2) else lcGo set yesT me ρ0 as r.2) = _
      rw [h1]
      show (me ρ1 φ).bind (fun r1' => (lcGo set yesT me ρ0 as r1'.2).bind fun r2' => .ok (r1'.1.toD :: r2'.1, r2'.2)) = _
      rw [h2, bind_e]
      dsimp only
      rw [k2, bind_e, h3]
    · rcases List.mem_cons.mp m with rfl | m
      · exact hp
      · exact k5 z m
end
end V23
set_option maxHeartbeats 4000000
namespace V23
open PySem PySem.Spec PyProof.Rows L2 VI
theorem nd_inj {V : List Str} (nd : V.Nodup) {i j : Nat} (hi : i < V.length) (hj : j < V.length) (e : V[i] = V[j]) : i = j := by
  rcases Nat.lt_trichotomy i j with g | g | g
  · exact absurd e (List.pairwise_iff_getElem.mp nd i j hi hj g)
  · exact g
  · exact absurd e.symm (List.pairwise_iff_getElem.mp nd j i hj hi g)
theorem ptLT {ds : List D} {k n : Nat} (h : Pt (.tuple ds) k n) : Pt (.list ds) k n := ⟨by simpa only [pr] using h.pr, h.dp, h.sz⟩
theorem pt2 {a b : D} {k n : Nat} (h1 : Pt a k n) (h2 : Pt b k n) : Pt (.tuple [a, b]) (k + 1) (2 * n + 8) := by
  have := gdL (f := fun d : D => d) (k := k) (m := n) (L := [a, b]) fun d md => by
    rcases List.mem_cons.mp md with rfl | md
    · exact h1
    · rw [List.mem_singleton.mp md]; exact h2
  refine ptM this (Nat.le_refl _) ?_
  rw [show ([a, b] : List D).length = 2 from rfl]
  omega
theorem fam_narrow {V : List Str} {fs : List (List (List Str))} (F : ∀ f ∈ fs, FamV V f) : ∀ f ∈ fs.map famD, ∀ ls, f = .tuple ls → ls.length < 64 := fun f mf ls el => by
  obtain ⟨g, mg, rfl⟩ := List.mem_map.mp mf
  have : PyData.tuple (g.map tupD) = .tuple ls := el
  injection this with this
  rw [← this, List.length_map]
  have := (F g mg).few
  omega
theorem fam_noempty {f : List (List Str)} (h : ∀ q ∈ f, q ≠ []) : emB (famD f) = false := by
  show ((f.map tupD).any fun z => PyData.eqv z (.tuple [])) = false
  rw [← Bool.not_eq_true, List.any_eq_true]
  rintro ⟨z, mz, e⟩
  obtain ⟨q, mq, rfl⟩ := List.mem_map.mp mz
  have e2 : PyData.eqv (tupD q) (tupD []) = true := e
  rw [eqv_tup] at e2
  exact h q mq (of_decide_eq_true e2)
section
variable {φ : FS}
theorem famAt_ix {V : List Str} {QS : List (List (List Str))} (hl : QS.length = V.length) (nd : V.Nodup) {i : Nat} {h : Str} (hh : V[i]? = some h) : QS[i]? = some (famAt V QS h) := by
  obtain ⟨hi, ei⟩ := List.getElem?_eq_some_iff.mp hh
  obtain ⟨j, f, h1, h2, h3, h4⟩ := fam_mem hl (List.mem_of_getElem? hh)
  obtain ⟨j', e1, e2⟩ := find_at (List.mem_of_getElem? hh)
  rw [h1] at e1
  cases e1
  obtain ⟨hj, ej⟩ := List.getElem?_eq_some_iff.mp e2
  have : i = j := nd_inj nd hi hj (by rw [ei, ej])
  rw [this, h2, h3]
end
end V23
set_option maxHeartbeats 4000000
namespace V23
open PySem PySem.Spec PyProof.Rows L2 VI
def rowV (V : List Str) (s : Nat) : List (List Str) := sortU ltL ((allV V).filter fun x => decide (x.length = s))
def byLen (V : List Str) : List (List Str) := (List.range (V.length + 1)).flatMap (rowV V)
theorem mem_row {V : List Str} (hV : Asc V) {s : Nat} {x : List Str} : x ∈ rowV V s ↔ x.Sublist V ∧ x.length = s := by
  unfold rowV
  rw [mem_sortU tot_L, List.mem_filter, (allV_mem hV).1, decide_eq_true_eq]
theorem mem_byLen {V : List Str} (hV : Asc V) {x : List Str} : x ∈ byLen V ↔ x.Sublist V := by
  unfold byLen
  rw [List.mem_flatMap]
  constructor
  · rintro ⟨s, _, m⟩
    exact ((mem_row hV).mp m).1
  · intro h
    exact ⟨x.length, List.mem_range.mpr (by have := h.length_le; omega), (mem_row hV).mpr ⟨h, rfl⟩⟩
/-- shorter ones first, none twice -/
def Ord (x y : List Str) : Prop := x.length ≤ y.length ∧ x ≠ y
theorem byLen_ord {V : List Str} (hV : Asc V) : (byLen V).Pairwise Ord := by
  have go : ∀ n, ((List.range n).flatMap (rowV V)).Pairwise Ord := by
    intro n
    induction n with
    | zero => simp
    | succ n ih =>
      rw [List.range_succ, List.flatMap_append, List.pairwise_append]
      refine ⟨ih, ?_, fun x mx y my => ?_⟩
      · rw [List.flatMap_singleton]
        refine (sortU_asc tot_L _).imp_of_mem fun {a b} ma mb h => ⟨?_, fun e => ?_⟩
        · rw [((mem_row hV).mp ma).2, ((mem_row hV).mp mb).2]; exact Nat.le_refl _
        · subst e
          rw [tot_L.irr] at h
          cases h
      · rw [List.flatMap_singleton] at my
        obtain ⟨s, ms, mx⟩ := List.mem_flatMap.mp mx
        rw [List.mem_range] at ms
        have e1 := ((mem_row hV).mp mx).2
        have e2 := ((mem_row hV).mp my).2
        exact ⟨by omega, fun e => by subst e; omega⟩
  exact go _
theorem byLen_few {V : List Str} (hV : Hs V) : (byLen V).length ≤ 32 := by
  have nd : (byLen V).Nodup := (byLen_ord hV.asc).imp fun h => h.2
  have := subs_len nd fun k m => (mem_byLen hV.asc).mp m
  have p1 : 2 ^ V.length ≤ 2 ^ 5 := Nat.pow_le_pow_right (by decide) hV.few
  have p3 : (2 : Nat) ^ 5 = 32 := rfl
  omega
section
variable {φ : FS}
def sbM : MS := asgD [] 1 (op2 addG (vD 1) (lcM [5] (seqI (vD 1)) (setN 5) yesT (op2 addG (vD 5) (tupM (consA (vD 2) nilA)))))
def szM : MS := asgD [] 3 (op2 addG (vD 3) (ssM (lcM [5] (seqI (vD 1)) (setN 5) (tst (op2 eqG (callM lenG (consA (vD 5) nilA)) (vD 4))) (vD 5))))
def szI : MI D := rng1I (op2 addG (callM lenG (consA (vD 0) nilA)) (cD (.int 1)))
theorem subs_o : b_w_subsets = seqM (asgD [] 1 (lstM (consA (tupM nilA) nilA))) (seqM (forM [] (seqI (vD 0)) (setNS 2) sbM) (seqM (asgD [] 3 (lstM nilA)) (seqM (forC [] szI (setNS 4) szM) (retV 3)))) := rfl
theorem sb_e (X : D) (v : Str) (L : List (List Str)) (lL : L.length ≤ 1000) (ll : ∀ x ∈ L, x.length ≤ 100) : sbM [some (.dat X), some (.dat (.list (L.map tupD))), some (.dat (.str v)), none, none, none] φ = .ok (.nx, [some (.dat X), some (.dat (.list ((addV L v).map tupD))), some (.dat (.str v)), none, none, none], φ) := by
  have lc := lc_eqG (φ := φ) (set := setN 5) (me := op2 addG (vD 5) (tupM (consA (vD 2) nilA))) (f := tupD) (g := fun x => tupD (x ++ [v])) (ρ0 := [some X, some (.list (L.map tupD)), some (.str v), none, none, none]) (as := L) fun x mx => by
    have ad : addG (tupD x) (.tuple [.str v]) = .ok (.dat (tupD (x ++ [v]))) := by
      have := add_tt (xs := x.map PyData.str) (ys := [.str v]) (by rw [List.length_map]; have := ll x mx; simp; omega)
      show addG (.tuple _) _ = _
      rw [this]
      show _ = Res.ok (EV.dat (.tuple ((x ++ [v]).map PyData.str)))
      rw [List.map_append]
      rfl
    refine ⟨_, rfl, ?_⟩
    generalize PyData.list (L.map tupD) = LD
    generalize tupD (x ++ [v]) = R at *
    generalize tupD x = X1 at *
    simp [ad]
  have sq : ∀ φ, seqD (.list (L.map tupD)) φ = .ok (L.map tupD, φ) := fun φ => rfl
  have l1 : (L.map tupD).length ≤ 1000000 := by rw [List.length_map]; omega
  have ea : (L.map fun x => tupD (x ++ [v])) = (L.map fun x => x ++ [v]).map tupD := by rw [List.map_map]; rfl
  have ad2 : addG (.list (L.map tupD)) (.list (L.map fun x => tupD (x ++ [v]))) = .ok (.own ((addV L v).map tupD)) := by
    rw [add_ll (by rw [List.length_map, List.length_map]; omega), ea, ← List.map_append]
    rfl
  apply eq_of
  unfold sbM
  generalize (addV L v).map tupD = R at *
  generalize (L.map fun x => tupD (x ++ [v])) = L2 at *
  generalize hT : PyData.list (L.map tupD) = T at *
  generalize L.map tupD = LT at *
  simp [soft_c, aft, sq, l1, lc, ad2]
theorem sb_loop (X : D) : ∀ (W : List Str) (L : List (List Str)) (n : Nat) (o2 : Option EV), L.length ≤ 2 ^ n → n + W.length ≤ 5 → (∀ x ∈ L, x.length ≤ n) → ∃ o2', forGo (setNS 2) sbM (W.map .str) [some (.dat X), some (.dat (.list (L.map tupD))), o2, none, none, none] φ = .ok (.nx, [some (.dat X), some (.dat (.list ((W.foldl addV L).map tupD))), o2', none, none, none], φ)
  | [], L, n, o2, _, _, _ => ⟨o2, rfl⟩
  | v :: W, L, n, o2, h1, h2, h3 => by
    have hn : n ≤ 5 := by omega
    have p : 2 ^ n ≤ 2 ^ 5 := Nat.pow_le_pow_right (by decide) hn
    have p3 : (2 : Nat) ^ 5 = 32 := rfl
    have st : setNS 2 (.str v) [some (.dat X), some (.dat (.list (L.map tupD))), o2, none, none, none] = some [some (.dat X), some (.dat (.list (L.map tupD))), some (.dat (.str v)), none, none, none] := rfl
    have h2' : n + 1 + W.length ≤ 5 := by rw [List.length_cons] at h2; omega
    obtain ⟨o2', ih⟩ := sb_loop X W (addV L v) (n + 1) (some (.dat (.str v))) (by unfold addV; rw [List.length_append, List.length_map, Nat.pow_succ]; omega) h2' (fun x m => by
      unfold addV at m
      rcases List.mem_append.mp m with m | m
      · have := h3 x m; omega
      · obtain ⟨y, my, rfl⟩ := List.mem_map.mp m
        have := h3 y my
        rw [List.length_append, List.length_singleton]
        omega)
    refine ⟨o2', ?_⟩
    rw [List.map_cons, forGo_c, st]
    dsimp only
    rw [sb_e X v L (by omega) (fun x m => by have := h3 x m; omega), bind_e]
    exact ih
theorem sz_e {V : List Str} (X : D) (o2 : Option EV) (s : Nat) (R : List (List Str)) (lA : (allV V).length < 64) (lR : R.length ≤ 100000) : szM [some (.dat X), some (.dat (.list ((allV V).map tupD))), o2, some (.dat (.list (R.map tupD))), some (.dat (.int (s : Int))), none] φ = .ok (.nx, [some (.dat X), some (.dat (.list ((allV V).map tupD))), o2, some (.dat (.list ((R ++ rowV V s).map tupD))), some (.dat (.int (s : Int))), none], φ) := by
  have lc := fun r2 r3 => lc_fil (φ := φ) (set := setN 5) (mt := tst (op2 eqG (callM lenG (consA (vD 5) nilA)) (vD 4))) (me := vD 5) (f := tupD) (ρ0 := [some X, some (.list ((allV V).map tupD)), r2, r3, some (.int (s : Int)), none]) (fun x => decide (x.length = s)) (as := allV V) fun x mx => by
    have ll : lenG [tupD x] = .ok (.dat (.int (x.length : Int))) := by show Res.ok (EV.dat (PyData.int (x.map PyData.str).length)) = _; rw [List.length_map]
    have ee := eq_int x.length s
    refine ⟨_, rfl, ?_, ⟨_, rfl, rfl, rfl⟩⟩
    generalize PyData.list ((allV V).map tupD) = EL at *
    generalize tupD x = X1 at *
    generalize (s : Int) = I at *
    simp [ll, ee]
  have sq : ∀ φ, seqD (.list ((allV V).map tupD)) φ = .ok ((allV V).map tupD, φ) := fun φ => rfl
  have l1 : ((allV V).map tupD).length ≤ 1000000 := by rw [List.length_map]; omega
  have sg : ssG (((allV V).filter fun x => decide (x.length = s)).map tupD) = .ok (.own ((rowV V s).map tupD)) := ssG_tup (by have := List.length_filter_le (fun x : List Str => decide (x.length = s)) (allV V); omega)
  have lr : (rowV V s).length ≤ 64 := Nat.le_trans sortU_len (by have := List.length_filter_le (fun x : List Str => decide (x.length = s)) (allV V); omega)
  have ad : addG (.list (R.map tupD)) (.list ((rowV V s).map tupD)) = .ok (.own ((R ++ rowV V s).map tupD)) := by
    rw [add_ll (by rw [List.length_map, List.length_map]; omega), ← List.map_append]
  apply eq_of
  unfold szM ssM
  generalize (R ++ rowV V s).map tupD = RR at *
  generalize hRL : PyData.list ((rowV V s).map tupD) = RW at *
  generalize hE : PyData.list ((allV V).map tupD) = EL at *
  generalize hR : PyData.list (R.map tupD) = RL at *
  generalize ((allV V).filter fun x => decide (x.length = s)).map tupD = FL at *
  generalize (allV V).map tupD = E2 at *
  generalize (rowV V s).map tupD = R2 at *
  generalize (s : Int) = I at *
  subst hRL
  simp [soft_c, aft, sq, l1, lc, sg, ad]
theorem subsets_e {V : List Str} (hV : Hs V) : m_w_subsets [tupD V] φ = .ok (.dat (.list ((byLen V).map tupD)), φ) := by
  obtain ⟨o2', lp⟩ := sb_loop (φ := φ) (tupD V) V [[]] 0 none (by decide) (by have := hV.few; omega) (fun x m => by rw [List.mem_singleton.mp m]; exact Nat.le_refl _)
  have s1 : asgD [] 1 (lstM (consA (tupM nilA) nilA)) [some (.dat (tupD V)), none, none, none, none, none] φ = .ok (.nx, [some (.dat (tupD V)), some (.dat (.list ([[]].map tupD))), none, none, none, none], φ) := rfl
  have sq : seqI (vD 0) (soft [] [some (.dat (tupD V)), some (.dat (.list ([[]].map tupD))), none, none, none, none]) φ = .ok (V.map .str, φ) := rfl
  have nd := (allV_mem hV.asc).2
  have few : (allV V).length < 64 := by
    have := subs_len nd fun k m => ((allV_mem hV.asc).1 k).mp m
    have p1 : 2 ^ V.length ≤ 2 ^ 5 := Nat.pow_le_pow_right (by decide) hV.few
    have p3 : (2 : Nat) ^ 5 = 32 := rfl
    omega
  have f5 := hV.few
  have ll : lenG [tupD V] = .ok (.dat (.int (V.length : Int))) := by show Res.ok (EV.dat (PyData.int (V.map PyData.str).length)) = _; rw [List.length_map]
  have key : sat (b_w_subsets (startS 6 [tupD V]) φ) fun r => r.1 = .ret (.dat (.list ((byLen V).map tupD))) ∧ r.2.2 = φ := by
    rw [subs_o, show startS 6 [tupD V] = [some (.dat (tupD V)), none, none, none, none, none] from rfl, seqM_o, s1, bind_e]
    dsimp only
    rw [seqM_o, forM_o, sq, bind_e, settle_nil]
    dsimp only
    rw [lp, bind_e]
    dsimp only
    have e : V.foldl addV [[]] = allV V := rfl
    rw [e]
    have s3 : asgD [] 3 (lstM nilA) [some (.dat (tupD V)), some (.dat (.list ((allV V).map tupD))), o2', none, none, none] φ = .ok (.nx, [some (.dat (tupD V)), some (.dat (.list ((allV V).map tupD))), o2', some (.dat (.list (([] : List (List Str)).map tupD))), none, none], φ) := by
      apply eq_of
      generalize PyData.list ((allV V).map tupD) = A
      generalize tupD V = X
      simp [soft_c, aft]
    rw [seqM_o, s3, bind_e]
    dsimp only
    have rg : szI (soft [] [some (.dat (tupD V)), some (.dat (.list ((allV V).map tupD))), o2', some (.dat (.list (([] : List (List Str)).map tupD))), none, none]) φ = .ok ((List.range (V.length + 1)).map fun (i : Nat) => PyData.int (0 + (i : Int)), φ) := by
      apply eq_of
      unfold szI
      refine sat_rng1 ?_
      have ad : addG (.int (V.length : Int)) (.int 1) = .ok (.dat (.int ((V.length + 1 : Nat) : Int))) := rfl
      generalize PyData.list ((allV V).map tupD) = A
      generalize tupD V = X at *
      simp [soft_c, ll, ad]
      exact ⟨V.length + 1, by simp, by omega, rfl⟩
    rw [seqM_o, sat_bind, forC_o, rg, bind_e]
    dsimp only
    refine sat_for (fun pre σ φ' => φ' = φ ∧ ∃ o2 o4, σ = [some (.dat (tupD V)), some (.dat (.list ((allV V).map tupD))), o2, some (.dat (.list (((List.range pre.length).flatMap (rowV V)).map tupD))), o4, none]) ⟨rfl, _, _, rfl⟩ (fun pre a post σ φ' e hI => ?_) (fun σ φ' hI => ?_)
    · obtain ⟨rfl, o2, o4, rfl⟩ := hI
      have lp : pre.length < V.length + 1 := by
        have q := congrArg List.length e
        rw [List.length_map, List.length_range, List.length_append, List.length_cons] at q
        omega
      have ea : a = .int (pre.length : Int) := by
        have q : ((List.range (V.length + 1)).map fun (i : Nat) => PyData.int (0 + (i : Int)))[pre.length]? = some a := by rw [e, List.getElem?_append_right (Nat.le_refl _), Nat.sub_self]; rfl
        rw [List.getElem?_map, List.getElem?_range lp] at q
        simpa using q.symm
      subst ea
      have lR : ((List.range pre.length).flatMap (rowV V)).length ≤ 100000 := by
        rw [List.length_flatMap]
        have : ∀ n, ((List.range n).map fun s => (rowV V s).length).sum ≤ n * 64 := by
          intro n
          induction n with
          | zero => simp
          | succ n ih =>
            rw [List.range_succ, List.map_append, List.sum_append]
            have lr : (rowV V n).length ≤ 64 := Nat.le_trans sortU_len (by have := List.length_filter_le (fun x : List Str => decide (x.length = n)) (allV V); omega)
            simp
            omega
        have := this pre.length
        have : (List.map (fun a => (rowV V a).length) (List.range pre.length)).sum ≤ pre.length * 64 := this
        omega
      refine ⟨[some (.dat (tupD V)), some (.dat (.list ((allV V).map tupD))), o2, some (.dat (.list (((List.range pre.length).flatMap (rowV V)).map tupD))), some (.dat (.int (pre.length : Int))), none], rfl, ?_⟩
      rw [sz_e _ _ _ _ few lR]
      refine ⟨_, rfl, .inl ⟨rfl, rfl, o2, some (.dat (.int (pre.length : Int))), ?_⟩⟩
      rw [List.length_append, List.length_singleton, List.range_succ, List.flatMap_append, List.flatMap_singleton]
    · obtain ⟨rfl, o2, o4, rfl⟩ := hI
      rw [List.length_map, List.length_range]
      exact ⟨_, rfl, rfl, rfl⟩
  unfold m_w_subsets
  rw [fnM_o]
  obtain ⟨⟨fl, σ, φ'⟩, e1, e2, e3⟩ := key
  dsimp only at e2 e3
  subst e2 e3
  rw [e1, bind_e]
end
end V23
set_option maxHeartbeats 4000000
namespace V23
open PySem PySem.Spec PyProof.Rows L2 VI
section
variable {φ : FS}
theorem wcommon_e {x c : List Str} (hx : okL x) (hc : okL c) (hl : x.length ≤ 1000) : m_w_common [tupD x, tupD c] φ = .ok (.dat (tupD (cutL c x)), φ) := common_e hx hc hl
theorem eq_nilL {x : List Str} (h : okL x) : eqG (tupD x) (.tuple []) = .ok (.dat (.bool (decide (x = [])))) := by
  show eqG (tupD x) (tupD []) = _
  rw [eq_sh (sh_tup h) (sh_tup fun _ m => by cases m), eqv_tup]
theorem cut_dec {q x : List Str} : decide (cutL x q = []) = !hitB q x := by
  rw [Bool.eq_iff_iff, decide_eq_true_eq, Bool.not_eq_true', ← Bool.not_eq_true, hitB_iff]
  unfold cutL
  rw [List.filter_eq_nil_iff]
  exact ⟨fun h ⟨z, a, b⟩ => h z a (memB_iff.mpr b), fun h z mz b => h ⟨z, mz, memB_iff.mp b⟩⟩
theorem fil_any {α : Type} (l : List α) (p : α → Bool) : (l.filter p).isEmpty = !l.any p := by
  rw [Bool.eq_iff_iff, List.isEmpty_iff, List.filter_eq_nil_iff, Bool.not_eq_true', ← Bool.not_eq_true, List.any_eq_true]
  exact ⟨fun h ⟨x, a, b⟩ => h x a b, fun h x mx b => h ⟨x, mx, b⟩⟩
theorem eq_fil {V : List Str} (hV : Hs V) {L : List (List Str)} (sub : ∀ q ∈ L, q.Sublist V) (p : List Str → Bool) : eqG (.list ((L.filter p).map tupD)) (.list []) = .ok (.dat (.bool (!L.any p))) := by
  rw [eq_nil (k := 1) fun d m => by
    obtain ⟨z, mz, rfl⟩ := List.mem_map.mp m
    exact sh_tup (okL_sub hV.ok fun y my => (sub z (List.mem_filter.mp mz).1).subset my), List.isEmpty_map, fil_any]
theorem ne_fil {V : List Str} (hV : Hs V) {L : List (List Str)} (sub : ∀ q ∈ L, q.Sublist V) (p : List Str → Bool) : neG (.list ((L.filter p).map tupD)) (.list []) = .ok (.dat (.bool (L.any p))) := by
  rw [ne_nilD (k := 1) fun d m => by
    obtain ⟨z, mz, rfl⟩ := List.mem_map.mp m
    exact sh_tup (okL_sub hV.ok fun y my => (sub z (List.mem_filter.mp mz).1).subset my), List.isEmpty_map, fil_any, Bool.not_not]
theorem any_hit {F : List (List Str)} {x : List Str} : (!F.any fun q => !hitB q x) = allH F x := by
  unfold allH
  rw [← List.all_eq_not_any_not]
theorem allH_kers {V : List Str} (hV : Asc V) {F : List (List Str)} (hF : ∀ q ∈ F, q.Sublist V) {x : List Str} (hx : x.Sublist V) : allH F x = (kersV V F).any fun k => subL k x := by
  have iff := kers_iff hV (F := F) fun q m h mh => (hF q m).subset mh
  rw [Bool.eq_iff_iff, allH_iff, List.any_eq_true]
  constructor
  · intro h
    obtain ⟨m, hm, sm⟩ := min_below hV _ x (Nat.le_refl _) ⟨hx, h⟩
    exact ⟨m, (iff m).mpr hm, subL_iff.mpr sm⟩
  · rintro ⟨k, mk, sk⟩ q mq
    obtain ⟨h, h1, h2⟩ := ((iff k).mp mk).tr.hit q mq
    exact ⟨h, h1, subL_iff.mp sk h h2⟩
theorem any_kers {V : List Str} (hV : Asc V) {F : List (List Str)} (h : FamV V F) (kF : FamV V (kersV V F)) {x : List Str} (hx : x.Sublist V) : (F.any fun q => subL q x) = allH (kersV V F) x := by
  rw [allH_kers hV kF.sub hx, kers_kers hV h]
theorem in_kers {V : List Str} (hV : Asc V) {F : List (List Str)} (hF : ∀ q ∈ F, q.Sublist V) {x : List Str} (hx : x.Sublist V) : isK F x = decide (x ∈ kersV V F) := by
  have iff := kers_iff hV (F := F) fun q m h mh => (hF q m).subset mh
  rw [Bool.eq_iff_iff, isK_iff hV hx, decide_eq_true_eq, iff]
def wkM : MS := ifS [2] (tst (op2 eqG (lcM [4] (seqI (vD 2)) (setN 4) (tst (appM 2 m_w_lies (consA (vD 4) (consA (vD 3) nilA)))) (vD 4)) (lstM nilA))) (ifS [] (tst (op2 eqG (lcM [5] (seqI (vD 1)) (setN 5) (tst (op2 eqG (appM 2 m_w_common (consA (vD 5) (consA (vD 3) nilA))) (tupM nilA))) (vD 5)) (lstM nilA))) (appendM [] 2 (vD 3)) nxM) nxM
theorem wkers_o : b_w_kernels = seqM (asgM [] 2 (lstM nilA)) (seqM (forM [] (seqI (appM 1 m_w_subsets (consA (vD 0) nilA))) (setNS 3) wkM) (retM [2] (callM tupleG (consA (ssM (vD 2)) nilA)))) := rfl
theorem wkM_e {V : List Str} (hV : Hs V) {F L : List (List Str)} (sF : ∀ q ∈ F, q.Sublist V) (sL : ∀ q ∈ L, q.Sublist V) (lF : F.length ≤ 1000) (lL : L.length ≤ 1000) {x : List Str} (hx : x.Sublist V) : ∃ e2, wkM [some (.dat (tupD V)), some (.dat (famD F)), some (.own (L.map tupD)), some (.dat (tupD x)), none, none] φ = .ok (.nx, [some (.dat (tupD V)), some (.dat (famD F)), some (.own ((if (L.any fun k => subL k x) = false ∧ allH F x = true then L ++ [x] else L).map tupD)), some (.dat (tupD x)), none, none], φ) ∧ e2 = true := by
  refine ⟨true, ?_, rfl⟩
  have oks : ∀ {z : List Str}, z.Sublist V → okL z ∧ z.length ≤ 1000 := fun {z} h => ⟨okL_sub hV.ok fun y my => h.subset my, by have := h.length_le; have := hV.few; omega⟩
  have lc1 := fun r0 r1 => lc_fil (φ := φ) (set := setN 4) (mt := tst (appM 2 m_w_lies (consA (vD 4) (consA (vD 3) nilA)))) (me := vD 4) (f := tupD) (ρ0 := [r0, r1, some (.list (L.map tupD)), some (tupD x), none, none]) (fun k => subL k x) (as := L) fun k mk => by
    have li := lies_e (φ := φ) (oks (sL k mk)).1 (oks hx).1 (oks (sL k mk)).2
    refine ⟨_, rfl, ?_, ⟨_, rfl, rfl, rfl⟩⟩
    generalize tupD x = X at *
    generalize tupD k = K at *
    generalize PyData.list (L.map tupD) = LL at *
    simp [li]
  have lc2 := fun r0 r2 => lc_fil (φ := φ) (set := setN 5) (mt := tst (op2 eqG (appM 2 m_w_common (consA (vD 5) (consA (vD 3) nilA))) (tupM nilA))) (me := vD 5) (f := tupD) (ρ0 := [r0, some (famD F), r2, some (tupD x), none, none]) (fun q => !hitB q x) (as := F) fun q mq => by
    have co := wcommon_e (φ := φ) (oks (sF q mq)).1 (oks hx).1 (oks (sF q mq)).2
    have en := eq_nilL (x := cutL x q) (okL_sub hV.ok fun y my => (sF q mq).subset (List.mem_filter.mp my).1)
    rw [cut_dec] at en
    refine ⟨_, rfl, ?_, ⟨_, rfl, rfl, rfl⟩⟩
    generalize tupD (cutL x q) = C at *
    generalize tupD x = X at *
    generalize tupD q = Q at *
    generalize famD F = FD at *
    simp [co, en]
  have e1 := eq_fil hV sL fun k => subL k x
  have e2 := eq_fil hV sF fun q => !hitB q x
  rw [any_hit] at e2
  have sqF : ∀ φ, seqD (famD F) φ = .ok (F.map tupD, φ) := fun φ => rfl
  have sqL : ∀ φ, seqD (.list (L.map tupD)) φ = .ok (L.map tupD, φ) := fun φ => rfl
  have l1 : (F.map tupD).length ≤ 1000000 := by rw [List.length_map]; omega
  have l2 : (L.map tupD).length ≤ 1000000 := by rw [List.length_map]; omega
  have l3 : (L.map tupD).length < 1000000 := by rw [List.length_map]; omega
  have lf : lfD (tupD x) = true := lf_tup x
  have ea : (L ++ [x]).map tupD = L.map tupD ++ [tupD x] := by rw [List.map_append]; rfl
  apply eq_of
  unfold wkM
  cases hA : (L.any fun k => subL k x) with
  | true =>
    rw [hA] at e1
    rw [if_neg fun h => by cases h.1]
    generalize (L.filter fun k => subL k x).map tupD = A at *
    generalize hLL : PyData.list (L.map tupD) = LL at *
    generalize L.map tupD = LT at *
    subst hLL
    generalize tupD x = X at *
    generalize famD F = FD at *
    generalize tupD V = VD at *
    simp [soft_c, soft_o', softF, soft1, aft, sqL, l2, lc1, e1]
  | false =>
    rw [hA] at e1
    cases hB : allH F x with
    | true =>
      rw [hB] at e2
      rw [if_pos ⟨rfl, rfl⟩, ea]
      generalize (L.filter fun k => subL k x).map tupD = A at *
      generalize (F.filter fun q => !hitB q x).map tupD = B at *
      generalize hLL : PyData.list (L.map tupD) = LL at *
      generalize L.map tupD = LT at *
      subst hLL
      generalize F.map tupD = FT at *
      generalize tupD x = X at *
      generalize famD F = FD at *
      generalize tupD V = VD at *
      simp [soft_c, soft_o', softF, soft1, aft, sqL, l2, lc1, e1, sqF, l1, lc2, e2, lf, l3]
    | false =>
      rw [hB] at e2
      rw [if_neg fun h => by cases h.2]
      generalize (L.filter fun k => subL k x).map tupD = A at *
      generalize (F.filter fun q => !hitB q x).map tupD = B at *
      generalize hLL : PyData.list (L.map tupD) = LL at *
      generalize L.map tupD = LT at *
      subst hLL
      generalize F.map tupD = FT at *
      generalize tupD x = X at *
      generalize famD F = FD at *
      generalize tupD V = VD at *
      simp [soft_c, soft_o', softF, soft1, aft, sqL, l2, lc1, e1, sqF, l1, lc2, e2]
theorem wkers_e {V : List Str} (hV : Hs V) {F : List (List Str)} (sF : ∀ q ∈ F, q.Sublist V) (lF : F.length ≤ 1000) : m_w_kernels [tupD V, famD F] φ = .ok (.dat (famD (kersV V F)), φ) := by
  have iff := kers_iff hV.asc (F := F) fun q m h mh => (sF q m).subset mh
  have su := fun φ => subsets_e (φ := φ) hV
  have few := byLen_few hV
  have mem := fun x => mem_byLen hV.asc (x := x)
  have ord := byLen_ord hV.asc
  generalize byLen V = B at *
  have s1 : asgM [] 2 (lstM nilA) (startS 6 [tupD V, famD F]) φ = .ok (.nx, [some (.dat (tupD V)), some (.dat (famD F)), some (.own (([] : List (List Str)).map tupD)), none, none, none], φ) := by
    apply eq_of
    rw [show startS 6 [tupD V, famD F] = [some (.dat (tupD V)), some (.dat (famD F)), none, none, none, none] from rfl]
    generalize tupD V = X
    generalize famD F = FD
    simp [soft_c, aft]
  have sq : ∀ o2, seqI (appM 1 m_w_subsets (consA (vD 0) nilA)) (some (tupD V) :: o2) φ = .ok (B.map tupD, φ) := fun o2 => by
    have s := su φ
    have q : ∀ φ, seqD (.list (B.map tupD)) φ = .ok (B.map tupD, φ) := fun φ => rfl
    apply eq_of
    generalize hL : PyData.list (B.map tupD) = L at *
    generalize B.map tupD = BT at *
    generalize tupD V = X at *
    simp [s, q]
  have key : sat (b_w_kernels (startS 6 [tupD V, famD F]) φ) fun r => r.1 = .ret (.dat (famD (kersV V F))) ∧ r.2.2 = φ := by
    rw [wkers_o, seqM_o, s1, bind_e]
    dsimp only
    rw [seqM_o, sat_bind, forM_o, show soft [] [some (.dat (tupD V)), some (.dat (famD F)), some (.own (([] : List (List Str)).map tupD)), none, none, none] = some (tupD V) :: [some (famD F), soft1 [] 2 (some (.own (([] : List (List Str)).map tupD))), none, none, none] from rfl, sq, bind_e, settle_nil]
    dsimp only
    refine sat_for (fun pre σ φ' => φ' = φ ∧ ∃ (L : List (List Str)) (o3 : Option EV), σ = [some (.dat (tupD V)), some (.dat (famD F)), some (.own (L.map tupD)), o3, none, none] ∧ L.length ≤ pre.length ∧ ∀ x, x ∈ L ↔ tupD x ∈ pre ∧ MinT V F x) ⟨rfl, [], none, rfl, Nat.le_refl _, fun x => ⟨fun m => (by cases m), fun m => (by cases m.1)⟩⟩ (fun pre a post σ φ' e hI => ?_) (fun σ φ' hI => ?_)
    · obtain ⟨rfl, L, o3, rfl, ll, hL⟩ := hI
      obtain ⟨Bp, Br, eB, e1, e2⟩ := List.map_eq_append_iff.mp e
      obtain ⟨x, Bq, eq2, rfl, e4⟩ := List.map_eq_cons_iff.mp e2
      subst eq2
      subst e1
      have hx : x.Sublist V := (mem x).mp (by rw [eB]; simp)
      have lp : (Bp.map tupD).length ≤ 32 := by
        have := congrArg List.length eB
        rw [List.length_append, List.length_cons] at this
        rw [List.length_map]
        omega
      have inj : ∀ {z : List Str} {l : List (List Str)}, tupD z ∈ l.map tupD ↔ z ∈ l := fun {z l} => by
        rw [List.mem_map]
        exact ⟨fun ⟨w, mw, ew⟩ => by
          have := congrArg lotD ew
          rw [lot_tup, lot_tup] at this
          exact this ▸ mw, fun m => ⟨z, m, rfl⟩⟩
      refine ⟨[some (.dat (tupD V)), some (.dat (famD F)), some (.own (L.map tupD)), some (.dat (tupD x)), none, none], rfl, ?_⟩
      obtain ⟨_, ke, _⟩ := wkM_e (φ := φ') hV sF (fun q m => ((hL q).mp m).2.tr.sub) lF (by omega) hx
      rw [ke]
      have step : ∀ z, z ∈ (if (L.any fun k => subL k x) = false ∧ allH F x = true then L ++ [x] else L) ↔ tupD z ∈ (Bp.map tupD ++ [tupD x]) ∧ MinT V F z := by
        have shorter : ∀ m, m.Sublist V → m.length < x.length → m ∈ Bp := fun m hm lm => by
          have : m ∈ B := (mem m).mpr hm
          rw [eB] at this
          rcases List.mem_append.mp this with q | q
          · exact q
          · rw [eB, List.pairwise_append] at ord
            rcases List.mem_cons.mp q with rfl | q
            · omega
            · have := (List.pairwise_cons.mp ord.2.1).1 m q
              have := this.1
              omega
        have xn : x ∉ Bp := fun m => by
          rw [eB, List.pairwise_append] at ord
          exact (ord.2.2 x m x (by simp)).2 rfl
        intro z
        have e3 : (Bp.map tupD ++ [tupD x]) = (Bp ++ [x]).map tupD := by rw [List.map_append]; rfl
        rw [e3, inj]
        have hL2 : ∀ x, x ∈ L ↔ x ∈ Bp ∧ MinT V F x := fun x => by rw [hL, inj]
        have cond : ((L.any fun k => subL k x) = false ∧ allH F x = true) ↔ MinT V F x := by
          constructor
          · rintro ⟨h1, h2⟩
            refine ⟨⟨hx, allH_iff.mp h2⟩, fun y ty sy => Classical.byContradiction fun ne => ?_⟩
            have s := asc_sublist (hV.asc.sublist ty.sub) (hV.asc.sublist hx) sy
            have ly : y.length < x.length := by
              rcases Nat.lt_or_ge y.length x.length with l | l
              · exact l
              · exact absurd (s.eq_of_length (Nat.le_antisymm s.length_le l)) ne
            obtain ⟨m, hm, sm⟩ := min_below hV.asc _ y (Nat.le_refl _) ty
            have s2 := asc_sublist (hV.asc.sublist hm.tr.sub) (hV.asc.sublist ty.sub) sm
            have ml : m ∈ L := (hL2 m).mpr ⟨shorter m hm.tr.sub (by have := s2.length_le; omega), hm⟩
            have : (L.any fun k => subL k x) = true := List.any_eq_true.mpr ⟨m, ml, subL_iff.mpr fun w mw => sy w (sm w mw)⟩
            rw [h1] at this
            cases this
          · intro h
            refine ⟨?_, allH_iff.mpr h.tr.hit⟩
            rw [← Bool.not_eq_true, List.any_eq_true]
            rintro ⟨k, mk, sk⟩
            have e := h.min k ((hL2 k).mp mk).2.tr (subL_iff.mp sk)
            subst e
            exact xn ((hL2 k).mp mk).1
        by_cases h : (L.any fun k => subL k x) = false ∧ allH F x = true
        · rw [if_pos h, List.mem_append, List.mem_append, hL2, List.mem_singleton]
          exact ⟨fun m => m.elim (fun m => ⟨.inl m.1, m.2⟩) (fun m => ⟨.inr m, m ▸ cond.mp h⟩), fun m => m.1.elim (fun a => .inl ⟨a, m.2⟩) (fun a => .inr a)⟩
        · rw [if_neg h, List.mem_append, hL2, List.mem_singleton]
          refine ⟨fun m => ⟨.inl m.1, m.2⟩, fun m => m.1.elim (fun a => ⟨a, m.2⟩) fun a => absurd (cond.mpr (a ▸ m.2)) h⟩
      refine ⟨_, rfl, .inl ⟨rfl, rfl, _, _, rfl, ?_, step⟩⟩
      rw [List.length_append, List.length_singleton]
      split
      · rw [List.length_append, List.length_singleton]; omega
      · omega
    · obtain ⟨rfl, L, o3, rfl, ll, hL⟩ := hI
      rw [List.length_map] at ll
      have eK : sortU ltL L = kersV V F := asc_same tot_L (sortU_asc tot_L _) (kers_asc V F) fun x => by
        rw [mem_sortU tot_L, hL, iff]
        exact ⟨fun m => m.2, fun m => ⟨List.mem_map_of_mem ((mem x).mpr m.tr.sub), m⟩⟩
      have sg : ssG (L.map tupD) = .ok (.own ((kersV V F).map tupD)) := by rw [ssG_tup (by omega), eK]
      have tg : tupleG [.list ((kersV V F).map tupD)] = .ok (.dat (famD (kersV V F))) := rfl
      show sat (retM [2] (callM tupleG (consA (ssM (vD 2)) nilA)) _ φ') _
      unfold ssM
      generalize famD (kersV V F) = R at *
      generalize (kersV V F).map tupD = KL at *
      generalize L.map tupD = LT at *
      generalize famD F = FD at *
      generalize tupD V = X at *
      simp [soft_c, soft_o', softF, soft1, aft, sg, tg]
  unfold m_w_kernels
  rw [fnM_o]
  obtain ⟨⟨fl, σ, φ'⟩, e1, e2, e3⟩ := key
  dsimp only at e2 e3
  subst e2 e3
  rw [e1, bind_e]
end
end V23
set_option maxHeartbeats 4000000
namespace V23
open PySem PySem.Spec PyProof.Rows L2 VI
theorem lot5_pt {xs : List Str} (h : ∀ x ∈ xs, nameB (.str x) = true) (hl : xs.length ≤ 5) : Pt (tupD xs) 1 424 := by
  have := gdL (f := PyData.str) (L := xs) fun x mx => str_pt (h x mx)
  refine ptM this (Nat.le_refl _) ?_
  have : (82 + 2) * xs.length ≤ (82 + 2) * 5 := Nat.mul_le_mul_left _ hl
  omega
theorem fam5_pt {V : List Str} (nm : ∀ x ∈ V, nameB (.str x) = true) (hl : V.length ≤ 5) {f : List (List Str)} (F : FamV V f) : Pt (famD f) 2 25564 := by
  have := gdL (f := tupD) (L := f) fun x mx => lot5_pt (fun y my => nm y ((F.sub x mx).subset my)) (Nat.le_trans (F.sub x mx).length_le hl)
  refine ptM this (Nat.le_refl _) ?_
  have : (424 + 2) * f.length ≤ (424 + 2) * 60 := Nat.mul_le_mul_left _ F.few
  omega
theorem fams5_pt {V : List Str} (nm : ∀ x ∈ V, nameB (.str x) = true) (hl : V.length ≤ 5) {fs : List (List (List Str))} (F : ∀ f ∈ fs, FamV V f) (lf : fs.length ≤ 5) : Pt (.tuple (fs.map famD)) 3 127834 := by
  have := gdL (f := famD) (L := fs) fun f m => fam5_pt nm hl (F f m)
  refine ptM this (Nat.le_refl _) ?_
  have : (25564 + 2) * fs.length ≤ (25564 + 2) * 5 := Nat.mul_le_mul_left _ lf
  omega
theorem Dn.hsV {V : List Str} {fs : List (List (List Str))} (N : Dn V fs) (h5 : V.length ≤ 5) : Hs V := ⟨N.asc, N.okl, h5⟩
theorem nq_of {V : List Str} {fs QS : List (List (List Str))} (N : Dn V fs) (h5 : V.length ≤ 5) (lq : QS.length = V.length) (hq : ∀ Q ∈ QS, FamV V Q ∧ ∀ q ∈ Q, q ≠ []) : Nq V fs QS := by
  have hV := N.hsV h5
  refine ⟨hV, ptM (net_pt N) (Nat.le_refl _) (by decide), ?_, N.net, ptM (fams5_pt N.ok h5 (fun Q m => (hq Q m).1) (by omega)) (by decide) (by decide), ?_, ?_, lq, fun Q m => (hq Q m).1.sub, fun Q m => (hq Q m).1.few⟩
  · exact nar_of N.narF
  · intro gs e f mf ls el
    injection e with e
    rw [← e] at mf
    exact fam_narrow (fun Q m => (hq Q m).1) f mf ls el
  · show (decide ((QS.map famD).length = V.length) && (QS.map famD).all (quoF V)) = true
    rw [List.length_map, decide_eq_true lq, Bool.true_and, List.all_eq_true]
    intro d md
    obtain ⟨Q, mQ, rfl⟩ := List.mem_map.mp md
    unfold quoF
    rw [famV_F hV.asc (hq Q mQ).1, fam_noempty (hq Q mQ).2]
    rfl
theorem bot_ls (f : List (List Str)) : botU f = lsU f := rfl
section
variable {φ : FS}
theorem packs_q {V : List Str} {fs : List (List (List Str))} (N : Dn V fs) (h5 : V.length ≤ 5) : sat (m_w_packs [.dict [], netD V fs] φ) fun r => ∃ QS : List (List (List Str)), r.1 = .dat (.tuple (QS.map famD)) ∧ QS.length = V.length ∧ ∀ Q ∈ QS, FamV V Q ∧ ∀ q ∈ Q, q ≠ [] := by
  refine sat_mono (packs_d N) ?_
  rintro ⟨e, φ1⟩ ⟨ps, h1, h2, h3⟩
  refine ⟨ps, h1, h2, fun Q m => ?_⟩
  obtain ⟨ls, rfl, L⟩ := h3 Q m
  rw [bot_ls]
  exact least_fam (N.hsV h5) ⟨L.2.1, Nat.le_trans L.1.1 (by decide), fun x mx => ⟨asc_sublist (L.1.2 x mx).1 N.asc (L.1.2 x mx).2, L.2.2 x mx⟩⟩
theorem ne_bool (b : Bool) : neG (.bool b) (.bool b) = .ok (.dat (.bool false)) := by cases b <;> rfl
theorem ne_same {x : Str} (h : PyData.strOk x = true) : neG (.str x) (.str x) = .ok (.dat (.bool false)) := by
  rw [ne_sh (sh_str (k := 0) h) (sh_str (k := 0) h), eqv_str, decide_eq_true rfl]
  rfl
theorem ne_shown {d : D} {k n : Nat} (h : Pt d k n) : neG (.str d.shown) (.str d.shown) = .ok (.dat (.bool false)) := ne_same h.shown.pr
theorem in_famD {f : List (List Str)} {x : List Str} (hx : okL x) (hf : ∀ y ∈ f, okL y) : inG false (tupD x) (famD f) = .ok (.dat (.bool (decide (x ∈ f)))) := by
  rw [in_fam' (sh_tup hx) hf, inF_tup, Bool.false_xor]
def vA : MS := asgD [] 3 (appM 2 m_w_kernels (consA (op2 ixG (vD 0) (cD (.int 0))) (consA (op2 ixG (vD 1) (vD 2)) nilA)))
def vB : MS := asgD [] 4 (appM 3 m_kernels_of (consA (vD 0) (consA (vD 1) (consA (op2 ixG (op2 ixG (vD 0) (cD (.int 0))) (vD 2)) nilA))))
def vC : MS := ifS [] (tst (op2 neG (callM reprG (consA (vD 4) nilA)) (callM reprG (consA (vD 3) nilA)))) (retM [] (cD (.bool false))) nxM
def v1 : MS := ifS [] (tst (op2 neG (callM reprG (consA (appM 4 m_is_kernel (consA (vD 0) (consA (vD 1) (consA (op2 ixG (op2 ixG (vD 0) (cD (.int 0))) (vD 2)) (consA (vD 5) nilA))))) nilA)) (callM reprG (consA (op2 (inG false) (vD 5) (vD 3)) nilA)))) (retM [] (cD (.bool false))) nxM
def v2 : MS := asgD [] 6 (op2 eqG (lcM [8] (seqI (op2 ixG (vD 1) (vD 2))) (setN 8) (tst (op2 eqG (appM 2 m_w_common (consA (vD 8) (consA (vD 5) nilA))) (tupM nilA))) (vD 8)) (lstM nilA))
def v3 : MS := ifS [] (tst (op2 neG (vD 6) (op2 neG (lcM [9] (seqI (vD 4)) (setN 9) (tst (appM 2 m_w_lies (consA (vD 9) (consA (vD 5) nilA)))) (vD 9)) (lstM nilA)))) (retM [] (cD (.bool false))) nxM
def v4 : MS := asgD [] 7 (op2 neG (lcM [8] (seqI (op2 ixG (vD 1) (vD 2))) (setN 8) (tst (appM 2 m_w_lies (consA (vD 8) (consA (vD 5) nilA)))) (vD 8)) (lstM nilA))
def v5 : MS := ifS [] (tst (op2 neG (vD 7) (op2 eqG (lcM [9] (seqI (vD 4)) (setN 9) (tst (op2 eqG (appM 2 m_w_common (consA (vD 9) (consA (vD 5) nilA))) (tupM nilA))) (vD 9)) (lstM nilA)))) (retM [] (cD (.bool false))) nxM
def vI : MI D := seqI (appM 1 m_w_subsets (consA (op2 ixG (vD 0) (cD (.int 0))) nilA))
theorem even_o : b_w_is_even = seqM vA (seqM vB (seqM vC (seqM (forM [] vI (setNS 5) (seqM v1 (seqM v2 (seqM v3 (seqM v4 v5))))) (retM [] (cD (.bool true)))))) := rfl
def stE (W Q : D) (k : Nat) (o3 o4 o5 o6 o7 : Option EV) : EnvS := [some (.dat W), some (.dat Q), some (.dat (.int (k : Int))), o3, o4, o5, o6, o7, none, none]
section
variable {V : List Str} {fs QS : List (List (List Str))} {F : List (List Str)} {i : Nat} {h : Str}
theorem vAB_e (N : Nq V fs QS) (hh : V[i]? = some h) (hF : famAt V QS h = F) (hQ : QS[i]? = some F) (o3 o4 o5 o6 o7 : Option EV) :
    vA (stE (netD V fs) (.tuple (QS.map famD)) i o3 o4 o5 o6 o7) φ = .ok (.nx, stE (netD V fs) (.tuple (QS.map famD)) i (some (.dat (famD (kersV V F)))) o4 o5 o6 o7, φ) ∧
    vB (stE (netD V fs) (.tuple (QS.map famD)) i o3 o4 o5 o6 o7) φ = .ok (.nx, stE (netD V fs) (.tuple (QS.map famD)) i o3 (some (.dat (famD (kersV V F)))) o5 o6 o7, φ) := by
  have mF : F ∈ QS := List.mem_of_getElem? hQ
  have wk := wkers_e (φ := φ) N.hs (N.sub F mF) (by have := N.few F mF; omega)
  have ke := kof_e (φ := φ) N (List.mem_of_getElem? hh)
  rw [hF] at ke
  have i0 : ixG (netD V fs) (.int 0) = .ok (.dat (tupD V)) := ixG_n (i := 0) rfl
  have i1 : ixG (.tuple (QS.map famD)) (.int (i : Int)) = .ok (.dat (famD F)) := ixG_n (by rw [List.getElem?_map, hQ]; rfl)
  have i2 : ixG (tupD V) (.int (i : Int)) = .ok (.dat (.str h)) := ixG_n (by rw [List.getElem?_map, hh]; rfl)
  constructor
  · apply eq_of
    unfold vA stE
    generalize famD (kersV V F) = K at *
    generalize famD F = FD at *
    generalize tupD V = X at *
    generalize PyData.tuple (QS.map famD) = Q at *
    generalize netD V fs = W at *
    generalize (i : Int) = I at *
    simp [soft_c, soft_o', softF, soft1, aft, i0, i1, wk]
  · apply eq_of
    unfold vB stE
    generalize famD (kersV V F) = K at *
    generalize famD F = FD at *
    generalize tupD V = X at *
    generalize PyData.tuple (QS.map famD) = Q at *
    generalize netD V fs = W at *
    generalize (i : Int) = I at *
    simp [soft_c, soft_o', softF, soft1, aft, i0, i2, ke]
theorem vC_e (W Q K : D) {k n : Nat} (h : Pt K k n) (hk : k ≤ 64) (hn : n ≤ 1000000) (j : Nat) (o5 o6 o7 : Option EV) : vC (stE W Q j (some (.dat K)) (some (.dat K)) o5 o6 o7) φ = .ok (.nx, stE W Q j (some (.dat K)) (some (.dat K)) o5 o6 o7, φ) := by
  have r := h.repr hk hn
  have s := ne_shown h
  apply eq_of
  unfold vC stE
  generalize K.shown = S at r s
  simp [soft_c, soft_o', softF, soft1, aft, r, s]
theorem lap_v (N : Nq V fs QS) (nm : ∀ x ∈ V, nameB (.str x) = true) (hh : V[i]? = some h) (hF : famAt V QS h = F) (hQ : QS[i]? = some F) (FF : FamV V F) (KF : FamV V (kersV V F)) {x : List Str} (hx : x.Sublist V) (o6 o7 : Option EV) :
    sat (seqM v1 (seqM v2 (seqM v3 (seqM v4 v5))) (stE (netD V fs) (.tuple (QS.map famD)) i (some (.dat (famD (kersV V F)))) (some (.dat (famD (kersV V F)))) (some (.dat (tupD x))) o6 o7) φ) fun r => r.1 = .nx ∧ r.2.2 = φ ∧ ∃ o6 o7, r.2.1 = stE (netD V fs) (.tuple (QS.map famD)) i (some (.dat (famD (kersV V F)))) (some (.dat (famD (kersV V F)))) (some (.dat (tupD x))) o6 o7 := by
  have hV := N.hs
  have mh := List.mem_of_getElem? hh
  have ik := isK_e (φ := φ) N mh hx
  rw [hF, in_kers hV.asc FF.sub hx] at ik
  have oks : ∀ {z : List Str}, z.Sublist V → okL z ∧ z.length ≤ 1000 := fun {z} h => ⟨okL_sub hV.ok fun y my => h.subset my, by have := h.length_le; have := hV.few; omega⟩
  have inn := in_famD (f := kersV V F) (oks hx).1 fun y my => (oks (KF.sub y my)).1
  have i0 : ixG (netD V fs) (.int 0) = .ok (.dat (tupD V)) := ixG_n (i := 0) rfl
  have i1 : ixG (.tuple (QS.map famD)) (.int (i : Int)) = .ok (.dat (famD F)) := ixG_n (by rw [List.getElem?_map, hQ]; rfl)
  have i2 : ixG (tupD V) (.int (i : Int)) = .ok (.dat (.str h)) := ixG_n (by rw [List.getElem?_map, hh]; rfl)
  have a1 := allH_kers hV.asc FF.sub hx
  have a2 := any_kers hV.asc FF KF hx
  have co : ∀ {G : List (List Str)} (_ : FamV V G) (r0 r1 r2 r3 r4 r6 r7 r9 : Option D), lcGo (setN 8) (tst (op2 eqG (appM 2 m_w_common (consA (vD 8) (consA (vD 5) nilA))) (tupM nilA))) (vD 8) [r0, r1, r2, r3, r4, some (tupD x), r6, r7, none, r9] (G.map tupD) φ = .ok ((G.filter fun q => !hitB q x).map tupD, φ) := fun {G} hG r0 r1 r2 r3 r4 r6 r7 r9 => lc_fil (fun q => !hitB q x) fun q mq => by
    have co := wcommon_e (φ := φ) (oks (hG.sub q mq)).1 (oks hx).1 (oks (hG.sub q mq)).2
    have en := eq_nilL (x := cutL x q) (okL_sub hV.ok fun y my => (hG.sub q mq).subset (List.mem_filter.mp my).1)
    rw [cut_dec] at en
    refine ⟨_, rfl, ?_, ⟨_, rfl, rfl, rfl⟩⟩
    generalize tupD (cutL x q) = C at *
    generalize tupD x = X at *
    generalize tupD q = Q at *
    simp [co, en]
  have co9 : ∀ {G : List (List Str)} (_ : FamV V G) (r0 r1 r2 r3 r4 r6 r7 r8 : Option D), lcGo (setN 9) (tst (op2 eqG (appM 2 m_w_common (consA (vD 9) (consA (vD 5) nilA))) (tupM nilA))) (vD 9) [r0, r1, r2, r3, r4, some (tupD x), r6, r7, r8, none] (G.map tupD) φ = .ok ((G.filter fun q => !hitB q x).map tupD, φ) := fun {G} hG r0 r1 r2 r3 r4 r6 r7 r8 => lc_fil (fun q => !hitB q x) fun q mq => by
    have co := wcommon_e (φ := φ) (oks (hG.sub q mq)).1 (oks hx).1 (oks (hG.sub q mq)).2
    have en := eq_nilL (x := cutL x q) (okL_sub hV.ok fun y my => (hG.sub q mq).subset (List.mem_filter.mp my).1)
    rw [cut_dec] at en
    refine ⟨_, rfl, ?_, ⟨_, rfl, rfl, rfl⟩⟩
    generalize tupD (cutL x q) = C at *
    generalize tupD x = X at *
    generalize tupD q = Q at *
    simp [co, en]
  have li : ∀ {G : List (List Str)} (_ : FamV V G) (r0 r1 r2 r3 r4 r6 r7 r9 : Option D), lcGo (setN 8) (tst (appM 2 m_w_lies (consA (vD 8) (consA (vD 5) nilA)))) (vD 8) [r0, r1, r2, r3, r4, some (tupD x), r6, r7, none, r9] (G.map tupD) φ = .ok ((G.filter fun q => subL q x).map tupD, φ) := fun {G} hG r0 r1 r2 r3 r4 r6 r7 r9 => lc_fil (fun q => subL q x) fun q mq => by
    have l := lies_e (φ := φ) (oks (hG.sub q mq)).1 (oks hx).1 (oks (hG.sub q mq)).2
    refine ⟨_, rfl, ?_, ⟨_, rfl, rfl, rfl⟩⟩
    generalize tupD x = X at *
    generalize tupD q = Q at *
    simp [l]
  have li9 : ∀ {G : List (List Str)} (_ : FamV V G) (r0 r1 r2 r3 r4 r6 r7 r8 : Option D), lcGo (setN 9) (tst (appM 2 m_w_lies (consA (vD 9) (consA (vD 5) nilA)))) (vD 9) [r0, r1, r2, r3, r4, some (tupD x), r6, r7, r8, none] (G.map tupD) φ = .ok ((G.filter fun q => subL q x).map tupD, φ) := fun {G} hG r0 r1 r2 r3 r4 r6 r7 r8 => lc_fil (fun q => subL q x) fun q mq => by
    have l := lies_e (φ := φ) (oks (hG.sub q mq)).1 (oks hx).1 (oks (hG.sub q mq)).2
    refine ⟨_, rfl, ?_, ⟨_, rfl, rfl, rfl⟩⟩
    generalize tupD x = X at *
    generalize tupD q = Q at *
    simp [l]
  have coF := co FF
  have coK := co9 KF
  have liF := li FF
  have liK := li9 KF
  have eF := eq_fil hV FF.sub fun q => !hitB q x
  rw [any_hit, a1] at eF
  have eK := eq_fil hV KF.sub fun q => !hitB q x
  rw [any_hit, ← a2] at eK
  have nF := ne_fil hV FF.sub fun q => subL q x
  have nK := ne_fil hV KF.sub fun q => subL q x
  have sqF : ∀ φ, seqD (famD F) φ = .ok (F.map tupD, φ) := fun φ => rfl
  have sqK : ∀ φ, seqD (famD (kersV V F)) φ = .ok ((kersV V F).map tupD, φ) := fun φ => rfl
  have l1 : (F.map tupD).length ≤ 1000000 := by rw [List.length_map]; have := FF.few; omega
  have l2 : ((kersV V F).map tupD).length ≤ 1000000 := by rw [List.length_map]; have := KF.few; omega
  have pb : ∀ b : Bool, Pt (.bool b) 3 300 := fun b => by cases b <;> exact ptB_ok (by decide +kernel)
  have rb := fun b => (pb b).repr (by decide) (by decide)
  have sb := fun b => ne_shown (pb b)
  have nb := ne_bool
  generalize (kersV V F).any (fun k => subL k x) = B1 at *
  generalize F.any (fun q => subL q x) = B2 at *
  generalize decide (x ∈ kersV V F) = B3 at *
  clear a1 a2 co co9 li li9
  generalize (F.filter fun q => !hitB q x).map tupD = C1 at *
  generalize (F.filter fun q => subL q x).map tupD = C2 at *
  generalize ((kersV V F).filter fun q => !hitB q x).map tupD = C3 at *
  generalize ((kersV V F).filter fun q => subL q x).map tupD = C4 at *
  have k1 : v1 (stE (netD V fs) (.tuple (QS.map famD)) i (some (.dat (famD (kersV V F)))) (some (.dat (famD (kersV V F)))) (some (.dat (tupD x))) o6 o7) φ = .ok (.nx, stE (netD V fs) (.tuple (QS.map famD)) i (some (.dat (famD (kersV V F)))) (some (.dat (famD (kersV V F)))) (some (.dat (tupD x))) o6 o7, φ) := by
    have r := rb B3
    have s := sb B3
    apply eq_of
    unfold v1 stE
    generalize (PyData.bool B3).shown = S at *
    generalize famD (kersV V F) = K at *
    generalize tupD V = VX at *
    generalize tupD x = X at *
    generalize PyData.tuple (QS.map famD) = Q at *
    generalize netD V fs = W at *
    generalize (i : Int) = I at *
    simp [soft_c, soft_o', softF, soft1, aft, i0, i2, ik, inn, r, s]
  have k2 : v2 (stE (netD V fs) (.tuple (QS.map famD)) i (some (.dat (famD (kersV V F)))) (some (.dat (famD (kersV V F)))) (some (.dat (tupD x))) o6 o7) φ = .ok (.nx, stE (netD V fs) (.tuple (QS.map famD)) i (some (.dat (famD (kersV V F)))) (some (.dat (famD (kersV V F)))) (some (.dat (tupD x))) (some (.dat (.bool B1))) o7, φ) := by
    apply eq_of
    unfold v2 stE
    generalize famD (kersV V F) = K at *
    generalize F.map tupD = FT at *
    generalize famD F = FD at *
    generalize tupD x = X at *
    generalize PyData.tuple (QS.map famD) = Q at *
    generalize netD V fs = W at *
    generalize (i : Int) = I at *
    simp [soft_c, soft_o', softF, soft1, aft, i1, sqF, l1, coF, eF]
  have k3 : v3 (stE (netD V fs) (.tuple (QS.map famD)) i (some (.dat (famD (kersV V F)))) (some (.dat (famD (kersV V F)))) (some (.dat (tupD x))) (some (.dat (.bool B1))) o7) φ = .ok (.nx, stE (netD V fs) (.tuple (QS.map famD)) i (some (.dat (famD (kersV V F)))) (some (.dat (famD (kersV V F)))) (some (.dat (tupD x))) (some (.dat (.bool B1))) o7, φ) := by
    have n := nb B1
    apply eq_of
    unfold v3 stE
    generalize PyData.bool B1 = BB at *
    generalize (kersV V F).map tupD = KT at *
    generalize famD (kersV V F) = K at *
    generalize tupD x = X at *
    generalize PyData.tuple (QS.map famD) = Q at *
    generalize netD V fs = W at *
    generalize (i : Int) = I at *
    simp [soft_c, soft_o', softF, soft1, aft, sqK, l2, liK, nK, n]
  have k4 : v4 (stE (netD V fs) (.tuple (QS.map famD)) i (some (.dat (famD (kersV V F)))) (some (.dat (famD (kersV V F)))) (some (.dat (tupD x))) (some (.dat (.bool B1))) o7) φ = .ok (.nx, stE (netD V fs) (.tuple (QS.map famD)) i (some (.dat (famD (kersV V F)))) (some (.dat (famD (kersV V F)))) (some (.dat (tupD x))) (some (.dat (.bool B1))) (some (.dat (.bool B2))), φ) := by
    apply eq_of
    unfold v4 stE
    generalize famD (kersV V F) = K at *
    generalize F.map tupD = FT at *
    generalize famD F = FD at *
    generalize tupD x = X at *
    generalize PyData.tuple (QS.map famD) = Q at *
    generalize netD V fs = W at *
    generalize (i : Int) = I at *
    simp [soft_c, soft_o', softF, soft1, aft, i1, sqF, l1, liF, nF]
  have k5 : v5 (stE (netD V fs) (.tuple (QS.map famD)) i (some (.dat (famD (kersV V F)))) (some (.dat (famD (kersV V F)))) (some (.dat (tupD x))) (some (.dat (.bool B1))) (some (.dat (.bool B2)))) φ = .ok (.nx, stE (netD V fs) (.tuple (QS.map famD)) i (some (.dat (famD (kersV V F)))) (some (.dat (famD (kersV V F)))) (some (.dat (tupD x))) (some (.dat (.bool B1))) (some (.dat (.bool B2))), φ) := by
    have n := nb B2
    apply eq_of
    unfold v5 stE
    generalize PyData.bool B2 = BB at *
    generalize (kersV V F).map tupD = KT at *
    generalize famD (kersV V F) = K at *
    generalize tupD x = X at *
    generalize PyData.tuple (QS.map famD) = Q at *
    generalize netD V fs = W at *
    generalize (i : Int) = I at *
    simp [soft_c, soft_o', softF, soft1, aft, sqK, l2, coK, eK, n]
  rw [seqM_o, k1, bind_e]
  dsimp only
  rw [seqM_o, k2, bind_e]
  dsimp only
  rw [seqM_o, k3, bind_e]
  dsimp only
  rw [seqM_o, k4, bind_e]
  dsimp only
  rw [k5]
  exact ⟨_, rfl, rfl, rfl, _, _, rfl⟩
end
end
end V23
set_option maxHeartbeats 4000000
namespace V23
open PySem PySem.Spec PyProof.Rows L2 VI
section
variable {φ : FS} {V : List Str} {fs QS : List (List (List Str))}
/-- quorums -/
def Qs (V : List Str) (QS : List (List (List Str))) : Prop := QS.length = V.length ∧ ∀ Q ∈ QS, FamV V Q ∧ ∀ q ∈ Q, q ≠ []
theorem Qs.kers (hV : Hs V) (h : Qs V QS) : Qs V (QS.map (kersV V)) := ⟨by rw [List.length_map]; exact h.1, fun K m => by
  obtain ⟨Q, mQ, rfl⟩ := List.mem_map.mp m
  obtain ⟨F, ne⟩ := h.2 Q mQ
  exact ⟨kers_fam hV.asc F.sub ne hV.few, kers_nonempty hV.asc F.sub F.ne⟩⟩
theorem even_e (N : Dn V fs) (h5 : V.length ≤ 5) (hq : Qs V QS) {i : Nat} {h : Str} (hh : V[i]? = some h) : m_w_is_even [netD V fs, .tuple (QS.map famD), .int (i : Int)] φ = .ok (.dat (.bool true), φ) := by
  have NQ := nq_of N h5 hq.1 hq.2
  have hV := NQ.hs
  have hQ := famAt_ix hq.1 (nodup_asc hV.asc) hh
  obtain ⟨F, hF⟩ : ∃ F, famAt V QS h = F := ⟨_, rfl⟩
  rw [hF] at hQ
  have FF := hq.2 F (List.mem_of_getElem? hQ)
  have KF := kers_fam hV.asc FF.1.sub FF.2 hV.few
  have kp := fam5_pt N.ok h5 KF
  have su := fun φ => subsets_e (φ := φ) hV
  have mem := fun x => mem_byLen hV.asc (x := x)
  have i0 : ixG (netD V fs) (.int 0) = .ok (.dat (tupD V)) := ixG_n (i := 0) rfl
  have sq : ∀ o, vI (some (netD V fs) :: o) φ = .ok ((byLen V).map tupD, φ) := fun o => by
    have s := su φ
    have q : ∀ φ, seqD (.list ((byLen V).map tupD)) φ = .ok ((byLen V).map tupD, φ) := fun φ => rfl
    apply eq_of
    unfold vI
    generalize hL : PyData.list ((byLen V).map tupD) = L at *
    generalize (byLen V).map tupD = BT at *
    generalize tupD V = X at *
    generalize netD V fs = W at *
    simp [i0, s, q]
  have key : sat (b_w_is_even (startS 10 [netD V fs, .tuple (QS.map famD), .int (i : Int)]) φ) fun r => r.1 = .ret (.dat (.bool true)) ∧ r.2.2 = φ := by
    have e0 : startS 10 [netD V fs, .tuple (QS.map famD), .int (i : Int)] = stE (netD V fs) (.tuple (QS.map famD)) i none none none none none := rfl
    rw [even_o, e0, seqM_o, (vAB_e NQ hh hF hQ _ _ _ _ _).1, bind_e]
    dsimp only
    rw [seqM_o, (vAB_e NQ hh hF hQ _ _ _ _ _).2, bind_e]
    dsimp only
    rw [seqM_o, vC_e _ _ _ kp (by decide) (by decide), bind_e]
    dsimp only
    have e1 : soft [] (stE (netD V fs) (.tuple (QS.map famD)) i (some (.dat (famD (kersV V F)))) (some (.dat (famD (kersV V F)))) none none none) = some (netD V fs) :: [some (.tuple (QS.map famD)), some (.int (i : Int)), some (famD (kersV V F)), some (famD (kersV V F)), none, none, none, none, none] := rfl
    rw [seqM_o, sat_bind, forM_o, e1, sq, bind_e, settle_nil]
    dsimp only
    refine sat_for (fun pre σ φ' => φ' = φ ∧ ∃ o5 o6 o7, σ = stE (netD V fs) (.tuple (QS.map famD)) i (some (.dat (famD (kersV V F)))) (some (.dat (famD (kersV V F)))) o5 o6 o7) ⟨rfl, _, _, _, rfl⟩ (fun pre a post σ φ' e hI => ?_) (fun σ φ' hI => ?_)
    · obtain ⟨rfl, o5, o6, o7, rfl⟩ := hI
      obtain ⟨x, mx, rfl⟩ := List.mem_map.mp (show a ∈ (byLen V).map tupD by rw [e]; simp)
      refine ⟨stE (netD V fs) (.tuple (QS.map famD)) i (some (.dat (famD (kersV V F)))) (some (.dat (famD (kersV V F)))) (some (.dat (tupD x))) o6 o7, rfl, ?_⟩
      refine sat_mono (lap_v NQ N.ok hh hF hQ FF.1 KF ((mem x).mp mx) o6 o7) ?_
      rintro ⟨fl, σ, φ2⟩ ⟨h1, h2, p6, p7, h3⟩
      exact .inl ⟨h1, h2, _, _, _, h3⟩
    · obtain ⟨rfl, o5, o6, o7, rfl⟩ := hI
      exact ⟨_, rfl, rfl, rfl⟩
  unfold m_w_is_even
  rw [fnM_o]
  obtain ⟨⟨fl, σ, φ'⟩, e1, e2, e3⟩ := key
  dsimp only at e2 e3
  subst e2 e3
  rw [e1, bind_e]
def lw : MS := asgD [] 3 (appM 2 m_w_net (consA (vD 1) (consA (cD (.int 5)) nilA)))
def lp : MS := asgD [] 4 (appM 2 m_w_packs (consA (vD 1) (consA (vD 3) nilA)))
def lr : MS := asgD [] 5 (callM reprG (consA (lstM (consA (vD 3) (consA (vD 4) nilA))) nilA))
def rgH : MI D := rng1I (callM lenG (consA (op2 ixG (vD 3) (cD (.int 0))) nilA))
def l1 : MS := ifS [] (tst (op2 neG (lcM [7] rgH (setN 7) (notT (tst (appM 3 m_w_is_even (consA (vD 3) (consA (vD 4) (consA (vD 7) nilA)))))) (vD 7)) (lstM nilA))) (retM [] (cD (.bool false))) nxM
def l2 : MS := ifS [] (tst (op2 neG (callM reprG (consA (lstM (consA (vD 3) (consA (vD 4) nilA))) nilA)) (vD 5))) (retM [] (cD (.bool false))) nxM
def l3 : MS := asgD [] 6 (callM tupleG (consA (lcM [8] (seqI (vD 4)) (setN 8) yesT (appM 2 m_w_kernels (consA (op2 ixG (vD 3) (cD (.int 0))) (consA (vD 8) nilA)))) nilA))
def l4B : MS := ifS [] (tst (op2 neG (callM reprG (consA (appM 3 m_kernels_of (consA (vD 3) (consA (vD 6) (consA (op2 ixG (op2 ixG (vD 3) (cD (.int 0))) (vD 7)) nilA)))) nilA)) (callM reprG (consA (op2 ixG (vD 4) (vD 7)) nilA)))) (retM [] (cD (.bool false))) nxM
def lapL : MS := seqM lw (seqM lp (seqM lr (seqM l1 (seqM l2 (seqM l3 (forC [] rgH (setNS 7) l4B))))))
theorem law_o : b_law = seqM (forC [] (rng1I (cD (.int 3))) (setNS 2) lapL) (retM [] (cD (.bool true))) := rfl
def stL (o2 o3 o4 o5 o6 o7 : Option EV) : EnvS := [none, some (.dat (.dict [])), o2, o3, o4, o5, o6, o7, none]
theorem lw_e (o2 o3 o4 o5 o6 o7 : Option EV) : sat (lw (stL o2 o3 o4 o5 o6 o7) φ) fun r => r.1 = .nx ∧ ∃ V fs, r.2.1 = stL o2 (some (.dat (netD V fs))) o4 o5 o6 o7 ∧ Dn V fs ∧ V.length ≤ 5 := by
  have nd := net_d (φ := φ) (mm := 5) (by decide) (by decide)
  unfold lw stL
  simp [soft_c, soft_o', softF, soft1]
  refine sat_mono nd ?_
  rintro ⟨e, φ1⟩ ⟨V, fs, h1, N, h5⟩
  dsimp only at h1
  subst h1
  simp [aft]
  exact ⟨V, fs, rfl, N, by omega⟩
theorem lp_e (N : Dn V fs) (h5 : V.length ≤ 5) (o2 o4 o5 o6 o7 : Option EV) : sat (lp (stL o2 (some (.dat (netD V fs))) o4 o5 o6 o7) φ) fun r => r.1 = .nx ∧ ∃ QS : List (List (List Str)), r.2.1 = stL o2 (some (.dat (netD V fs))) (some (.dat (.tuple (QS.map famD)))) o5 o6 o7 ∧ Qs V QS := by
  have pq := packs_q (φ := φ) N h5
  unfold lp stL
  generalize netD V fs = W at *
  simp [soft_c, soft_o', softF, soft1]
  refine sat_mono pq ?_
  rintro ⟨e, φ1⟩ ⟨QS, h1, h2⟩
  dsimp only at h1
  subst h1
  generalize hQ : PyData.tuple (QS.map famD) = Q
  simp [aft]
  exact ⟨QS, hQ.symm, h2⟩
theorem rgH_e (W Q : D) (i0 : ixG W (.int 0) = .ok (.dat (tupD V))) (l5 : V.length ≤ 5) (r0 r1 r2 r4 r5 r6 r7 r8 : Option D) : rgH [r0, r1, r2, some W, r4, r5, r6, r7, r8] φ = .ok ((List.range V.length).map fun (i : Nat) => PyData.int (0 + (i : Int)), φ) := by
  have ll : lenG [tupD V] = .ok (.dat (.int (V.length : Int))) := by show Res.ok (EV.dat (PyData.int (V.map PyData.str).length)) = _; rw [List.length_map]
  apply eq_of
  unfold rgH
  refine sat_rng1 ?_
  generalize tupD V = X at *
  simp [i0, ll]
  exact ⟨V.length, rfl, by omega, rfl⟩
theorem rest_e (N : Dn V fs) (h5 : V.length ≤ 5) (hq : Qs V QS) (o2 o5 o6 o7 : Option EV) : sat (seqM lr (seqM l1 (seqM l2 (seqM l3 (forC [] rgH (setNS 7) l4B)))) (stL o2 (some (.dat (netD V fs))) (some (.dat (.tuple (QS.map famD)))) o5 o6 o7) φ) fun r => r.1 = .nx ∧ ∃ o4 o5 o6 o7, r.2.1 = stL o2 (some (.dat (netD V fs))) o4 o5 o6 o7 := by
  have NQ := nq_of N h5 hq.1 hq.2
  have hV := NQ.hs
  have i0 : ixG (netD V fs) (.int 0) = .ok (.dat (tupD V)) := ixG_n (i := 0) rfl
  have pW : Pt (netD V fs) 40 130000 := ptM (net_pt N) (Nat.le_refl _) (by decide)
  have pQ : Pt (.tuple (QS.map famD)) 40 130000 := ptM (fams5_pt N.ok h5 (fun Q m => (hq.2 Q m).1) (by have := hq.1; omega)) (by decide) (by decide)
  have pL : Pt (.list [netD V fs, .tuple (QS.map famD)]) 41 260008 := ptLT (ptM (pt2 pW pQ) (Nat.le_refl _) (by decide))
  have rL := pL.repr (by decide) (by decide)
  have sL := ne_shown pL
  have e1 : lr (stL o2 (some (.dat (netD V fs))) (some (.dat (.tuple (QS.map famD)))) o5 o6 o7) φ = .ok (.nx, stL o2 (some (.dat (netD V fs))) (some (.dat (.tuple (QS.map famD)))) (some (.dat (.str (PyData.list [netD V fs, .tuple (QS.map famD)]).shown))) o6 o7, φ) := by
    apply eq_of
    unfold lr stL
    generalize (PyData.list [netD V fs, .tuple (QS.map famD)]).shown = S at *
    generalize PyData.tuple (QS.map famD) = Q at *
    generalize netD V fs = W at *
    simp [soft_c, soft_o', softF, soft1, aft, rL]
  have e2 : l1 (stL o2 (some (.dat (netD V fs))) (some (.dat (.tuple (QS.map famD)))) (some (.dat (.str (PyData.list [netD V fs, .tuple (QS.map famD)]).shown))) o6 o7) φ = .ok (.nx, stL o2 (some (.dat (netD V fs))) (some (.dat (.tuple (QS.map famD)))) (some (.dat (.str (PyData.list [netD V fs, .tuple (QS.map famD)]).shown))) o6 o7, φ) := by
    have lc := fun r0 r1 r2 r5 r6 r8 => lc_fil (φ := φ) (set := setN 7) (mt := notT (tst (appM 3 m_w_is_even (consA (vD 3) (consA (vD 4) (consA (vD 7) nilA)))))) (me := vD 7) (f := fun (i : Nat) => PyData.int (0 + (i : Int))) (ρ0 := [r0, r1, r2, some (netD V fs), some (.tuple (QS.map famD)), r5, r6, none, r8]) (fun _ => false) (as := List.range V.length) fun k mk => by
      have ez : (0 : Int) + (k : Int) = (k : Int) := by omega
      rw [ez]
      have ev := even_e (φ := φ) N h5 hq (List.getElem?_eq_getElem (List.mem_range.mp mk))
      refine ⟨_, rfl, ?_, ⟨_, rfl, rfl, rfl⟩⟩
      generalize PyData.tuple (QS.map famD) = Q at *
      generalize netD V fs = W at *
      simp [ev]
    rw [List.filter_eq_nil_iff.mpr (fun _ _ => by decide)] at lc
    have rg := fun r0 r1 r2 r4 r5 r6 r7 r8 => rgH_e (φ := φ) (netD V fs) .none i0 h5 r0 r1 r2 r4 r5 r6 r7 r8
    have ll : ((List.range V.length).map fun (i : Nat) => PyData.int (0 + (i : Int))).length ≤ 1000000 := by rw [List.length_map, List.length_range]; omega
    have nn : neG (.list []) (.list []) = .ok (.dat (.bool false)) := rfl
    apply eq_of
    unfold l1 stL
    generalize (PyData.list [netD V fs, .tuple (QS.map famD)]).shown = S at *
    generalize ((List.range V.length).map fun (i : Nat) => PyData.int (0 + (i : Int))) = RG at *
    generalize PyData.tuple (QS.map famD) = Q at *
    generalize netD V fs = W at *
    generalize rgH = RH at *
    simp [soft_c, soft_o', softF, soft1, aft, rg, ll, lc, nn]
  have e3 : l2 (stL o2 (some (.dat (netD V fs))) (some (.dat (.tuple (QS.map famD)))) (some (.dat (.str (PyData.list [netD V fs, .tuple (QS.map famD)]).shown))) o6 o7) φ = .ok (.nx, stL o2 (some (.dat (netD V fs))) (some (.dat (.tuple (QS.map famD)))) (some (.dat (.str (PyData.list [netD V fs, .tuple (QS.map famD)]).shown))) o6 o7, φ) := by
    apply eq_of
    unfold l2 stL
    generalize (PyData.list [netD V fs, .tuple (QS.map famD)]).shown = S at *
    generalize PyData.tuple (QS.map famD) = Q at *
    generalize netD V fs = W at *
    simp [soft_c, soft_o', softF, soft1, aft, rL, sL]
  have e4 : ∀ o5, l3 (stL o2 (some (.dat (netD V fs))) (some (.dat (.tuple (QS.map famD)))) o5 o6 o7) φ = .ok (.nx, stL o2 (some (.dat (netD V fs))) (some (.dat (.tuple (QS.map famD)))) o5 (some (.dat (.tuple ((QS.map (kersV V)).map famD)))) o7, φ) := fun o5 => by
    have lc := fun r0 r1 r2 r4 r5 r6 r7 => lc_eqG (φ := φ) (set := setN 8) (me := appM 2 m_w_kernels (consA (op2 ixG (vD 3) (cD (.int 0))) (consA (vD 8) nilA))) (f := famD) (g := fun Q => famD (kersV V Q)) (ρ0 := [r0, r1, r2, some (netD V fs), r4, r5, r6, r7, none]) (as := QS) fun Q mQ => by
      have wk := wkers_e (φ := φ) hV (hq.2 Q mQ).1.sub (by have := (hq.2 Q mQ).1.few; omega)
      refine ⟨_, rfl, ?_⟩
      generalize famD (kersV V Q) = K at *
      generalize famD Q = QD at *
      generalize tupD V = X at *
      generalize netD V fs = W at *
      simp [i0, wk]
    have em : (QS.map fun Q => famD (kersV V Q)) = (QS.map (kersV V)).map famD := by rw [List.map_map]; rfl
    rw [em] at lc
    have sq : ∀ φ, seqD (.tuple (QS.map famD)) φ = .ok (QS.map famD, φ) := fun φ => rfl
    have ll : (QS.map famD).length ≤ 1000000 := by rw [List.length_map]; have := hq.1; omega
    have tg : tupleG [.list ((QS.map (kersV V)).map famD)] = .ok (.dat (.tuple ((QS.map (kersV V)).map famD))) := rfl
    apply eq_of
    unfold l3 stL
    generalize PyData.tuple ((QS.map (kersV V)).map famD) = R at *
    generalize (QS.map (kersV V)).map famD = KL at *
    generalize hQT : PyData.tuple (QS.map famD) = Q at *
    generalize QS.map famD = QL at *
    generalize netD V fs = W at *
    simp [soft_c, soft_o', softF, soft1, aft, sq, ll, lc, tg]
  rw [seqM_o, e1, bind_e]
  dsimp only
  rw [seqM_o, e2, bind_e]
  dsimp only
  rw [seqM_o, e3, bind_e]
  dsimp only
  rw [seqM_o, e4, bind_e]
  dsimp only
  generalize (PyData.list [netD V fs, .tuple (QS.map famD)]).shown = S
  have NK := nq_of N h5 (hq.kers hV).1 (hq.kers hV).2
  have rg : rgH (soft [] (stL o2 (some (.dat (netD V fs))) (some (.dat (.tuple (QS.map famD)))) (some (.dat (.str S))) (some (.dat (.tuple ((QS.map (kersV V)).map famD)))) o7)) φ = .ok ((List.range V.length).map fun (i : Nat) => PyData.int (0 + (i : Int)), φ) := rgH_e (netD V fs) .none i0 h5 _ _ _ _ _ _ _ _
  rw [forC_o, rg, bind_e]
  dsimp only
  refine sat_for (fun pre σ φ' => ∃ o7, σ = stL o2 (some (.dat (netD V fs))) (some (.dat (.tuple (QS.map famD)))) (some (.dat (.str S))) (some (.dat (.tuple ((QS.map (kersV V)).map famD)))) o7) ⟨_, rfl⟩ (fun pre a post σ φ' e hI => ?_) (fun σ φ' hI => ?_)
  · obtain ⟨o7, rfl⟩ := hI
    obtain ⟨k, mk, rfl⟩ := List.mem_map.mp (show a ∈ (List.range V.length).map fun (i : Nat) => PyData.int (0 + (i : Int)) by rw [e]; simp)
    have hk := List.mem_range.mp mk
    have ez : (0 : Int) + (k : Int) = (k : Int) := by omega
    rw [ez]
    obtain ⟨h, hh⟩ : ∃ h, V[k]? = some h := ⟨_, List.getElem?_eq_getElem hk⟩
    have nd := nodup_asc hV.asc
    have hQ := famAt_ix hq.1 nd hh
    have hK := famAt_ix (hq.kers hV).1 nd hh
    obtain ⟨Q, hQe⟩ : ∃ Q, famAt V QS h = Q := ⟨_, rfl⟩
    rw [hQe] at hQ
    rw [List.getElem?_map, hQ] at hK
    have FQ := (hq.2 Q (List.mem_of_getElem? hQ)).1
    have ke := kof_e (φ := φ') NK (List.mem_of_getElem? hh)
    rw [← Option.some.inj hK, kers_kers hV.asc FQ] at ke
    have kp := fam5_pt N.ok h5 FQ
    have r := kp.repr (by decide) (by decide)
    have s := ne_shown kp
    have ix : ixG (.tuple (QS.map famD)) (.int (k : Int)) = .ok (.dat (famD Q)) := ixG_n (by rw [List.getElem?_map, hQ]; rfl)
    have ih : ixG (tupD V) (.int (k : Int)) = .ok (.dat (.str h)) := ixG_n (by rw [List.getElem?_map, hh]; rfl)
    refine ⟨stL o2 (some (.dat (netD V fs))) (some (.dat (.tuple (QS.map famD)))) (some (.dat (.str S))) (some (.dat (.tuple ((QS.map (kersV V)).map famD)))) (some (.dat (.int (k : Int)))), rfl, ?_⟩
    have fin : l4B (stL o2 (some (.dat (netD V fs))) (some (.dat (.tuple (QS.map famD)))) (some (.dat (.str S))) (some (.dat (.tuple ((QS.map (kersV V)).map famD)))) (some (.dat (.int (k : Int))))) φ' = .ok (.nx, stL o2 (some (.dat (netD V fs))) (some (.dat (.tuple (QS.map famD)))) (some (.dat (.str S))) (some (.dat (.tuple ((QS.map (kersV V)).map famD)))) (some (.dat (.int (k : Int)))), φ') := by
      apply eq_of
      unfold l4B stL
      generalize (famD Q).shown = SQ at *
      generalize famD Q = FQ at *
      generalize PyData.tuple ((QS.map (kersV V)).map famD) = R at *
      generalize PyData.tuple (QS.map famD) = QT at *
      generalize tupD V = X at *
      generalize netD V fs = W at *
      generalize (k : Int) = I at *
      simp [soft_c, soft_o', softF, soft1, aft, i0, ih, ke, r, ix, s]
    rw [fin]
    exact ⟨_, rfl, .inl ⟨rfl, _, rfl⟩⟩
  · obtain ⟨o7, rfl⟩ := hI
    exact ⟨rfl, _, _, _, _, rfl⟩
end
theorem lawTrue : LawTrue := by
  intro ns _
  generalize (⟨ns, 0, 0, 0⟩ : FS) = φ
  have key : sat (b_law (lawS 9) φ) fun r => r.1 = .ret (.dat (.bool true)) := by
    have e0 : lawS 9 = stL none none none none none none := rfl
    have rg : ∀ ρ φ, rng1I (cD (.int 3)) ρ φ = .ok ((List.range 3).map fun (i : Nat) => PyData.int (0 + (i : Int)), φ) := fun ρ φ => rfl
    rw [law_o, e0, seqM_o, sat_bind, forC_o, rg, bind_e]
    dsimp only
    refine sat_for (fun _ σ _ => ∃ o2 o3 o4 o5 o6 o7, σ = stL o2 o3 o4 o5 o6 o7) ⟨_, _, _, _, _, _, rfl⟩ (fun pre a post σ φ e hI => ?_) (fun σ φ hI => ?_)
    · obtain ⟨o2, o3, o4, o5, o6, o7, rfl⟩ := hI
      refine ⟨stL (some (.dat a)) o3 o4 o5 o6 o7, rfl, ?_⟩
      unfold lapL
      rw [seqM_o, sat_bind]
      refine sat_mono (lw_e _ _ _ _ _ _) ?_
      rintro ⟨fl, σ, φ1⟩ ⟨h1, V, fs, h2, N, h5⟩
      dsimp only at h1 h2
      subst h1 h2
      dsimp only
      rw [seqM_o, sat_bind]
      refine sat_mono (lp_e N h5 _ _ _ _ _) ?_
      rintro ⟨fl, σ, φ2⟩ ⟨h1, QS, h2, hq⟩
      dsimp only at h1 h2
      subst h1 h2
      dsimp only
      refine sat_mono (rest_e N h5 hq _ _ _ _) ?_
      rintro ⟨fl, σ, φ3⟩ ⟨h1, p4, p5, p6, p7, h2⟩
      exact .inl ⟨h1, _, _, _, _, _, _, h2⟩
    · obtain ⟨o2, o3, o4, o5, o6, o7, rfl⟩ := hI
      exact ⟨_, rfl, rfl⟩
  obtain ⟨⟨fl, ρ, φ'⟩, h1, h2⟩ := key
  dsimp only at h2
  subst h2
  exact ⟨ρ, φ', h1⟩
end V23
namespace V23
open PySem PySem.Spec PyProof.Rows L2 VI
abbrev R0 : PySem.W.OpenRow := PySem.W.OpenLaw.row PySem.Challenge.rw_ownfears_k23_whole_kernels
def loose0_0 : List Str := ["__name__", "ascend", "is_lot_of", "is_family_of", "includes", "common", "without", "greatest", "least", "with_one_of"]
def loose0_1 : List Str := ["least_kernels", "meets_each", "family_of", "FearError", "UseError", "NotUsable", "need", "is_name", "is_name_set", "are_houses"]
def loose0_2 : List Str := ["is_tuple_of", "is_net", "are_quorums_of", "need_quorums", "kernels_of", "is_kernel", "_law_feed", "_law_draw", "_law_pick", "_law_pool"]
def loose0_3 : List Str := ["_law_set", "_law_lies", "_law_greatest", "_law_least", "_law_part", "_law_net", "_law_plain", "_law_others", "_law_packs", "_law_common"]
def loose0_4 : List Str := ["_law_subsets", "_law_kernels", "_law_is_even"]
def loose0 : List Str := loose0_0 ++ loose0_1 ++ loose0_2 ++ loose0_3 ++ loose0_4
theorem run0 (w : World) : HandSHeadRun.RunEq R0 (PySem.W.view R0.prog [51]) hk0 ob0 6000 loose0 w := by
  intro os
  kernel_rfl
end V23
open PySem PySem.W PySem.Calls PyProof.Rows
set_option maxHeartbeats 0 in
theorem PySem.Challenge.cw_ownfears_k23_whole_kernels_holds : PySem.Challenge.rw_ownfears_k23_whole_kernels.Holds := by
  w_on; o_law
  refine HandSHeadRun.head_any (r := OpenLaw.row PySem.Challenge.rw_ownfears_k23_whole_kernels) (q := view (OpenLaw.row PySem.Challenge.rw_ownfears_k23_whole_kernels).prog [51]) (H := V23.hk0) (ob := V23.ob0) (M := 6000) (loose := V23.loose0) (d := HandSHeadRun.topDef (OpenLaw.row PySem.Challenge.rw_ownfears_k23_whole_kernels).prog 51) (kwd := []) V23.ob0_eq
    (by kernel_rfl) (fun s => by kernel_rfl) V23.run0 (by kernel_rfl) (by kernel_rfl) (by kernel_rfl) (by rfl) (by first | assumption | decide +kernel) (by decide +kernel) ⟨rfl, rfl, rfl, rfl, rfl, by decide +kernel⟩ ?hw ?hc
  case hw => w_witness2
  case hc =>
    refine VI.walkX (l := PySem.Challenge.rw_ownfears_k23_whole_kernels) (k := 8) (x := "_law_script") rfl (by kernel_rfl) ⟨rfl, by decide, by decide⟩ ?F
    intro w mg fa h Y G hmg0
    obtain ⟨K, KX, c⟩ := Y
    have hmg : mg ("law" : PySem.Str) = some (.ref fa) := by
      have e : (HandSHeadRun.topDef (OpenLaw.row PySem.Challenge.rw_ownfears_k23_whole_kernels).prog 51).name = ("law" : PySem.Str) := by kernel_rfl
      rw [← e]
      exact hmg0
    obtain ⟨fd, cs, Tq, h1, h2, h3, h4, h5, h6⟩ := V23.facts (P := (PySem.Challenge.rw_ownfears_k23_whole_kernels).prog) (w := w) V23.lawTrue KX G hmg c
    exact ⟨K, fd, cs, Tq, KX, h1, h2, h3, h4, h5, h6⟩

