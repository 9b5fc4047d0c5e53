import PyProof.Rows.All
import Wide.All
import OpenK.AllK
import Wide.FinOn
import PyProof.EqAt
import PyProof.EqKinds
import PyProof.TupleCall
import HandS.ForMost
import HandS.Property
import HandS.IsInst
import HandS.Replace
import HandS.Evl
import HandS.FStrTup
import PyProof.ListStr
import HandS.Codes
import HandS.Conv
import HandS.Deep
import HandS.NamedTupSort
import HandS.MakeKwOnly
import PyProof.InstNe
import HandS.Zip
import HandS.DictSub
import HandS.Small
import KE.GoesEnum
import KE.KStar
import HandS.Star
import PyProof.ListNew
import PyProof.Tail
import KE.GoesMore
import HandS.Sort
import PyProof.StrBlock2
import PyProof.StrBlockL
import PyProof.Rows.StrStep
import HandS.Text
import PyProof.StrLawsRepr
import PySem.Challenge.RW_rowreaders_k51_whole_values_of_rows
set_option Elab.async false
set_option linter.all false
set_option maxRecDepth 100000
set_option maxHeartbeats 2000000
/-! rules of our own beside the hand layer's: calls by keywords alone, len of an own instance, repr of data, defs that are entered where no repr is under way -/
namespace Rw
open PySem PySem.Spec PyProof.Rows L2
section
variable {X : Cx} {CX : CXT} {k : Nat} {f C : Addr} {fd : FuncData} {ps ks : List Str} {sp : Sp} {E : XK} {x : Str} {p pos : Pos} {kws : List Keyword} {tk : TA} {ta : TE} {e : Expr}
  {g : List Value → List Value → List Value} {gV : List V → List V → List V}

theorem pe_callK0 (F : FnOk X.prog X.w X.K X.mg X.base CX k f fd ps sp) (room : Room k X.A) (glob : Gl X x) (known : X.mg x = some (.ref f))
    (keep : PySem.W.keepIn X.K (.ref f) = true) (kb : KBinds X.K fd ps ks g gV) (pass : Passes CX X E) (hkw : PK X kws tk)
    (hall : (backToKw pos (keywordEach kws X.env)).all (·.1.isSome) = true := by rfl)
    (hks : (backToKw pos (keywordEach kws X.env)).filterMap (·.1) = ks := by rfl)
    (hdb : (x == ("__debug__" : Str)) = false := by decide)
    (hpl : ((backTo pos (starEach [] X.env)).any (·.1) || (backToKw pos (keywordEach kws X.env)).any (·.1.isNone)) = false := by rfl) :
    PE X (.Call (.Name x p) [] kws pos) (tCallK sp gV E tNil tk) := by
  constructor
  intro pins s σ H Q I h
  refine wpAny_Call_Name_kw (ld_glob I glob known ?_ hdb)
  refine PySem.W.callWith_KW0 (h₀ := X.base) I.ok.mod.kin keep hall
    (thn (hkw.run pos pins s σ H _ I h) fun ws s2 hh => ?_) hpl
  obtain ⟨zs, H2, I2, rz, q2⟩ := hh
  refine ⟨I2.kIn, ?_⟩
  rw [hks]
  exact run_fnk (us := []) F room kb pass I2 .nil rz q2

/-- len(o), o an instance of the class at C whose __len__ is the def at f -/
def rLenO (C : Addr) (sp : Sp) (E : XK) : List V → Hp → VK → Prop := fun vs H Q => ∃ a dx fs, vs = [.ref a] ∧ H a = some (.ins C dx fs) ∧
  sp [.ref a] H (fun v H2 => ∃ n : Nat, v = .int (n : Int) ∧ (n : Int) < 2 ^ 63 ∧ Q (.int (n : Int)) H2) E
theorem call_lenO (F : FnOk X.prog X.w X.K X.mg X.base CX k f fd ps sp) (room : Room (k + 1) X.A)
    (own : PySem.W.findIn X.K (.ref C) "__len__" = some (some (.ref f))) (isf : PySem.W.isFn X.K (.ref f) = true)
    (b : L2.Binds X.K fd ps []) (pass : Passes CX X E) : CallR X (.builtin "len") (rLenO C sp E) := by
  intro pins s σ H xs us Q I r h
  obtain ⟨a, dx, fs, rfl, ha, hsp⟩ := h
  obtain ⟨u, rfl⟩ : ∃ u, us = [u] := by
    cases r with
    | cons p q => cases q; exact ⟨_, rfl⟩
  have ru : u = Value.ref a := by
    cases r with
    | cons p q => exact p
  subst ru
  obtain ⟨mA, O, _, _, _, _⟩ := ins_get I.hok ha
  obtain ⟨od, J, _⟩ := O.look
  obtain ⟨m, hF⟩ := I.fr
  refine PySem.W.len_K hF I.ok.mod.kin J own isf ?_
  have hl := F.len _ _ _ _ hsp
  refine wpAny_call (codeAny_mono (F.run X.A.in1 X.stack s H ⟨[.ref a], []⟩ [.ref a] [.ref a] _ E room.in1 I.env0.in1 (by
    have := b s [.ref a] I.kIn (by simpa using hl)
    simpa using this) (.cons rfl .nil) hsp) fun r s' hq => ?_)
  cases r with
  | error e => exact pass pins σ H s e s' I hq
  | ok fl =>
    cases fl with
    | ret w =>
      obtain ⟨z, H', I', rz, n, ez, hn, hQ⟩ := I.after hq
      subst ez
      obtain ⟨t, rfl⟩ := rz
      refine ⟨⟨Int.natCast_nonneg n, hn⟩, ?_⟩
      exact ⟨.int n, H', I'.tok _, ⟨_, rfl⟩, hQ⟩
    | next => exact False.elim hq
    | brk => exact False.elim hq
    | cont => exact False.elim hq

mutual
theorem noDict {K : PySem.W.Frag} {H : Hp} : ∀ (d : PyData) (v : V), Dp K H v d → d.hasDict = false
  | .none, _, _ => by simp only [PyData.hasDict]
  | .bool _, _, _ => by simp only [PyData.hasDict]
  | .int _, _, _ => by simp only [PyData.hasDict]
  | .str _, _, _ => by simp only [PyData.hasDict]
  | .list ds, _, h => by
    cases h with
    | lst _ a => simp only [PyData.hasDict]; exact noDicts ds _ a
  | .tuple ds, _, h => by
    cases h with
    | tup _ a => simp only [PyData.hasDict]; exact noDicts ds _ a
  | .dict _, _, h => by cases h
theorem noDicts {K : PySem.W.Frag} {H : Hp} : ∀ (ds : List PyData) (vs : List V), DpAll K H vs ds → PyData.hasDictAll ds = false
  | [], _, _ => by simp only [PyData.hasDictAll]
  | d :: ds, _, h => by
    cases h with
    | cons a b => simp only [PyData.hasDictAll, noDict d _ a, noDicts ds _ b, Bool.or_false]
end

/-- repr(x), x a list or a tuple of data, where no repr is under way -/
def rReprD (K : PySem.W.Frag) : List V → Hp → VK → Prop := fun vs H Q => ∃ a d, vs = [.ref a] ∧ Dp K H (.ref a) d ∧ d.showable = true ∧ d.depth ≤ 10 ∧ d.shown.length ≤ sizeLine ∧ Q (.str d.shown) H
theorem call_reprD (hg : X.A.guards = some []) (hr : Room k X.A) : CallR X (.builtin "repr") (rReprD X.K) := by
  intro pins s σ H xs us Q I r h
  obtain ⟨a, d, rfl, hd, hs, hdep, hsz, hQ⟩ := h
  obtain ⟨u, rfl⟩ : ∃ u, us = [u] := by
    cases r with
    | cons p q => cases q; exact ⟨_, rfl⟩
  have ru : u = Value.ref a := by
    cases r with
    | cons p q => exact p
  subst ru
  obtain ⟨as, R⟩ := Dp.reads I d _ _ hd rfl
  have hu := hr.units
  refine repr_of_reads' R hs (PyData.noDict_hsm (noDict d _ hd)) hg (by omega) (fun b o e => e) (fun h' u tk hk => ?_) hsz
  exact ⟨.str d.shown, H, I.kept hk, ⟨_, rfl⟩, hQ⟩
end

/-! ### the layer's rules with the written part named -/
section
variable {X : Cx} {K : PySem.W.Frag} {tg l a : Expr} {tl ta : TE} {pos : Pos}
theorem w_ixL (h : X.K = K := by rfl) : IxR X (rIxL K) := by subst h; exact ix_list
theorem w_ixT (h : X.K = K := by rfl) : IxR X (rIxT K) := by subst h; exact ix_tup
def rLenK (K : PySem.W.Frag) : List V → Hp → VK → Prop := fun xs H Q => ∃ x n, xs = [x] ∧ LenV K x H n ∧ Q (.int n) H
theorem w_len (h : X.K = K := by rfl) : CallR X (.builtin "len") (rLenK K) := by subst h; exact call_len
theorem w_in (h : X.K = K := by rfl) : OpR X (compareOp .In) (rIn K false) := by subst h; exact op_in_seq
theorem w_notIn (h : X.K = K := by rfl) : OpR X (compareOp .NotIn) (rIn K true) := by subst h; exact op_notIn_seq
theorem w_sum (hc : X.calm = true) (h : X.K = K := by rfl) : CallR X (.builtin "sum") (rSum K) := by subst h; exact cr_sum hc
theorem w_all (hc : X.calm = true) (h : X.K = K := by rfl) : CallR X (.builtin "all") (rAll K) := by subst h; exact cr_all hc
theorem w_any (hc : X.calm = true) (h : X.K = K := by rfl) : CallR X (.builtin "any") (rAny K) := by subst h; exact cr_any hc
def rListK (K : PySem.W.Frag) : List V → Hp → VK → Prop := fun xs H Q => ∃ p ys, xs = [.ref p] ∧ (SqL K H p ys ∨ SqT K H p ys) ∧ ∀ l, H l = none → Q (.ref l) (upd H l (.lst ys))
theorem w_list (h : X.K = K := by rfl) : CallR X (.type "list") (rListK K) := by subst h; exact call_list_of
def rTupK (K : PySem.W.Frag) : List V → Hp → VK → Prop := fun xs H Q => ∃ p ys, xs = [.ref p] ∧ ((SqL K H p ys ∧ ∀ l, H l = none → Q (.ref l) (upd H l (.tup ys))) ∨ (SqT K H p ys ∧ Q (.ref p) H))
theorem w_tuple (h : X.K = K := by rfl) : CallR X (.type "tuple") (rTupK K) := by subst h; exact call_tuple_of
theorem w_isi (h : X.K = K := by rfl) : CallR X (.builtin "isinstance") (rIsi K) := by subst h; exact call_isi
theorem w_slL (h : X.K = K := by rfl) : SlR X (rSlL K) := by subst h; exact sl_list
theorem w_slT (h : X.K = K := by rfl) : SlR X (rSlT K) := by subst h; exact sl_tup
theorem w_piL (hl : PE X l tl) (h : X.K = K := by rfl) : PI X tg l (iList K tl) := by subst h; exact pi_list hl
theorem w_piT (hl : PE X l tl) (h : X.K = K := by rfl) : PI X tg l (iTup K tl) := by subst h; exact pi_tup hl
theorem w_tup {es : List Expr} {k : Nat} {t : TGs} {n : Nat} (hc : X.calm = true) (hs : PGs X es t) (h : X.K = K := by rfl)
    (hn : (assignEach es X.env).length = n := by rfl) (hst : (assignEach es X.env).findIdx? (·.1) = none := by rfl) : PG X (.Tuple es k pos) (gTup K n t) := by subst h; exact pg_tup hc hs hn hst
def tTruK (K : PySem.W.Frag) (ta : TE) : TT := fun σ H Q => ta σ H fun x H' => ∃ k, TruV K x H' k ∧ Q k H'
theorem w_truth (ha : PE X a ta) (he : ∀ whole, isTrue a X.env whole = (do let v ← whole; standAt a.pos; holding [v] (truthy v))) (h : X.K = K := by rfl) : PT X a (tTruK K ta) := by subst h; exact pt_truth ha he
theorem w_eqD (hu : X.A.units + 64 < cLine) (h : X.K = K := by rfl) : OpR X (compareOp .Eq) (rEqD K) := by subst h; exact op_eqD hu
theorem w_neD (hu : X.A.units + 64 < cLine) (h : X.K = K := by rfl) : OpR X (compareOp .NotEq) (rNeD K) := by subst h; exact op_neD hu
theorem w_reprD {k : Nat} (hg : X.A.guards = some []) (hr : Room k X.A) (h : X.K = K := by rfl) : CallR X (.builtin "repr") (rReprD K) := by subst h; exact call_reprD hg hr
end
/-! ### a def that is entered where no repr is under way -/
structure FnOkG (P : Program) (w : World) (K : PySem.W.Frag) (mg : Str → Option Value) (base : Heap) (k : Nat) (f : Addr) (fd : FuncData) (ps : List Str) (sp : Sp) : Prop where
  len : ∀ vs H Q E, sp vs H Q E → vs.length = ps.length
  run : ∀ (A : Around) (outer : List Env) (s : Shared) (H : Hp) (args : Args) (us : List Value) (vs : List V) (Q : VK) (E : XK), A.guards = some [] → Room k A →
    Env0 P w K mg base A outer s H → BindsTo s fd args (ps.zip us) → Vals vs us → sp vs H Q E → codeAny (model P w) A (.call (.ref f) args) (CR CX0 outer P w H s Q E) s
section
variable {P : Program} {w : World} {K : PySem.W.Frag} {mg : Str → Option Value} {base : Heap} {f : Addr} {fd : FuncData} {N ps : List Str} {k : Nat} {sp : Sp} {x qual : Str} {st : Stmt}
theorem okG (F : Fun K x qual st f fd) (S : FnScope N ps (defScope st)) (len : ∀ vs H Q E, sp vs H Q E → vs.length = ps.length)
    (hbody : ∀ (cdv : Value) (A : Around) (outer : List Env) (s : Shared) (H : Hp) (vs : List V) (Q : VK) (E : XK), A.guards = some [] →
      Room k (A.deeper (envOfC qual (defScope st) s.heap.objs.size f cdv)) → sp vs H Q E →
      ∃ t, PSs (cxOf CX0 P w K mg base N qual (defScope st) f cdv A outer s H E).nox (defBody st) t ∧ t { nx := fun _ H' => Q .non H', rt := Q } (start N vs) H) :
    FnOkG P w K mg base (k + 1) f fd ps sp := by
  obtain ⟨oc, od, kV, doc, pm, an, cdv, ct, osl, rfl, lk, hcd⟩ := F.ex
  refine ⟨len, fun A outer s H args us vs Q E hg hr e0 hb r hsp => ?_⟩
  have hl := len _ _ _ _ hsp
  have inn : K.In s.heap := e0.mod.kin.keeps (fun b o e => (e0.bs b o e).1)
  have nolim : s.heap.NoLimit := e0.mod.nolimit.keeps (fun b o e => (e0.bs b o e).1)
  have kinds : ∀ y ∈ ps.zip us, (defScope st).names.lookup y.1 = some .local ∨
      ((defScope st).names.lookup y.1 = some .cell ∧ ((cellsFrom (s.heap.objs.size + 1) (defScope st).names []).lookup y.1).isSome = true) := by
    rintro ⟨n, v⟩ hy
    rcases S.par n (List.of_mem_zip hy).1 with q | q
    · exact .inl q
    · exact .inr ⟨q, PySem.W.cellsFrom_some _ _ _ (.inl q)⟩
  refine codeAny_call_function hr.depth (inn _ _ lk) rfl S.co S.gen rfl (PySem.W.codeRec_of inn hcd) (hb _ _ _ _ ?_)
  refine wpAny_newFunctionEnv_cells S.kind kinds (fun env he s1 x => ?_)
  subst he
  refine ⟨nolim.keeps x.toInCall.keep, codeAny_func ?_⟩
  obtain ⟨t, ht, hq⟩ := hbody cdv A outer s H vs Q E hg (hr.deeper _) hsp
  have I := inv_start (CX := CX0) (P := P) (w := w) (K := K) (mg := mg) (base := base) (qual := qual) (f := f) (cd := cdv) (E := E) S hr.hd e0 hl r x
  refine wpAny_mono (ht.nox.run [] s1 (start N vs) H _ I hq) (fun fl s' hs => ?_) (fun e s' hs => hs)
  cases fl with
  | ret u =>
    obtain ⟨v, σ', H', J, rv, q⟩ := hs
    exact ⟨v, H', J.os, J.bare, J.base, J.hok, rv, q⟩
  | next =>
    obtain ⟨σ', H', J, q⟩ := hs
    exact ⟨V.non, H', J.os, J.bare, J.base, J.hok, rfl, q⟩
  | brk =>
    obtain ⟨_, _, _, q⟩ := hs
    exact False.elim q
  | cont =>
    obtain ⟨_, _, _, q⟩ := hs
    exact False.elim q
end
section
variable {X : Cx} {k : Nat} {f : Addr} {fd : FuncData} {ps : List Str} {sp : Sp} {x : Str} {p pos : Pos} {e : Expr} {es : List Expr} {t : TA}
theorem pe_callG (F : FnOkG X.prog X.w X.K X.mg X.base k f fd ps sp) (hgd : X.A.guards = some []) (room : Room k X.A) (glob : Gl X x) (known : X.mg x = some (.ref f))
    (keep : PySem.W.keepIn X.K (.ref f) = true) (b : L2.Binds X.K fd ps []) (ha : PA X (e :: es) t)
    (hdb : (x == ("__debug__" : Str)) = false := by decide) (he : starEach (e :: es) X.env = (false, eval e X.env) :: starEach es X.env := by rfl)
    (hpl : (backTo pos (starEach es X.env)).any (·.1) = false := by rfl) : PE X (.Call (.Name x p) (e :: es) [] pos) (tCall sp [] E0 t) := by
  constructor
  intro pins s σ H Q I h
  refine wpAny_Call_Name_kw (ld_glob I glob known ?_ hdb)
  refine PySem.W.callWith_K (h₀ := X.base) I.ok.mod.kin keep (thn (ha.run pos pins s σ H _ I h) fun us s1 hh => ?_) he hpl
  obtain ⟨vs, H1, I1, r, q⟩ := hh
  refine ⟨I1.kIn, ?_⟩
  have q : sp (vs ++ []) H1 Q E0 := q
  rw [List.append_nil] at q
  have hl : us.length = ps.length := by rw [← r.length]; exact F.len _ _ _ _ q
  refine wpAny_call (codeAny_mono (F.run X.A X.stack s1 H1 ⟨us, []⟩ us vs Q E0 hgd room I1.env0 (by
    have := b s1 us I1.kIn (by simpa using hl)
    simpa using this) r q) fun r s' hq => ?_)
  cases r with
  | error e => exact False.elim hq
  | ok fl =>
    cases fl with
    | ret u => exact I1.after hq
    | next => exact False.elim hq
    | brk => exact False.elim hq
    | cont => exact False.elim hq
end

/-! ### the law's call from above, for such a def -/
section
variable {P : Program} {w : World} {K : PySem.W.Frag} {mg mb : Str → Option Value} {k : Nat} {fa a : Addr} {fd : FuncData} {x : Str} {sp : Sp} {s1 : Shared} {vs : List Value} {ns : List Int}
abbrev Fin1 (s1 : Shared) (r : Result) (s' : Shared) : Prop := r = .ok (.ret (.bool true)) ∧ PySem.OldK s1.heap s'.heap ∧ s'.os = s1.os ∧ AllBare s'.gens
theorem callG_core (KX : K.In s1.heap) (nsg : s1.heap.Ns mainGlobals mg) (nsb : s1.heap.Ns builtinsNs mb) (boot : ∀ x : Str, x ≠ "__name__" → mb x = bootBuiltins x)
    (lim : s1.heap.NoLimit) (noGens : s1.gens = #[]) (obj : s1.heap.get? a = some { cls := .type "list", data := .seq vs.toArray }) (room : Room k callerA)
    (F : ∀ base : Heap, K.In base → base.Ns mainGlobals mg → FnOkG P w K mg base k fa fd [x] sp) (bind : ∀ (s : Shared) (u : Value), BindsTo s fd ⟨[u], []⟩ [(x, u)])
    (H : Hp) (only : Only H) (hsp : sp [.ref a] H (fun v _ => v = .bl true) fun _ _ _ => False) (ok : HOk P w H s1.heap) (onlyA : ∀ b, H b ≠ none → b = a) (outK : H a ≠ none → K.lookup a = none) :
    codeAny (model P w) callerA (.call (.ref fa) ⟨[.ref a], []⟩) (Fin1 s1) s1 := by
  have keepsB : ∀ {b : Addr} {o : Obj}, s1.heap.get? b = some o → H b = none → (hidT s1.heap H).get? b = some o := fun e n => hidT_get e n
  have isA : ∀ {b : Addr} {u : HO}, H b = some u → b = a := fun {b u} q => onlyA b (by rw [q]; simp)
  have dictNo : ∀ {b : Addr} {o : Obj} {es : Array DictEntry} {ep : Nat}, s1.heap.get? b = some o → o.data = .dict es ep → H b = none := by
    intro b o es ep e d
    cases q : H b with
    | none => rfl
    | some u =>
      have z := isA q
      subst z
      rw [obj] at e
      cases e
      exact absurd (show Data.seq vs.toArray _ = Data.dict es ep from d) (by intro y; cases y)
  have nsK : ∀ {b : Addr} {m : Str → Option Value}, s1.heap.Ns b m → (hidT s1.heap H).Ns b m := by
    rintro b m ⟨o, es, ep, e, d, r⟩
    exact ⟨o, es, ep, keepsB e (dictNo e d), d, r⟩
  have inB : K.In (hidT s1.heap H) := by
    intro b o e
    refine keepsB (KX b o e) ?_
    cases q : H b with
    | none => rfl
    | some u =>
      have z := isA q
      subst z
      rw [outK (by rw [q]; simp)] at e
      cases e
  have md : Mod K mg (hidT s1.heap H) := by
    obtain ⟨mc, h1, h2⟩ := lim
    exact ⟨inB, nsK nsg, ⟨mb, nsK nsb, boot⟩, ⟨mc, nsK h1, h2⟩⟩
  have e0 : Env0 P w K mg (hidT s1.heap H) callerA [] s1 H := by
    refine ⟨rfl, md, fun b o e => of_hidT e, Nat.le_of_eq (hidT_size _ _), trivial, ?_, ok, .of_eq noGens⟩
    intro b hb
    exact absurd (show b ∈ ([] : List Addr) from hb) (by simp)
  refine codeAny_mono ((F _ inB (nsK nsg)).run callerA [] s1 H ⟨[.ref a], []⟩ [.ref a] [.ref a] _ _ rfl room e0 (bind s1 (.ref a)) (.cons rfl .nil) hsp) ?_
  intro r s' h
  cases r with
  | error e => exact False.elim h
  | ok fl =>
    cases fl with
    | next => exact False.elim h
    | brk => exact False.elim h
    | cont => exact False.elim h
    | ret u =>
      obtain ⟨v, H', os, bare, un, ok', rv, q⟩ := h
      have q : v = .bl true := q
      subst q
      have ru : u = Value.bool true := rv
      subst ru
      refine ⟨rfl, PySem.OldK.of_keep (fun b o e => ?_), os, bare⟩
      cases q : H b with
      | none => exact un.keep b o e q (fun z => absurd (show b ∈ ([] : List Addr) from z) (by simp)) (by simp)
      | some u =>
        rcases only b with z | ⟨ob, xs, z⟩
        · rw [q] at z
          cases z
        · obtain ⟨e1, _⟩ := ok b _ z
          obtain ⟨e2, _⟩ := ok' b _ (un.frzs b ob _ z)
          rw [e] at e1
          cases e1
          exact e2
theorem callG (KX : K.In s1.heap) (nsg : s1.heap.Ns mainGlobals mg) (nsb : s1.heap.Ns builtinsNs mb) (boot : ∀ x : Str, x ≠ "__name__" → mb x = bootBuiltins x)
    (lim : s1.heap.NoLimit) (noGens : s1.gens = #[]) (obj : s1.heap.get? a = some { cls := .type "list", data := .seq vs.toArray }) (hi : IntsAre vs ns) (hl : ns.length ≤ sizeLine) (room : Room k callerA)
    (F : ∀ base : Heap, K.In base → base.Ns mainGlobals mg → FnOkG P w K mg base k fa fd [x] sp) (bind : ∀ (s : Shared) (u : Value), BindsTo s fd ⟨[u], []⟩ [(x, u)])
    (hsp : ∀ H : Hp, Only H → SqL K H a (ns.map V.int) → sp [.ref a] H (fun v _ => v = .bl true) fun _ _ _ => False) :
    codeAny (model P w) callerA (.call (.ref fa) ⟨[.ref a], []⟩) (Fin1 s1) s1 := by
  have rv := vals_ints hi
  have lenV := hi.length
  cases hk : K.lookup a with
  | some o =>
    have e := KX a o hk
    rw [obj] at e
    cases e
    have only : Only (fun _ => none) := fun _ => .inl rfl
    refine callG_core KX nsg nsb boot lim noGens obj room F bind (fun _ => none) only (hsp _ only ?_) (fun b u z => ?_) (fun b z => absurd rfl z) (fun z => absurd rfl z)
    · exact .inr ⟨_, vs.toArray, _, hk, rfl, rfl, rfl, by rw [List.size_toArray, lenV]; exact hl, by simpa using rv⟩
    · have z : (none : Option HO) = some u := z
      cases z
  | none =>
    have only : Only (fun b => if b = a then some (.frz { cls := .type "list", data := .seq vs.toArray } (.lst (ns.map V.int))) else none) := by
      intro b
      by_cases hb : b = a
      · exact .inr ⟨_, _, if_pos hb⟩
      · exact .inl (if_neg hb)
    refine callG_core KX nsg nsb boot lim noGens obj room F bind _ only (hsp _ only ?_) (fun b u z => ?_) (fun b z => ?_) (fun _ => hk)
    · exact .inl (.inr ⟨{ cls := .type "list", data := .seq vs.toArray }, if_pos rfl⟩)
    · by_cases hb : b = a
      · have z' := (if_pos hb).symm.trans z
        cases z'
        subst hb
        exact ⟨obj, by rw [List.length_map]; exact hl, vs, _, rv, obj⟩
      · have z' := (if_neg hb).symm.trans z
        cases z'
    · by_cases hb : b = a
      · exact hb
      · exact absurd (if_neg hb) z
theorem walkG {l : PySem.W.OpenLaw} {n k : Nat} {q : Program} {loose : List Str} {XP : (Str → Option Value) → Heap → Prop} {YP : World → Heap → Prop} {d : DefRec} {K : Params → PySem.W.Frag} {sp : PySem.W.Frag → Sp} {x : Str}
    (hn : l.most = some n) (hn2 : n ≤ sizeLine) (hdf : d.params.defaults = []) (room : Room k callerA) (hY : ∀ (w : World) (h : Heap), YP w h → (K w.params).In h)
    (F : ∀ (w : World) (mg : Str → Option Value) (fa : Addr) (h : Heap), (K w.params).In h → h.Ns mainGlobals mg → mg d.name = some (.ref fa) →
      ∃ fd : FuncData, (∀ (s : Shared) (u : Value), BindsTo s fd ⟨[u], []⟩ [(x, u)]) ∧
        ∀ base : Heap, (K w.params).In base → base.Ns mainGlobals mg → FnOkG l.prog w (K w.params) mg base k fa fd [x] (sp (K w.params)))
    (hsp : ∀ (K : PySem.W.Frag) (H : Hp) (a : Addr) (ns : List Int), ns.length ≤ n → Only H → SqL K H a (ns.map V.int) → sp K [.ref a] H (fun v _ => v = .bl true) fun _ _ _ => False) :
    PySem.W.WalkO q loose XP YP l.row.toRowW d [] (fun f vs => PySem.call f vs) := by
  refine Att.attach_call hn hdf (fun w s0 s1 mg mb fa o pm cd doc a vs ns G Y ho hd hcd hmg hobj hints hlen hg => ?_)
  have KX := hY w _ Y
  obtain ⟨fd, hb, hF⟩ := F w mg fa _ KX G.T.g hmg
  exact callG KX G.T.g G.T.b G.T.builtins G.T.nolimit hg hobj hints (Nat.le_trans hlen hn2) room hF hb (fun H hO hS => hsp (K w.params) H a ns hlen hO hS)
end
end Rw

set_option Elab.async false
set_option linter.all false
namespace Rw
open PySem PySem.Spec PyProof.Rows L2
section
variable {X : Cx} {K : PySem.W.Frag}
/-- an item read of a list, by a place that counts from its beginning -/
def rGetL (K : PySem.W.Frag) : V → V → Hp → VK → Prop := fun x y H Q => ∃ p xs i v, x = .ref p ∧ y = .int i ∧ SqL K H p xs ∧ 0 ≤ i ∧ atI xs i = some v ∧ Q v H
theorem w_getL (h : X.K = K := by rfl) : PGet X (rGetL K) := by
  subst h
  intro pins s σ H x y v u Q I rx ry h
  obtain ⟨p, xs, i, z, rfl, rfl, hq, h0, he, q⟩ := h
  cases rx
  obtain ⟨t, rfl⟩ := ry
  obtain ⟨its, r, pl, hz⟩ := I.list hq
  obtain ⟨j, h1, h2, h3, h4, h5⟩ := atI_get he
  obtain ⟨w, ew, rw'⟩ := r.get h2
  have hl := r.length
  have hn := line63
  have hj : i.toNat = j := by
    rw [seqIndex_of h0 h5] at h1
    exact Option.some.inj h1
  exact wpAny_getItem_list pl.isList h0 (by omega) (by rw [hj]; simpa using ew) ⟨z, H, I, rw', q⟩
/-- a walk along a list or a tuple -/
def iSeq (K : PySem.W.Frag) (tl : TE) : TI := fun σ H R => iList K tl σ H R ∨ iTup K tl σ H R
theorem w_piS {tg l : Expr} {tl : TE} (hl : PE X l tl) (h : X.K = K := by rfl) : PI X tg l (iSeq K tl) := by
  subst h
  refine ⟨fun pins s σ H R I q => ?_⟩
  rcases q with q | q
  · exact (pi_list hl).run pins s σ H R I q
  · exact (pi_tup hl).run pins s σ H R I q
end
end Rw

set_option Elab.async false
set_option linter.all false
set_option maxRecDepth 100000
set_option maxHeartbeats 2000000
namespace Rw
open PySem PySem.Spec PyProof.Rows L2
section
variable {X : Cx} {K : PySem.W.Frag}
def signV (z : Str) : List V := z.cps.toList.map fun c => V.str ⟨#[c]⟩
theorem vals_signs {z : Str} {acc : Array Value} (h : ItemsOf (SignAt z) acc z.cps.size) : Vals (signV z) acc.toList := by
  refine vals_of_at (by unfold signV; rw [List.length_map, Array.length_toList, Array.length_toList]; exact h.1.symm) fun j x u h1 h2 => ?_
  unfold signV at h1
  rw [List.getElem?_map] at h1
  rw [Array.getElem?_toList] at h2 h1
  obtain ⟨c, t, e, rfl⟩ := h.2 j u h2
  rw [e] at h1
  obtain rfl := Option.some.inj h1
  exact ⟨t, rfl⟩
/-- list(a text) -/
theorem call_listS (hc : X.calm = true) : CallR X (.type "list") (fun xs H Q => ∃ z : Str, xs = [.str z] ∧ z.length ≤ sizeLine ∧ ∀ p, H p = none → Q (.ref p) (upd H p (.lst (signV z)))) := by
  intro pins s σ H xs us Q I r h
  obtain ⟨z, rfl, hz, q⟩ := h
  obtain ⟨u, rfl⟩ : ∃ u, us = [u] := by
    cases r with
    | cons p q => cases q; exact ⟨_, rfl⟩
  obtain ⟨t, rfl⟩ : ∃ t, u = .str z t := by
    cases r with
    | cons p q => exact p
  refine PySem.call_list_str (I.ok.hd hc) z t (fun h' tk acc c' hk e' hi => ?_) hz
  refine ⟨.ref s.heap.objs.size, upd H s.heap.objs.size (.lst (signV z)), I.laid hk (Nat.le_refl _) (show ObjOk X.prog X.w _ _ _ (.lst (signV z)) from ⟨?_, acc.toList, c', vals_signs hi, ?_⟩), rfl, q _ (I.hok.fresh (Nat.le_refl _))⟩
  · unfold signV
    rw [List.length_map, Array.length_toList]
    exact hz
  · rw [Array.toArray_toList]; exact e'
theorem w_bm {o : Expr} {name : Str} {apos cpos : Pos} {e : Expr} {es : List Expr} {T id : String} {r : V → List V → Hp → VK → Prop} {to : TE} {t : TA} (pa : PlainAttrs T) (slot : Slot T name id) (hty : typeOf (.builtin id) = pure (.type "method_descriptor")) (hm : MtR X id r)
    (ho : PE X o to) (ha : PA X (e :: es) t) (h : X.K = K := by rfl)
    (hbase : attributeBase o name X.env (eval o X.env) = eval o X.env := by rfl)
    (hfew : ((backTo cpos (starEach (e :: es) X.env)).all (fun x => !x.1) && (backToKw cpos (keywordEach [] X.env)).all (fun x => x.1.isSome)
      && decide ((e :: es).length + ([] : List Keyword).length + (if ([] : List Keyword).isEmpty then 0 else 1) < 30)) = true := by rfl)
    (hline : (apos.endLine == cpos.line) = true := by rfl) (hs : starEach (e :: es) X.env = (false, eval e X.env) :: starEach es X.env := by rfl) (hplain : (backTo cpos (starEach es X.env)).any (·.1) = false := by rfl) :
    PE X (.Call (.Attribute o name apos) (e :: es) [] cpos) (tBM K T r to t) := by subst h; exact pe_bm pa slot hty hm ho ha hbase hfew hline hs hplain
theorem w_ixA (h : X.K = K := by rfl) : IxR X (rIx K) := by subst h; exact ix_seq
theorem w_maxL (hc : X.calm = true) (h : X.K = K := by rfl) : CallR X (.builtin "max") (rMax K) := by subst h; exact cr_max hc
end
end Rw

set_option Elab.async false
set_option linter.all false
set_option maxRecDepth 100000
set_option maxHeartbeats 2000000
/-! rules of our own: == and != by an own __eq__, of any outcome -/
namespace Rw
open PySem PySem.Spec PyProof.Rows L2
section
variable {prog : Program} {w : World} {A A₀ : Around} {E : Value → Shared → Prop} {s : Shared} {K : PySem.W.Frag} {x C L f : Addr} {h₀ : Heap} {m : Str → Option Value} {ox : Obj} {od : Option Obj} {b tb : Value}
theorem ne_call {Q : Value → Shared → Prop} (hu : A.in1.units < cLine) (X : K.In s.heap) (I : PySem.W.InstAt s.heap x ox C od) (hm : PySem.W.mroIn K C (.type "object") = some true)
    (hs : PySem.W.findIn K (.ref C) "__eq__" = some (some (.ref f))) (hf : PySem.W.isFn K (.ref f) = true)
    (h : wpAny (model prog w) A.in1 (call (.ref f) [.ref x, b]) (fun v s' => ∃ c, v = .bool c ∧ Q (.bool (!c)) s') E s) : wpAny (model prog w) A (call (.builtin "object.__ne__") [.ref x, b]) Q E s := by
  have iv : PySem.W.Looks (model prog w) s.heap (isInstance (.ref x) (.type "object")) true := I.type.andThen (PySem.W.looks_mroIn X hm)
  refine wpAny_call (codeAny_call_builtin PySem.F.cmp_object.ne.plain PySem.F.cmpEntry_ne (@PySem.W.check_slot (model prog w) _ _ _ "object.__ne__" "object" "__ne__" (.ref x) [b] [] _ (by decide +kernel) (by decide +kernel) iv (PySem.F.cmpArgs_ne _ _) ?_))
  unfold Builtin.«object.__ne__»
  repeat (first
    | with_reducible refine wpAny_cRoomFor hu ?_
    | (refine wpAny_bind (m := callSpecialIfBound? (.ref x) (Str.ofString "__eq__") [b])
        (PySem.W.ifBound_K X I hs hf (wpAny_mono h (fun r s' hr => by
          obtain ⟨c, rfl, hq⟩ := hr
          repeat (first | exact hq | exact wpAny_pure hq | exact wpAny_truthy_bool hq | (refine wpAny_bind (m := truthy (.bool _)) (wpAny_truthy_bool ?_)) | wp_step)) fun _ _ e => e)))
    | wp_step)
theorem cmpNe_K {Q : Value → Shared → Prop} (hu : A.units < cLine) (hu1 : A.in1.units < cLine) (F : Fr h₀ L s.heap m) (X₀ : K.In h₀) (I : PySem.W.InstAt s.heap x ox C od) (hb : PySem.W.Looks (model prog w) s.heap (typeOf b) tb) (hn : PySem.W.notFirst K C tb = true)
    (hne : PySem.W.findIn K (.ref C) "__ne__" = some (some (.builtin "object.__ne__"))) (hm : PySem.W.mroIn K C (.type "object") = some true)
    (hs : PySem.W.findIn K (.ref C) "__eq__" = some (some (.ref f))) (hf : PySem.W.isFn K (.ref f) = true)
    (h : wpAny (model prog w) A.in1 (call (.ref f) [.ref x, b]) (fun v s' => ∃ c, v = .bool c ∧ Q (.bool (!c)) s') E s) : wpAny (model prog w) A (richCompare .NotEq (.ref x) b) Q E s := by
  have X := X₀.keeps F.keep
  have sp : PySem.W.Looks (model prog w) s.heap (specialOf (.ref x) "__ne__") (some (.builtin "object.__ne__")) := I.type.andThen (PySem.W.looks_findIn X hne)
  have one : wpAny (model prog w) A (tryCompare (.ref x) "__ne__" b) (fun r s' => ∃ v, r = some v ∧ Q v s') E s := by
    unfold tryCompare
    refine wpAny_bind (NtL.csib sp rfl (ne_call hu1 X I hm hs hf (wpAny_mono h (fun v s' hv => ?_) fun _ _ e => e)))
    obtain ⟨c, rfl, q⟩ := hv
    exact ⟨c, rfl, wpAny_pure ⟨_, rfl, q⟩⟩
  unfold richCompare
  simp only [oneThing_ref]
  refine wpAny_holding (wpAny_bind (wpAny_cRoomFor hu ?_))
  refine wpAny_bind (I.type.here (wpAny_bind (hb.here ?_)))
  split
  · rename_i q
    have e : PySem.W.subIn K tb (.ref C) = some false := by
      rcases Bool.or_eq_true_iff.mp hn with e | e
      · rw [beq_iff_eq.mp e] at q; simp at q
      · exact beq_iff_eq.mp e
    refine wpAny_bind ((PySem.W.looks_subIn X e).here ?_)
    simp only [Bool.false_eq_true, if_false]
    refine wpAny_bind (wpAny_mono one (fun r s' z => ?_) fun _ _ e => e)
    obtain ⟨v, rfl, hq⟩ := z
    exact wpAny_pure hq
  · refine wpAny_bind (wpAny_pure ?_)
    simp only [Bool.false_eq_true, if_false]
    refine wpAny_bind (wpAny_mono one (fun r s' z => ?_) fun _ _ e => e)
    obtain ⟨v, rfl, hq⟩ := z
    exact wpAny_pure hq
end
section
variable {X : Cx} {CX : CXT} {k : Nat} {f C : Addr} {fd : FuncData} {ps : List Str} {sp : Sp} {E : XK}
/-- what may stand at the right of an own == -/
def Beside (K : PySem.W.Frag) (C : Addr) (y : V) (H : Hp) : Prop :=
  (∃ b D dy gs, y = .ref b ∧ H b = some (.ins D dy gs) ∧ PySem.W.notFirst K C (.ref D) = true) ∨ ∃ b xs, y = .ref b ∧ SqT K H b xs ∧ PySem.W.notFirst K C (.type "tuple") = true
theorem Beside.look {pins : List (Addr × Obj)} {σ : L2.St} {H : Hp} {s : Shared} {y : V} {u : Value} (I : Inv X pins σ H s) (r : RelV y u) (h : Beside X.K C y H) :
    ∃ b tb, u = .ref b ∧ PySem.W.Looks (model X.prog X.w) s.heap (typeOf u) tb ∧ PySem.W.notFirst X.K C tb = true := by
  rcases h with ⟨b, D, dy, gs, rfl, hb, hn⟩ | ⟨b, xs, rfl, hb, hn⟩
  · cases r
    obtain ⟨mB, J', _⟩ := ins_get I.hok hb
    obtain ⟨od', J', _⟩ := J'.look
    exact ⟨b, _, rfl, J'.type, hn⟩
  · cases r
    obtain ⟨its, r, ⟨o, ho, hc, _⟩, hs⟩ := I.tuple hb
    refine ⟨b, .type "tuple", rfl, ?_, hn⟩
    rw [← hc]
    exact (PySem.W.Looks.ld ho).andThen .now
def rEqO (C : Addr) (K : PySem.W.Frag) (sp : Sp) (E : XK) (neg : Bool) : R2 := fun x y H Q => ∃ a dx fs, x = .ref a ∧ H a = some (.ins C dx fs) ∧ Beside K C y H ∧ sp [x, y] H (fun v H2 => ∃ c, v = .bl c ∧ Q (.bl (if neg = true then !c else c)) H2) E
theorem op_eqO (F : FnOk X.prog X.w X.K X.mg X.base CX k f fd ps sp) (room : Room (k + 1) X.A)
    (hs : PySem.W.findIn X.K (.ref C) "__eq__" = some (some (.ref f))) (hf : PySem.W.isFn X.K (.ref f) = true) (hb : L2.Binds X.K fd ps []) (hx : Passes CX X E) : OpR X (compareOp .Eq) (rEqO C X.K sp E false) := by
  intro pins s σ H x y v u Q I rx ry h
  obtain ⟨a, dx, fs, rfl, ha, hbs, hsp⟩ := h
  cases rx
  obtain ⟨b, tb, rfl, lk, hn⟩ := hbs.look I ry
  obtain ⟨mA, J, _⟩ := ins_get I.hok ha
  obtain ⟨od, J, _⟩ := J.look
  obtain ⟨m, hF⟩ := I.fr
  refine PySem.W.cmp_K (op := .Eq) (tb := tb) room.units0 hF I.ok.mod.kin J lk hn hs hf ?_
  have hl := F.len _ _ _ _ hsp
  refine wpAny_call (codeAny_mono (F.run X.A X.stack s H ⟨[.ref a, .ref b], []⟩ [.ref a, .ref b] [.ref a, y] _ E (room.mono (Nat.le_succ k)) I.env0 (by
    have := hb s [.ref a, .ref b] I.kIn (by simpa using hl)
    simpa using this) (.cons rfl (.cons ry .nil)) hsp) fun r s' hq => ?_)
  cases r with
  | error e => exact hx pins σ H s e s' I hq
  | ok fl =>
    cases fl with
    | ret w =>
      obtain ⟨z, H', I', rz, c, ez, hQ⟩ := I.after hq
      subst ez
      cases rz
      exact ⟨.bl c, H', I', rfl, hQ⟩
    | next => exact False.elim hq
    | brk => exact False.elim hq
    | cont => exact False.elim hq
theorem op_neO (F : FnOk X.prog X.w X.K X.mg X.base CX k f fd ps sp) (room : Room (k + 1) X.A)
    (hs : PySem.W.findIn X.K (.ref C) "__eq__" = some (some (.ref f))) (hf : PySem.W.isFn X.K (.ref f) = true)
    (hne : PySem.W.findIn X.K (.ref C) "__ne__" = some (some (.builtin "object.__ne__"))) (hm : PySem.W.mroIn X.K C (.type "object") = some true)
    (hb : L2.Binds X.K fd ps []) (hx : Passes CX X E) : OpR X (compareOp .NotEq) (rEqO C X.K sp E true) := by
  intro pins s σ H x y v u Q I rx ry h
  obtain ⟨a, dx, fs, rfl, ha, hbs, hsp⟩ := h
  cases rx
  obtain ⟨b, tb, rfl, lk, hn⟩ := hbs.look I ry
  obtain ⟨mA, J, _⟩ := ins_get I.hok ha
  obtain ⟨od, J, _⟩ := J.look
  obtain ⟨m, hF⟩ := I.fr
  refine cmpNe_K (tb := tb) room.units0 room.in1.units0 hF I.ok.mod.kin J lk hn hne hm hs hf ?_
  have hl := F.len _ _ _ _ hsp
  refine wpAny_call (codeAny_mono (F.run X.A.in1 X.stack s H ⟨[.ref a, .ref b], []⟩ [.ref a, .ref b] [.ref a, y] _ E room.in1 I.env0.in1 (by
    have := hb s [.ref a, .ref b] I.kIn (by simpa using hl)
    simpa using this) (.cons rfl (.cons ry .nil)) hsp) fun r s' hq => ?_)
  cases r with
  | error e => exact hx pins σ H s e s' I hq
  | ok fl =>
    cases fl with
    | ret w =>
      obtain ⟨z, H', I', rz, c, ez, hQ⟩ := I.after hq
      subst ez
      cases rz
      exact ⟨c, rfl, .bl (!c), H', I', rfl, hQ⟩
    | next => exact False.elim hq
    | brk => exact False.elim hq
    | cont => exact False.elim hq
end
end Rw

set_option Elab.async false
set_option linter.all false
set_option maxRecDepth 100000
set_option maxHeartbeats 4000000
/-! rules of our own: zip of lists and tuples in any mix; bool of an own instance -/
namespace Rw
open PySem PySem.Spec PyProof.Rows L2
/-- a list, or a tuple -/
def SqB (K : PySem.W.Frag) (t : Bool) (H : Hp) (a : Addr) (xs : List V) : Prop := match t with
  | true => SqL K H a xs
  | false => SqT K H a xs
def ItB (t : Bool) (h : Heap) (i a : Addr) (k : Nat) : Prop := match t with
  | true => h.IsListIter i a k
  | false => h.IsTupleIter i a k
def IsB (t : Bool) (h : Heap) (a : Addr) (its : Array Value) : Prop := match t with
  | true => h.IsList a its
  | false => h.IsTuple a its
def obB (t : Bool) (a : Addr) : Obj := match t with
  | true => { cls := .type "list_iterator", data := .fields #[.ref a, .int 0 0] }
  | false => { cls := .type "tuple_iterator", data := .fields #[.ref a, .int 0 0] }
theorem ItB.at {t : Bool} {h h' : Heap} {i a : Addr} {k : Nat} (x : ItB t h i a k) (f : ∀ o, h.get? i = some o → h'.get? i = some o) : ItB t h' i a k := by
  cases t with
  | true => exact Heap.IsListIter.at (x : h.IsListIter i a k) f
  | false => exact Heap.IsTupleIter.at (x : h.IsTupleIter i a k) f
theorem ItB.ob {t : Bool} {h : Heap} {i a : Addr} {k : Nat} (x : ItB t h i a k) : ∃ o, h.get? i = some o ∧ ∀ v, o.data ≠ .cell v := by
  cases t with
  | true =>
    obtain ⟨o1, e1, _, d1⟩ := (x : h.IsListIter i a k)
    exact ⟨o1, e1, fun v q => by rw [d1] at q; cases q⟩
  | false =>
    obtain ⟨o1, e1, _, d1⟩ := (x : h.IsTupleIter i a k)
    exact ⟨o1, e1, fun v q => by rw [d1] at q; cases q⟩
theorem drB (t : Bool) {prog : Program} {w : World} {A : Around} (hh : A.handled = none) (it l : Addr) (hne : l ≠ it) (items : Array Value) :
    Draws prog w A it [it, l] items.size (fun i v => items[i]? = some v) (fun i h => ItB t h it l i ∧ IsB t h l items) := by
  cases t with
  | true => exact Draws.list hh it l hne items
  | false => exact Draws.tuple hh it l hne items
theorem beB (t : Bool) (l : Addr) (items : Array Value) : Begins (.ref l) (obB t l) fun h => IsB t h l items := by
  cases t with
  | true => exact begins_list l items
  | false => exact begins_tuple l items
theorem itB0 (t : Bool) {h : Heap} {i l : Addr} (e : h.get? i = some (obB t l)) : ItB t h i l 0 := by
  cases t with
  | true => exact ⟨_, e, rfl, rfl⟩
  | false => exact ⟨_, e, rfl, rfl⟩
theorem Inv_sqB {X : Cx} {pins : List (Addr × Obj)} {σ : L2.St} {H : Hp} {s : Shared} (I : Inv X pins σ H s) {t : Bool} {a : Addr} {xs : List V} (h : SqB X.K t H a xs) :
    ∃ its : List Value, Vals xs its ∧ IsB t s.heap a its.toArray ∧ a < s.heap.objs.size := by
  cases t with
  | true =>
    obtain ⟨its, rv, p, _⟩ := I.list h
    exact ⟨its, rv, p.isList, p.lt⟩
  | false =>
    obtain ⟨its, rv, p, _⟩ := I.tuple h
    obtain ⟨o1, ho1, _⟩ := id p
    exact ⟨its, rv, p, Heap.lt_size ho1⟩
theorem Inv_injB {X : Cx} {pins : List (Addr × Obj)} {σ : L2.St} {H : Hp} {s : Shared} (I : Inv X pins σ H s) {t : Bool} {a : Addr} {xs ys : List V} (h : SqB X.K t H a xs) (h' : SqB X.K t H a ys) : xs = ys := by
  cases t with
  | true => exact I.list_inj h h'
  | false => exact I.tuple_inj h h'
/-- a and b as they stand at each turn, the items in new pairs -/
def ItzM (K : PySem.W.Frag) (t1 t2 : Bool) (a b : Addr) : It :=
  ⟨fun i H => ∃ (xs ys : List V) (x y : V), SqB K t1 H a xs ∧ SqB K t2 H b ys ∧ xs[i]? = some x ∧ ys[i]? = some y,
    fun i H v H' => ∃ T x y, v = .ref T ∧ H T = none ∧ H' = upd H T (.tup [x, y]) ∧ (∀ xs, SqB K t1 H a xs → xs[i]? = some x) ∧ ∀ ys, SqB K t2 H b ys → ys[i]? = some y,
    fun i H => ∃ xs ys : List V, SqB K t1 H a xs ∧ SqB K t2 H b ys ∧ xs.length = i ∧ ys.length = i⟩
theorem turn_zipM {P : Program} {w : World} {K : PySem.W.Frag} {elts : List Expr} {kk : Nat} {tpos : Pos} {t1 t2 : Bool} {a b z TI TO i1 i2 : Addr} (D : ZipSep2 z TI TO i1 i2 [i1, a] [i2, b]) (n1 : a ≠ i1) (n2 : b ≠ i2) :
    Turn P w K (.Tuple elts kk tpos) (ItzM K t1 t2 a b) [z, TI, TO, i1, i2] z (fun i h => IsZip h z TI TO .none ∧ IsTupOf2 h TI (.ref i1) (.ref i2) ∧ (∃ x y, IsTupOf2 h TO x y) ∧ ItB t1 h i1 a i ∧ ItB t2 h i2 b i) where
  mem := by simp
  obj := fun i h st c hc => by
    obtain ⟨hz, hTI, ⟨x, y, hTO⟩, h1, h2⟩ := st
    have e' : c = z ∨ c = TI ∨ c = TO ∨ c = i1 ∨ c = i2 := by simpa using hc
    rcases e' with q | q | q | q | q
    · rw [q]; exact ⟨_, hz, fun v q => nomatch q⟩
    · rw [q]; exact ⟨_, hTI, fun v q => nomatch q⟩
    · rw [q]; exact ⟨_, hTO, fun v q => nomatch q⟩
    · rw [q]; exact h1.ob
    · rw [q]; exact h2.ob
  keep := fun i h h' st k => by
    obtain ⟨hz, hTI, ⟨x, y, hTO⟩, h1, h2⟩ := st
    exact ⟨k z (by simp) _ hz, k TI (by simp) _ hTI, ⟨x, y, k TO (by simp) _ hTO⟩, h1.at fun o q => k i1 (by simp) o q, h2.at fun o q => k i2 (by simp) o q⟩
  item := by
    intro X hP hw hK hc i pins s σ H E I hf st hg
    subst hP hw hK
    obtain ⟨hz, hTI, ⟨x0, y0, hTO⟩, h1, h2⟩ := st
    obtain ⟨xs, ys, x, y, hqx, hqy, hx, hy⟩ := hg
    obtain ⟨its, rv, p, _⟩ := Inv_sqB I hqx
    obtain ⟨its2, rv2, p2, _⟩ := Inv_sqB I hqy
    obtain ⟨u, hu, ru⟩ := rv.get hx
    obtain ⟨u2, hu2, ru2⟩ := rv2.get hy
    have hzl : z < s.heap.objs.size := Heap.lt_size hz
    have hh : X.A.in1.handled = none := I.ok.hd hc
    have hu' : its.toArray[i]? = some u := by simpa using hu
    have hu2' : its2.toArray[i]? = some u2 := by simpa using hu2
    have hl1 : i < its.toArray.size := (Array.getElem?_eq_some_iff.mp hu').1
    have hl2 : i < its2.toArray.size := (Array.getElem?_eq_some_iff.mp hu2').1
    refine wpAny_pyNext_zipD2_item D (drB t1 hh i1 a n1 its.toArray) (drB t2 hh i2 b n2 its2.toArray) hz hTI hTO ⟨h1, p⟩ ⟨h2, p2⟩ hl1 hl2 fun x1 x2 h' tk e1 e2 z' TO' h1' h2' hT hsz hk => ?_
    obtain rfl : x1 = u := Option.some.inj (e1.symm.trans hu')
    obtain rfl : x2 = u2 := Option.some.inj (e2.symm.trans hu2')
    refine ⟨_, rfl, wpAny_letOwnedTupleGo_zip (s := { s with heap := h', toks := tk }) z' fun h'' z'' sb => ?_⟩
    have hT2 : h''.get? s.heap.objs.size = some { cls := .type "tuple", data := .seq #[x1, x2] } := (sb.2 _ (Nat.ne_of_gt hzl)).trans hT
    have new : ObjOk X.prog X.w (upd H s.heap.objs.size (.tup [x, y])) h'' s.heap.objs.size (.tup [x, y]) :=
      ⟨by show 2 ≤ sizeLine; decide, [x1, x2], .cons ru (.cons ru2 .nil), ⟨_, hT2, rfl, _, rfl⟩⟩
    have I1 : Inv X pins σ (upd H s.heap.objs.size (.tup [x, y])) { s with heap := h'', toks := tk } :=
      I.turnedNew (t' := tk) (ch := [z, TI, TO, i1, i2]) (fun c o hb q => (sb.2 c (fun q' => hb (by simp [q']))).trans (hk c o (fun q' => hb (by simp [q'])) (fun q' => hb (by simp [q'])) (fun q' => hb (by simp [q'])) (fun q' => hb (by simp [q'])) q)) hf (Nat.le_refl _) new
    refine ⟨.ref s.heap.objs.size, _, I1, rfl, ⟨_, x, y, rfl, I.hok.fresh (Nat.le_refl _), rfl, fun l hl => by rw [Inv_injB I hl hqx]; exact hx, fun l hl => by rw [Inv_injB I hl hqy]; exact hy⟩, ⟨z'', ?_, ⟨x1, x2, ?_⟩, ?_, ?_⟩, fun c hcm => ?_⟩
    · exact (sb.2 _ D.TIz).trans (hk _ _ D.TIz D.TITO D.TIi1 D.TIi2 hTI)
    · exact (sb.2 _ D.TOz).trans TO'
    · exact h1'.1.at fun o q => (sb.2 _ D.zi1.symm).trans q
    · exact h2'.1.at fun o q => (sb.2 _ D.zi2.symm).trans q
    · have hlt : c < s.heap.objs.size := by
        have e' : c = z ∨ c = TI ∨ c = TO ∨ c = i1 ∨ c = i2 := by simpa using hcm
        rcases e' with q | q | q | q | q
        · rw [q]; exact hzl
        · rw [q]; exact Heap.lt_size hTI
        · rw [q]; exact Heap.lt_size hTO
        · rw [q]; obtain ⟨_, e1, _⟩ := h1.ob; exact Heap.lt_size e1
        · rw [q]; obtain ⟨_, e2, _⟩ := h2.ob; exact Heap.lt_size e2
      rw [upd_ne (Nat.ne_of_lt hlt)]
      exact (hf c hcm).1
  done := by
    intro X hP hw hK hc i pins s σ H E I hf st hg
    subst hP hw hK
    obtain ⟨hz, hTI, ⟨x0, y0, hTO⟩, h1, h2⟩ := st
    obtain ⟨xs, ys, hqx, hqy, e1, e2⟩ := hg
    obtain ⟨its, rv, p, _⟩ := Inv_sqB I hqx
    obtain ⟨its2, rv2, p2, _⟩ := Inv_sqB I hqy
    have l1 := rv.length
    have l2 := rv2.length
    have hh : X.A.in1.handled = none := I.ok.hd hc
    have s1 : i = its.toArray.size := by simp; omega
    have s2 : i = its2.toArray.size := by simp; omega
    exact wpAny_pyNext_zipD2_end D (drB t1 hh i1 a n1 its.toArray) (drB t2 hh i2 b n2 its2.toArray) hz hTI hTO ⟨h1, p⟩ ⟨h2, p2⟩ (by omega) (by omega) (.inl s1) fun h' tk hk => ⟨rfl, I.turnedL (t' := tk) (ch := [z, TI, TO, i1, i2]) (fun c o hb q =>
      hk c o (fun q' => hb (by simp [q'])) (fun q' => hb (by simp [q'])) (fun q' => hb (by simp [q'])) (fun q' => hb (by simp [q'])) q) hf⟩
  self := fun A i s Q E st h => wpAny_pyIter_zip st.1 h
def iZipM (K : PySem.W.Frag) (ta : TA) : TI := fun σ H R => ta σ H fun vs H1 => ∃ (t1 t2 : Bool) (a b : Addr) (xs ys : List V), vs = [.ref a, .ref b] ∧ SqB K t1 H1 a xs ∧ SqB K t2 H1 b ys ∧ R (ItzM K t1 t2 a b) H1
theorem pi_zipM {X : Cx} {K : PySem.W.Frag} {e e2 : Expr} {ta : TA} {p pos tpos : Pos} {elts : List Expr} {kk : Nat} (hK : X.K = K) (hg : Gl X "zip") (hm : X.mg "zip" = none) (ha : PA X [e, e2] ta)
    (hs : starEach [e, e2] X.env = (false, eval e X.env) :: starEach [e2] X.env := by rfl) (hpl : (backTo pos (starEach [e2] X.env)).any (·.1) = false := by rfl) :
    PI X (.Tuple elts kk tpos) (.Call (.Name "zip" p) [e, e2] [] pos) (iZipM K ta) := by
  subst hK
  refine ⟨fun pins s σ H R I h => ?_⟩
  refine Call_ (ld_blt I hg hm PyProof.Rows.boot_zip (PyProof.Rows.callWith_type1 (thn (ha.run pos pins s σ H _ I h) fun us s1 ⟨vs, H1, I1, r1, q1⟩ => ?_) hs hpl))
  obtain ⟨t1, t2, a, b, xs, ys, ex, hqx, hqy, q⟩ := q1
  subst ex
  cases r1 with
  | cons r rr =>
    cases rr with
    | cons r' rr =>
      cases rr
      cases r
      cases r'
      obtain ⟨its, rv, p1, la⟩ := Inv_sqB I1 hqx
      obtain ⟨its2, rv2, p2, lb⟩ := Inv_sqB I1 hqy
      refine zip_begins2 (beB t1 a its.toArray) (beB t2 b its2.toArray) p1 p2 fun h' hz hTI hTO g1 g2 hsz hk => wpAny_pyIter_zip hz ?_
      have I2 : Inv X pins σ H1 { s1 with heap := h' } := I1.kept (t' := s1.toks) hk
      have D : ZipSep2 (s1.heap.objs.size + 4) (s1.heap.objs.size + 2) (s1.heap.objs.size + 3) s1.heap.objs.size (s1.heap.objs.size + 1) [s1.heap.objs.size, a] [s1.heap.objs.size + 1, b] :=
        zip_sep2 (fp1 := [a]) (fp2 := [b]) (fun c hc => by rw [List.mem_singleton.mp hc]; exact la) (fun c hc => by rw [List.mem_singleton.mp hc]; exact lb)
      refine ⟨s1.heap.objs.size + 4, [s1.heap.objs.size + 4, s1.heap.objs.size + 2, s1.heap.objs.size + 3, s1.heap.objs.size, s1.heap.objs.size + 1], _, _, H1, rfl, I2, turn_zipM D (Nat.ne_of_lt la) (Nat.ne_of_lt (Nat.lt_succ_of_lt lb)), ⟨hz, hTI, ⟨_, _, hTO⟩, itB0 t1 g1, itB0 t2 g2⟩, fun c hcm => ?_, q⟩
      have e' : c = s1.heap.objs.size + 4 ∨ c = s1.heap.objs.size + 2 ∨ c = s1.heap.objs.size + 3 ∨ c = s1.heap.objs.size ∨ c = s1.heap.objs.size + 1 := by simpa using hcm
      have hle : s1.heap.objs.size ≤ c := by
        rcases e' with z | z | z | z | z
        · rw [z]; exact Nat.le_add_right _ _
        · rw [z]; exact Nat.le_add_right _ _
        · rw [z]; exact Nat.le_add_right _ _
        · rw [z]; exact Nat.le_refl _
        · rw [z]; exact Nat.le_add_right _ _
      exact I1.fpOk hle (I1.hok.fresh hle)
/-! ### bool of an own instance without a truth of its own -/
section
variable {prog : Program} {w : World} {A : Around} {E : Value → Shared → Prop} {s : Shared} {K : PySem.W.Frag} {x C : Addr} {ox : Obj} {od : Option Obj}
theorem truthy_ins {Q : Bool → Shared → Prop} (X : K.In s.heap) (I : PySem.W.InstAt s.heap x ox C od) (hb : PySem.W.findIn K (.ref C) "__bool__" = some none) (hl : PySem.W.findIn K (.ref C) "__len__" = some none) (h : Q true s) :
    wpAny (model prog w) A (truthy (.ref x)) Q E s := by
  have hsp : ∀ {Q' : Option Value → Shared → Prop}, Q' none s → wpAny (model prog w) A (specialOf (.ref x) "__len__") Q' E s := fun q => by
    unfold specialOf
    exact wpAny_bind (I.type.here ((PySem.W.looks_findIn X hl).here q))
  unfold truthy
  first
    | refine wpAny_bind (DSub.special_no (name := Str.ofString "__bool__") X I hb ?_)
    | refine wpAny_bind (wpAny_pure (wpAny_bind (DSub.special_no (name := Str.ofString "__bool__") X I hb ?_)))
  first
    | refine wpAny_bind (hsp ?_)
    | refine wpAny_bind (wpAny_pure (wpAny_bind (hsp ?_)))
  exact wpAny_pure h
theorem meets_bool_ins (hb : PySem.W.findIn K (.ref C) "__bool__" = some none) (hl : PySem.W.findIn K (.ref C) "__len__" = some none) :
    Meets (Builtin.«bool.__new__» ⟨[.type "bool", .ref x], []⟩) (fun _ R s => K.In s.heap ∧ PySem.W.InstAt s.heap x ox C od ∧ R (.ok (.ret (.bool true))) s) :=
  Meets.of_wp fun prog w A R s hs => by
    obtain ⟨X, I, hs⟩ := hs
    obtain ⟨hp, g, d, tk, os⟩ := s
    have f1 := F.conv_sub_bool
    repeat (any_goals (first | assumption | (with_reducible refine truthy_ins X I hb hl ?_) | wp_step))
    all_goals first | exact ⟨_, rfl, hs⟩ | exact hs | skip
end
theorem call_boolO {X : Cx} {C : Addr} (hb : PySem.W.findIn X.K (.ref C) "__bool__" = some none) (hl : PySem.W.findIn X.K (.ref C) "__len__" = some none) :
    CallR X (.type "bool") (fun xs H Q => ∃ a dx fs, xs = [.ref a] ∧ H a = some (.ins C dx fs) ∧ Q (.bl true) H) := by
  intro pins s σ H xs us Q I r h
  obtain ⟨a, dx, fs, rfl, ha, q⟩ := h
  obtain rfl := Vals.ref1 r
  obtain ⟨mA, J, _⟩ := ins_get I.hok ha
  obtain ⟨od, J, _⟩ := J.look
  exact PySem.call_bool_1 (meets_bool_ins hb hl) ⟨I.kIn, J, rfl, .bl true, H, I, rfl, q⟩
end Rw

set_option Elab.async false
set_option linter.all false
set_option maxRecDepth 100000
set_option maxHeartbeats 4000000
namespace Rw
open PySem PySem.Spec PyProof.Rows L2
abbrev ZAt (h : Heap) (z TI TO : Addr) (f0 : Value) (fl : Bool) : Prop := h.get? z = some { cls := .type "zip", data := .fields #[f0, .bool fl, .bool false, .ref TI, .ref TO] }
abbrev ItL := List (Addr × Addr × Array Value)
def itsV (L : ItL) : Array Value := (L.map fun e => Value.ref e.1).toArray
section
variable {prog : Program} {w : World} {A : Around} {E : Value → Shared → Prop} {s : Shared}
theorem wpAny_loadIfAlive {M : Model} {a : Addr} {Q : Option Obj → Shared → Prop} (h : Q (s.heap.get? a) s) : wpAny M A (loadIfAlive a) Q E s := fun _ _ _ => by
  unfold loadIfAlive
  simpa using h
theorem zipN_next {z TI TO T : Addr} {fl : Bool} {oT : Obj} {L : ItL} {i : Nat} {val : Addr × Addr × Array Value → Value} {Q : Value → Shared → Prop}
    (hv : ∀ e ∈ L, e.2.2[i]? = some (val e)) (hnd : (L.map fun e => e.1).Nodup) (htn : ∀ e ∈ L, ∀ e' ∈ L, e.2.1 ≠ e'.1) (hzn : ∀ e ∈ L, z ≠ e.1) (hit : ∀ e ∈ L, s.heap.IsTupleIter e.1 e.2.1 i) (htp : ∀ e ∈ L, s.heap.IsTuple e.2.1 e.2.2) (hzt : ∀ e ∈ L, z ≠ e.2.1)
    (hz : ZAt s.heap z TI TO (rawInt T) fl) (hT : s.heap.get? T = some oT) (hTI : s.heap.get? TI = some { cls := .type "tuple", data := .seq (itsV L) }) (hne : L ≠ []) (hsl : L.length ≤ sizeLine)
    (hQ : ∀ h', ZAt h' z TI TO (rawInt T) true → h'.get? s.heap.objs.size = some { cls := .type "tuple", data := .seq (L.map val).toArray } → (∀ e ∈ L, h'.IsTupleIter e.1 e.2.1 (i + 1)) → h'.objs.size = s.heap.objs.size + 1 →
      (∀ c o, c ≠ z → (∀ e ∈ L, c ≠ e.1) → s.heap.get? c = some o → h'.get? c = some o) → Q (.ref s.heap.objs.size) { s with heap := h' }) :
    wpAny (model prog w) A (Builtin.«zip.__next__» ⟨[.ref z], []⟩) (fun fin s' => ∃ v, fin = .done (.ret v) ∧ Q v s') E s := by
  obtain ⟨hp, g, d, tk, os⟩ := s
  show wpAny _ _ (field (.ref z) 2 >>= _) _ _ _
  refine wpAny_bind (wpAny_field hz rfl (x := .bool false) rfl ?_)
  show wpAny _ _ (field (.ref z) 3 >>= _) _ _ _
  refine wpAny_bind (wpAny_field hz rfl (x := .ref TI) rfl ?_)
  refine wpAny_bind (wpAny_seqItems hTI rfl ?_)
  have ne : (itsV L).isEmpty = false := by
    cases L with
    | nil => exact absurd rfl hne
    | cons a l => simp [itsV]
  simp only [ne, Bool.false_eq_true, if_false]
  show wpAny _ _ (Builtin.SmallTypes.ownedTupleIsFree (.ref z) >>= _) _ _ _
  have hf : wpAny (model prog w) A (Builtin.SmallTypes.ownedTupleIsFree (.ref z)) (fun b s' => b = false ∧ ∃ h', s' = { heap := h', gens := g, drawn := d, toks := tk, os := os } ∧ ZAt h' z TI TO (rawInt T) true ∧ Heap.SameBut z hp h') E ⟨hp, g, d, tk, os⟩ := by
    unfold Builtin.SmallTypes.ownedTupleIsFree
    refine wpAny_bind (wpAny_field hz rfl (x := rawInt T) rfl ?_)
    show wpAny _ _ (loadIfAlive ((T : Nat) : Int).toNat >>= _) _ _ _
    refine wpAny_bind (wpAny_loadIfAlive ?_)
    rw [Int.toNat_natCast, hT]
    show wpAny _ _ (field (Value.ref z) 1 >>= _) _ _ _
    refine wpAny_bind (wpAny_field hz rfl (x := .bool fl) rfl ?_)
    cases fl with
    | true =>
      show wpAny _ _ (if (Value.bool true != Value.bool true) = true then _ else _) _ _ _
      rw [if_neg (by simp)]
      exact wpAny_pure ⟨rfl, hp, rfl, hz, Heap.SameBut.refl _ _⟩
    | false =>
      show wpAny _ _ (if (Value.bool false != Value.bool true) = true then _ else _) _ _ _
      rw [if_pos (by simp)]
      refine wpAny_bind (wpAny_setField_rec hz (by simp) fun h' hz' hs' => wpAny_pure ⟨rfl, h', rfl, hz', hs'⟩)
  refine wpAny_bind (wpAny_mono hf (fun b s' hb => ?_) fun _ _ e => e)
  obtain ⟨rfl, h', rfl, hz', hs'⟩ := hb
  simp only [Bool.false_eq_true, if_false]
  let I : List Value → (Option Fin × Array Value) → Shared → Prop := fun rest b s' => ∃ (done todo : ItL) (h2 : Heap), L = done ++ todo ∧ rest = todo.map (fun e => Value.ref e.1) ∧ b = (none, (done.map val).toArray) ∧ s' = ⟨h2, g, d, tk, os⟩ ∧
    (∀ e ∈ done, h2.IsTupleIter e.1 e.2.1 (i + 1)) ∧ (∀ e ∈ todo, h2.IsTupleIter e.1 e.2.1 i) ∧ (∀ e ∈ L, h2.IsTuple e.2.1 e.2.2) ∧ h2.objs.size = hp.objs.size ∧ ∀ c o, (∀ e ∈ L, c ≠ e.1) → h'.get? c = some o → h2.get? c = some o
  refine wpAny_bind (wpAny_forIn_array' _ I _ ?_ ?_ (itsV L) (none, #[]) ?_)
  · rintro x rest b s' ⟨done, todo, h2, eL, er, rfl, rfl, hd, ht, htu, hsz, hk⟩
    cases todo with
    | nil => cases er
    | cons e todo =>
      rw [List.map_cons] at er
      injection er with e1 e2
      subst e1 e2
      have eL' : e ∈ L := by rw [eL]; simp
      refine wpAny_bind (wpAny_holding ?_)
      show wpAny _ _ (Builtin.SmallTypes.nextOf (.ref e.1) >>= _) _ _ _
      refine wpAny_bind (RZ.nextOf_tuple_item (ht e (List.mem_cons_self ..)) (htu e eL') (hv e eL') fun h3 hit3 hs3 => wpAny_pure (wpAny_pure ?_))
      have nd := hnd
      rw [eL, List.map_append, List.map_cons] at nd
      obtain ⟨nd1, nd2, nd3⟩ := List.nodup_append.mp nd
      refine ⟨done ++ [e], todo, h3, by rw [eL]; simp, rfl, by simp, rfl, ?_, ?_, ?_, hs3.1.trans hsz, ?_⟩
      · intro e' he'
        rcases List.mem_append.mp he' with h | h
        · exact (hd e' h).at fun o q => hs3.extBut _ _ (nd3 _ (List.mem_map.mpr ⟨e', h, rfl⟩) _ (List.mem_cons_self ..)) q
        · rw [List.mem_singleton.mp h]
          exact hit3
      · intro e' he'
        have n2 : e'.1 ≠ e.1 := fun z => (List.nodup_cons.mp nd2).1 (by rw [← z]; exact List.mem_map.mpr ⟨e', he', rfl⟩)
        exact (ht e' (List.mem_cons_of_mem _ he')).at fun o q => hs3.extBut _ _ n2 q
      · intro e' he'
        exact (htu e' he').at fun o q => hs3.extBut _ _ (htn e' he' e eL') q
      · intro c o hc q
        exact hs3.extBut _ _ (hc e eL') (hk c o hc q)
  · rintro b s' ⟨done, todo, h2, eL, er, rfl, rfl, hd, ht, htu, hsz, hk⟩
    obtain rfl : todo = [] := by
      cases todo with
      | nil => rfl
      | cons a l => cases er
    rw [List.append_nil] at eL
    subst eL
    show wpAny _ _ (newTuple (L.map val).toArray.toList >>= fun v => ret v) _ _ _
    refine wpAny_bind (wpAny_newTuple (s := ⟨h2, g, d, tk, os⟩) ?_ (by simpa using hsl))
    refine wpAny_pure ⟨_, rfl, ?_⟩
    show Q (.ref h2.objs.size) _
    rw [hsz]
    have hlt : ∀ {c o}, h2.get? c = some o → (h2.push { cls := .type "tuple", data := .seq (L.map val).toArray.toList.toArray }).get? c = some o := fun e => Heap.get?_push_of_some _ e
    refine hQ _ (hlt (hk z _ hzn hz')) ?_ (fun e he => (hd e he).at fun o q => hlt q) (by rw [Heap.size_push, hsz]) fun c o hc1 hc2 q => hlt (hk c o hc2 (hs'.extBut _ _ hc1 q))
    have := Heap.get?_push_size h2 (o := { cls := .type "tuple", data := .seq (L.map val).toArray.toList.toArray }) rfl
    rw [hsz] at this
    simpa using this
  · exact ⟨[], L, h', rfl, by simp [itsV], rfl, rfl, fun e h => by simp at h, fun e he => (hit e he).at fun o q => hs'.extBut _ _ (fun z1 => hzn e he z1.symm) q, fun e he => (htp e he).at fun o q => hs'.extBut _ _ (fun z1 => hzt e he z1.symm) q, hs'.1, fun c o _ q => q⟩


theorem zipF_next {z TI TO : Addr} {L : ItL} {i : Nat} {val : Addr × Addr × Array Value → Value} {Q : Value → Shared → Prop}
    (hv : ∀ e ∈ L, e.2.2[i]? = some (val e)) (hnd : (L.map fun e => e.1).Nodup) (htn : ∀ e ∈ L, ∀ e' ∈ L, e.2.1 ≠ e'.1) (hzn : ∀ e ∈ L, z ≠ e.1) (hit : ∀ e ∈ L, s.heap.IsTupleIter e.1 e.2.1 i) (htp : ∀ e ∈ L, s.heap.IsTuple e.2.1 e.2.2) (hzt : ∀ e ∈ L, z ≠ e.2.1)
    (hTn : ∀ e ∈ L, TO ≠ e.1) (hTt : ∀ e ∈ L, TO ≠ e.2.1) (hTz : TO ≠ z)
    (hz : ZAt s.heap z TI TO .none false) (hTO : s.heap.get? TO = some { cls := .type "tuple", data := .seq (List.replicate L.length Value.none).toArray }) (hTI : s.heap.get? TI = some { cls := .type "tuple", data := .seq (itsV L) }) (hne : L ≠ []) (hsl : L.length ≤ sizeLine)
    (hQ : ∀ h', ZAt h' z TI TO (rawInt s.heap.objs.size) false → h'.get? s.heap.objs.size = some { cls := .type "tuple", data := .seq (L.map val).toArray } → (∀ e ∈ L, h'.IsTupleIter e.1 e.2.1 (i + 1)) → h'.objs.size = s.heap.objs.size + 1 →
      (∀ c o, c ≠ z → c ≠ TO → (∀ e ∈ L, c ≠ e.1) → s.heap.get? c = some o → h'.get? c = some o) → Q (.ref s.heap.objs.size) { s with heap := h' }) :
    wpAny (model prog w) A (Builtin.«zip.__next__» ⟨[.ref z], []⟩) (fun fin s' => ∃ v, fin = .done (.ret v) ∧ Q v s') E s := by
  obtain ⟨hp, g, d, tk, os⟩ := s
  show wpAny _ _ (field (.ref z) 2 >>= _) _ _ _
  refine wpAny_bind (wpAny_field hz rfl (x := .bool false) rfl ?_)
  show wpAny _ _ (field (.ref z) 3 >>= _) _ _ _
  refine wpAny_bind (wpAny_field hz rfl (x := .ref TI) rfl ?_)
  refine wpAny_bind (wpAny_seqItems hTI rfl ?_)
  have ne : (itsV L).isEmpty = false := by
    cases L with
    | nil => exact absurd rfl hne
    | cons a l => simp [itsV]
  simp only [ne, Bool.false_eq_true, if_false]
  show wpAny _ _ (Builtin.SmallTypes.ownedTupleIsFree (.ref z) >>= _) _ _ _
  refine wpAny_bind ?_
  unfold Builtin.SmallTypes.ownedTupleIsFree
  refine wpAny_bind (wpAny_field hz rfl (x := .none) rfl (wpAny_pure ?_))
  simp only [if_true]
  refine wpAny_bind (wpAny_rule ?_)
  refine wpAny_bind (wpAny_field hz rfl (x := .ref TO) rfl ?_)
  refine wpAny_bind (wpAny_setField_rec hz (by simp) fun g0 hz0 hs0 => ?_)
  replace hz0 : ZAt g0 z TI TO .ellipsis false := hz0
  replace hs0 : Heap.SameBut z hp g0 := hs0
  let I : List (Value × Nat) → (Option Fin × Unit) → Shared → Prop := fun rest b s' => ∃ (done todo : ItL) (h2 : Heap), L = done ++ todo ∧ rest = (todo.map (fun e => Value.ref e.1)).zipIdx done.length ∧ b = (none, ()) ∧ s' = ⟨h2, g, d, tk, os⟩ ∧
    (∀ e ∈ done, h2.IsTupleIter e.1 e.2.1 (i + 1)) ∧ (∀ e ∈ todo, h2.IsTupleIter e.1 e.2.1 i) ∧ (∀ e ∈ L, h2.IsTuple e.2.1 e.2.2) ∧ h2.objs.size = hp.objs.size ∧
    h2.get? TO = some { cls := .type "tuple", data := .seq ((done.map val) ++ List.replicate todo.length Value.none).toArray } ∧ ∀ c o, c ≠ TO → (∀ e ∈ L, c ≠ e.1) → g0.get? c = some o → h2.get? c = some o
  refine wpAny_bind (wpAny_forIn_list _ I _ ?_ ?_ (itsV L).toList.zipIdx (none, ()) ?_)
  · rintro ⟨x, xi⟩ rest b s' ⟨done, todo, h2, eL, er, rfl, rfl, hd, ht, htu, hsz, hto, hk⟩
    cases todo with
    | nil => cases er
    | cons e todo =>
      rw [List.map_cons, List.zipIdx_cons] at er
      injection er with e1 e2
      injection e1 with e1 e3
      subst e1 e2 e3
      have eL' : e ∈ L := by rw [eL]; simp
      have nd := hnd
      rw [eL, List.map_append, List.map_cons] at nd
      obtain ⟨nd1, nd2, nd3⟩ := List.nodup_append.mp nd
      refine wpAny_bind (wpAny_onRaise ?_)
      show wpAny _ _ (Builtin.SmallTypes.nextOf (.ref e.1) >>= _) _ _ _
      refine wpAny_bind (RZ.nextOf_tuple_item (ht e (List.mem_cons_self ..)) (htu e eL') (hv e eL') fun h3 hit3 hs3 => wpAny_pure ?_)
      have hto3 := hs3.extBut _ _ (hTn e eL') hto
      refine wpAny_bind (wpAny_seqItems (s := ⟨h3, g, d, tk, os⟩) hto3 rfl ?_)
      have hw := Heap.get?_update_self (Obj.mapSeq (·.setIfInBounds done.length (val e))) hto3 rfl
      have hsb : Heap.SameBut TO h3 (h3.update TO (Obj.mapSeq (·.setIfInBounds done.length (val e)))) := Heap.SameBut.update ..
      have hlL : L.length = done.length + (todo.length + 1) := by rw [eL]; simp
      refine wpAny_bind (wpAny_updateSeq (s := ⟨h3, g, d, tk, os⟩) hto3 rfl ?_ (by simp; omega) (by simp; omega))
      generalize h3.update TO (Obj.mapSeq (·.setIfInBounds done.length (val e))) = h4 at hw hsb
      refine wpAny_bind (wpAny_letGo (wpAny_pure ?_))
      refine ⟨done ++ [e], todo, h4, by rw [eL]; simp, by simp, rfl, rfl, ?_, ?_, ?_, hsb.1.trans (hs3.1.trans hsz), ?_, ?_⟩
      · intro e' he'
        have nT : e'.1 ≠ TO := fun z => hTn e' (by rw [eL]; simp at he' ⊢; rcases he' with h | h <;> simp [h]) z.symm
        rcases List.mem_append.mp he' with h | h
        · exact (hd e' h).at fun o q => hsb.extBut _ _ nT (hs3.extBut _ _ (nd3 _ (List.mem_map.mpr ⟨e', h, rfl⟩) _ (List.mem_cons_self ..)) q)
        · rw [List.mem_singleton.mp h] at nT ⊢
          exact hit3.at fun o q => hsb.extBut _ _ nT q
      · intro e' he'
        have nT : e'.1 ≠ TO := fun z => hTn e' (by rw [eL]; simp [he']) z.symm
        have n2 : e'.1 ≠ e.1 := fun z => (List.nodup_cons.mp nd2).1 (by rw [← z]; exact List.mem_map.mpr ⟨e', he', rfl⟩)
        exact (ht e' (List.mem_cons_of_mem _ he')).at fun o q => hsb.extBut _ _ nT (hs3.extBut _ _ n2 q)
      · intro e' he'
        exact (htu e' he').at fun o q => hsb.extBut _ _ (fun z => hTt e' he' z.symm) (hs3.extBut _ _ (htn e' he' e eL') q)
      · rw [hw]
        simp [Obj.mapSeq, List.set_append, List.replicate_succ]
      · intro c o hc1 hc q
        exact hsb.extBut _ _ hc1 (hs3.extBut _ _ (hc e eL') (hk c o hc1 hc q))
  · rintro b s' ⟨done, todo, h2, eL, er, rfl, rfl, hd, ht, htu, hsz, hto, hk⟩
    obtain rfl : todo = [] := by
      cases todo with
      | nil => rfl
      | cons a l => cases er
    rw [List.append_nil] at eL
    subst eL
    rw [List.length_nil, List.replicate_zero, List.append_nil] at hto
    show wpAny _ _ (seqItems? (.ref TO) >>= _) _ _ _
    refine wpAny_bind (wpAny_seqItems (s := ⟨h2, g, d, tk, os⟩) hto rfl ?_)
    refine wpAny_bind (wpAny_newTuple (s := ⟨h2, g, d, tk, os⟩) ?_ (by simpa using hsl))
    have hz2 : ZAt h2 z TI TO .ellipsis false := hk z _ (fun q => hTz q.symm) hzn hz0
    show wpAny _ _ (Builtin.SmallTypes.ownedTupleHandOut (.ref z) (.ref h2.objs.size) >>= _) _ _ ⟨h2.push { cls := .type "tuple", data := .seq (L.map val).toArray.toList.toArray }, g, d, tk, os⟩
    refine wpAny_bind ?_
    unfold Builtin.SmallTypes.ownedTupleHandOut
    have hz₆ : ZAt (h2.push { cls := .type "tuple", data := .seq (L.map val).toArray.toList.toArray }) z TI TO .ellipsis false := Heap.get?_push_of_some _ hz2
    refine wpAny_bind (wpAny_setField_rec hz₆ (by simp) fun h₇ hz₇ hs₇ => ?_)
    replace hz₇ : ZAt h₇ z TI TO (rawInt h2.objs.size) false := hz₇
    refine wpAny_setField_rec hz₇ (by simp) fun h₈ hz₈ hs₈ => ?_
    replace hz₈ : ZAt h₈ z TI TO (rawInt h2.objs.size) false := hz₈
    replace hs₇ : Heap.SameBut z (h2.push { cls := .type "tuple", data := .seq (L.map val).toArray.toList.toArray }) h₇ := hs₇
    replace hs₈ : Heap.SameBut z h₇ h₈ := hs₈
    have up : ∀ c o, c ≠ z → h2.get? c = some o → h₈.get? c = some o := fun c o c1 e => hs₈.extBut _ _ c1 (hs₇.extBut _ _ c1 (Heap.get?_push_of_some _ e))
    have hzlt : z < h2.objs.size := Heap.lt_size hz2
    have hT₈ : h₈.get? h2.objs.size = some { cls := .type "tuple", data := .seq (L.map val).toArray.toList.toArray } := hs₈.extBut _ _ (Nat.ne_of_gt hzlt) (hs₇.extBut _ _ (Nat.ne_of_gt hzlt) (Heap.get?_push_size _ rfl))
    have hz8 : h₈.objs.size = h2.objs.size + 1 := by rw [hs₈.1, hs₇.1, Heap.size_push]
    rw [hsz] at hz₈ hT₈ hz8
    refine wpAny_pure ⟨_, rfl, ?_⟩
    show Q (.ref h2.objs.size) _
    rw [hsz]
    exact hQ h₈ hz₈ (by simpa using hT₈) (fun e he => (hd e he).at fun o q => up _ o (fun q2 => hzn e he q2.symm) q) hz8 fun c o hc1 hc2 hc3 q => up c o hc1 (hk c o hc2 hc3 (hs0.extBut _ _ hc1 q))
  · exact ⟨[], L, g0, rfl, by simp [itsV], rfl, rfl, fun e h => by simp at h, fun e he => (hit e he).at fun o q => hs0.extBut _ _ (fun z1 => hzn e he z1.symm) q, fun e he => (htp e he).at fun o q => hs0.extBut _ _ (fun z1 => hzt e he z1.symm) q, hs0.1, hs0.extBut _ _ hTz hTO, fun c o _ _ q => q⟩
end
end Rw

set_option Elab.async false
set_option linter.all false
set_option maxRecDepth 100000
set_option maxHeartbeats 4000000
namespace Rw
open PySem PySem.Spec PyProof.Rows L2
abbrev tpO (vs : List Value) : Obj := { cls := .type "tuple", data := .seq vs.toArray }
section
variable {prog : Program} {w : World} {A : Around} {E : Value → Shared → Prop} {s : Shared}
theorem zipN_end {z TI TO T : Addr} {fl : Bool} {oT : Obj} {L : ItL} {i : Nat} {Q : Fin → Shared → Prop} (hh : A.handled = none)
    (hsz : ∀ e ∈ L, e.2.2.size = i) (hzn : ∀ e ∈ L, z ≠ e.1) (hit : ∀ e ∈ L, s.heap.IsTupleIter e.1 e.2.1 i) (htp : ∀ e ∈ L, s.heap.IsTuple e.2.1 e.2.2) (hzt : ∀ e ∈ L, z ≠ e.2.1)
    (hz : ZAt s.heap z TI TO (rawInt T) fl) (hT : s.heap.get? T = some oT) (hTI : s.heap.get? TI = some { cls := .type "tuple", data := .seq (itsV L) }) (hne : L ≠ [])
    (hE : ∀ h' e, (∀ c o, c ≠ z → (∀ e ∈ L, c ≠ e.1) → s.heap.get? c = some o → h'.get? c = some o) → (∃ o, h'.get? e = some o ∧ o.cls = .type "StopIteration") → E (.ref e) { s with heap := h' }) :
    wpAny (model prog w) A (Builtin.«zip.__next__» ⟨[.ref z], []⟩) Q E s := by
  obtain ⟨hp, g, d, tk, os⟩ := s
  show wpAny _ _ (field (.ref z) 2 >>= _) _ _ _
  refine wpAny_bind (wpAny_field hz rfl (x := .bool false) rfl ?_)
  show wpAny _ _ (field (.ref z) 3 >>= _) _ _ _
  refine wpAny_bind (wpAny_field hz rfl (x := .ref TI) rfl ?_)
  refine wpAny_bind (wpAny_seqItems hTI rfl ?_)
  have ne : (itsV L).isEmpty = false := by
    cases L with
    | nil => exact absurd rfl hne
    | cons a l => simp [itsV]
  simp only [ne, Bool.false_eq_true, if_false]
  show wpAny _ _ (Builtin.SmallTypes.ownedTupleIsFree (.ref z) >>= _) _ _ _
  have hf : wpAny (model prog w) A (Builtin.SmallTypes.ownedTupleIsFree (.ref z)) (fun b s' => b = false ∧ ∃ h', s' = { heap := h', gens := g, drawn := d, toks := tk, os := os } ∧ ZAt h' z TI TO (rawInt T) true ∧ Heap.SameBut z hp h') E ⟨hp, g, d, tk, os⟩ := by
    unfold Builtin.SmallTypes.ownedTupleIsFree
    refine wpAny_bind (wpAny_field hz rfl (x := rawInt T) rfl ?_)
    show wpAny _ _ (loadIfAlive ((T : Nat) : Int).toNat >>= _) _ _ _
    refine wpAny_bind (wpAny_loadIfAlive ?_)
    rw [Int.toNat_natCast, hT]
    show wpAny _ _ (field (Value.ref z) 1 >>= _) _ _ _
    refine wpAny_bind (wpAny_field hz rfl (x := .bool fl) rfl ?_)
    cases fl with
    | true =>
      show wpAny _ _ (if (Value.bool true != Value.bool true) = true then _ else _) _ _ _
      rw [if_neg (by simp)]
      exact wpAny_pure ⟨rfl, hp, rfl, hz, Heap.SameBut.refl _ _⟩
    | false =>
      show wpAny _ _ (if (Value.bool false != Value.bool true) = true then _ else _) _ _ _
      rw [if_pos (by simp)]
      refine wpAny_bind (wpAny_setField_rec hz (by simp) fun h' hz' hs' => wpAny_pure ⟨rfl, h', rfl, hz', hs'⟩)
  refine wpAny_bind (wpAny_mono hf (fun b s' hb => ?_) fun _ _ e => e)
  obtain ⟨rfl, h', rfl, hz', hs'⟩ := hb
  simp only [Bool.false_eq_true, if_false]
  refine wpAny_bind (wpAny_forIn_array' _ (fun rest b s' => rest = (itsV L).toList ∧ s' = ⟨h', g, d, tk, os⟩) _ ?_ ?_ (itsV L) (none, #[]) ⟨rfl, rfl⟩)
  · rintro x rest b s' ⟨er, rfl⟩
    cases L with
    | nil => exact absurd rfl hne
    | cons e L =>
      have e1 : (itsV (e :: L)).toList = Value.ref e.1 :: (itsV L).toList := by simp [itsV]
      rw [e1] at er
      injection er with e2 e3
      subst e2
      have em : e ∈ e :: L := List.mem_cons_self ..
      refine wpAny_bind (wpAny_holding ?_)
      show wpAny _ _ (Builtin.SmallTypes.nextOf (.ref e.1) >>= _) _ _ _
      refine wpAny_bind (RZ.nextOf_tuple_end hh ((hit e em).at fun o q => hs'.extBut _ _ (fun z1 => hzn e em z1.symm) q) ((htp e em).at fun o q => hs'.extBut _ _ (fun z1 => hzt e em z1.symm) q) (by rw [Array.getElem?_eq_none_iff]; exact Nat.le_of_eq (hsz e em)) fun h3 ex hx hc => ?_)
      exact hE h3 ex (fun c o hc1 hc2 q => hx _ _ (hc2 e em) (hs'.extBut _ _ hc1 q)) hc
  · rintro b s' ⟨er, rfl⟩
    cases L with
    | nil => exact absurd rfl hne
    | cons e L => simp [itsV] at er
end
/-- what lies apart in list(zip(..)) -/
structure ZSep (L : ItL) (z TI TO S base : Addr) : Prop where
  nd : (L.map fun e => e.1).Nodup
  tn : ∀ e ∈ L, ∀ e' ∈ L, e.2.1 ≠ e'.1
  zn : ∀ e ∈ L, z ≠ e.1
  zt : ∀ e ∈ L, z ≠ e.2.1
  on : ∀ e ∈ L, TO ≠ e.1
  ot : ∀ e ∈ L, TO ≠ e.2.1
  oz : TO ≠ z
  iz : TI ≠ z
  io : TI ≠ TO
  ie : ∀ e ∈ L, TI ≠ e.1
  sz : S ≠ z
  so : S ≠ TO
  si : S ≠ TI
  sn : ∀ e ∈ L, S ≠ e.1
  st : ∀ e ∈ L, S ≠ e.2.1
  zb : z < base
  ob : TO < base
  nb : ∀ e ∈ L, e.1 < base
  sb : S < base
  ne : L ≠ []
  ln : L.length ≤ sizeLine
def colV (L : ItL) (i : Nat) : List Value := L.map fun e => e.2.2.getD i .none
structure ZS (L : ItL) (z TI TO S base : Addr) (h0 : Heap) (i : Nat) (h : Heap) : Prop where
  size : h.objs.size = base + i
  got : ∀ j, j < i → h.get? (base + j) = some (tpO (colV L j))
  its : ∀ e ∈ L, h.IsTupleIter e.1 e.2.1 i
  tps : ∀ e ∈ L, h.IsTuple e.2.1 e.2.2
  ti : h.get? TI = some { cls := .type "tuple", data := .seq (itsV L) }
  zs : (i = 0 ∧ ZAt h z TI TO .none false ∧ h.get? TO = some { cls := .type "tuple", data := .seq (List.replicate L.length Value.none).toArray }) ∨ ∃ fl, 0 < i ∧ ZAt h z TI TO (rawInt (base : Nat)) fl
  keep : ∀ c o, c ≠ z → c ≠ TO → c ≠ S → (∀ e ∈ L, c ≠ e.1) → h0.get? c = some o → h.get? c = some o
section
variable {prog : Program} {w : World} {A : Around} {E : Value → Shared → Prop} {s : Shared} {L : ItL} {z TI TO S base : Addr} {h0 : Heap} {i n : Nat}
theorem ZS.typ {h : Heap} (Z : ZS L z TI TO S base h0 i h) {g : Array GenState} {d : Drawn} {tk : Nat} {os} : (⟨h, g, d, tk, os⟩ : Shared).TypeIs (.ref z) "zip" := by
  rcases Z.zs with ⟨_, q, _⟩ | ⟨_, _, q⟩
  · exact ⟨_, q, rfl⟩
  · exact ⟨_, q, rfl⟩
theorem ZS.write {h h' : Heap} (D : ZSep L z TI TO S base) (Z : ZS L z TI TO S base h0 i h) (k : ∀ c o, c ≠ S → h.get? c = some o → h'.get? c = some o) (hs : h'.objs.size = h.objs.size) : ZS L z TI TO S base h0 i h' where
  size := hs.trans Z.size
  got := fun j hj => k _ _ (Nat.ne_of_gt (Nat.lt_of_lt_of_le D.sb (Nat.le_add_right base j))) (Z.got j hj)
  its := fun e he => (Z.its e he).at fun o q => k _ o (fun x => D.sn e he x.symm) q
  tps := fun e he => (Z.tps e he).at fun o q => k _ o (fun x => D.st e he x.symm) q
  ti := k _ _ (fun x => D.si x.symm) Z.ti
  zs := by
    rcases Z.zs with ⟨a, b, c⟩ | ⟨fl, a, b⟩
    · exact .inl ⟨a, k _ _ (fun x => D.sz x.symm) b, k _ _ (fun x => D.so x.symm) c⟩
    · exact .inr ⟨fl, a, k _ _ (fun x => D.sz x.symm) b⟩
  keep := fun c o h1 h2 h3 h4 q => k _ _ h3 (Z.keep c o h1 h2 h3 h4 q)
theorem zs_next {Q : Option Value → Shared → Prop} {g : Array GenState} {d : Drawn} {tk : Nat} {os} {h : Heap} (D : ZSep L z TI TO S base) (Z : ZS L z TI TO S base h0 i h) (hn : ∀ e ∈ L, i < e.2.2.size)
    (hQ : ∀ h' : Heap, ZS L z TI TO S base h0 (i + 1) h' → h'.get? S = h.get? S → Q (some (.ref (base + i))) ⟨h', g, d, tk, os⟩) {o : Obj} (hS : h.get? S = some o) : wpAny (model prog w) A (pyNext (.ref z)) Q E ⟨h, g, d, tk, os⟩ := by
  have hT := Z.typ (g := g) (d := d) (tk := tk) (os := os)
  have hv : ∀ e ∈ L, e.2.2[i]? = some (e.2.2.getD i .none) := fun e he => by
    have q := hn e he
    simp [Array.getD, q]
  have hTt : ∀ e ∈ L, z ≠ e.2.1 := D.zt
  unfold pyNext
  refine wpAny_bind (wpAny_attempt (wpAny_callSpecial?_slot (name := Str.ofString "__next__") hT F.slot_zip_next
    (wpAny_call_entry F.slot_zip_next hT F.entry_zip_next ?_ (F.args_zip_next_1 _))))
  have e0 : (⟨h, g, d, tk, os⟩ : Shared).heap.objs.size = base + i := Z.size
  have fin : ∀ (h' : Heap) (fl : Bool), ZAt h' z TI TO (rawInt (base : Nat)) fl → h'.get? (base + i) = some { cls := .type "tuple", data := .seq (L.map fun e => e.2.2.getD i .none).toArray } → (∀ e ∈ L, h'.IsTupleIter e.1 e.2.1 (i + 1)) → h'.objs.size = base + i + 1 →
      (∀ c o, c ≠ z → c ≠ TO → (∀ e ∈ L, c ≠ e.1) → h.get? c = some o → h'.get? c = some o) → ZS L z TI TO S base h0 (i + 1) h' ∧ h'.get? S = h.get? S := fun h' fl a1 a2 a3 a4 a5 => by
    refine ⟨⟨by rw [a4]; omega, fun j hj => ?_, a3, fun e he => (Z.tps e he).at fun o q => a5 _ o (fun x => D.zt e he x.symm) (fun x => D.ot e he x.symm) (fun e' he' => D.tn e he e' he') q, a5 _ _ D.iz D.io D.ie Z.ti, .inr ⟨fl, Nat.succ_pos i, a1⟩, fun c o h1 h2 h3 h4 q => a5 _ _ h1 h2 h4 (Z.keep c o h1 h2 h3 h4 q)⟩, ?_⟩
    · by_cases hj' : j = i
      · subst hj'
        exact a2
      · refine a5 _ _ ?_ ?_ ?_ (Z.got j (by omega))
        · exact Nat.ne_of_gt (Nat.lt_of_lt_of_le D.zb (Nat.le_add_right base j))
        · exact Nat.ne_of_gt (Nat.lt_of_lt_of_le D.ob (Nat.le_add_right base j))
        · intro e he; exact Nat.ne_of_gt (Nat.lt_of_lt_of_le (D.nb e he) (Nat.le_add_right base j))
    · rw [hS]
      exact a5 _ _ D.sz D.so D.sn hS
  rcases Z.zs with ⟨rfl, hz, hTO⟩ | ⟨fl, hi', hz⟩
  · refine zipF_next (val := fun e => e.2.2.getD 0 .none) hv D.nd D.tn D.zn Z.its Z.tps D.zt D.on D.ot D.oz hz hTO Z.ti D.ne D.ln fun h' a1 a2 a3 a4 a5 => wpAny_pure ?_
    rw [e0] at a1 a2 a4
    obtain ⟨Z', q⟩ := fin h' false a1 a2 a3 a4 a5
    rw [e0]
    exact hQ h' Z' q
  · refine zipN_next (val := fun e => e.2.2.getD i .none) hv D.nd D.tn D.zn Z.its Z.tps D.zt hz (Z.got 0 hi') Z.ti D.ne D.ln fun h' a1 a2 a3 a4 a5 => wpAny_pure ?_
    rw [e0] at a2 a4
    obtain ⟨Z', q⟩ := fin h' true a1 a2 a3 a4 fun c o h1 _ h3 q => a5 c o h1 h3 q
    rw [e0]
    exact hQ h' Z' q
theorem zs_end {Q : Option Value → Shared → Prop} {g : Array GenState} {d : Drawn} {tk : Nat} {os} {h : Heap} (hh : A.handled = none) (D : ZSep L z TI TO S base) (Z : ZS L z TI TO S base h0 i h) (hi : 0 < i) (hn : ∀ e ∈ L, e.2.2.size = i)
    (hQ : ∀ h' : Heap, (∀ c o, c ≠ z → (∀ e ∈ L, c ≠ e.1) → h.get? c = some o → h'.get? c = some o) → Q none ⟨h', g, d, tk, os⟩) : wpAny (model prog w) A (pyNext (.ref z)) Q E ⟨h, g, d, tk, os⟩ := by
  have hT := Z.typ (g := g) (d := d) (tk := tk) (os := os)
  rcases Z.zs with ⟨rfl, hz, hTO⟩ | ⟨fl, hi', hz⟩
  · exact absurd hi (Nat.lt_irrefl _)
  unfold pyNext
  refine wpAny_bind (wpAny_attempt (wpAny_callSpecial?_slot (name := Str.ofString "__next__") hT F.slot_zip_next
    (wpAny_call_entry F.slot_zip_next hT F.entry_zip_next (zipN_end hh hn D.zn Z.its Z.tps D.zt hz (Z.got 0 hi') Z.ti D.ne fun h' e hk he => ?_) (F.args_zip_next_1 _))))
  obtain ⟨o, ho, hc⟩ := he
  refine wpAny_bind (wpAny_isInstance (T := "StopIteration") (b := true) ⟨o, ho, hc⟩ isSubtype_stop ?_)
  exact wpAny_pure (hQ _ hk)
end
end Rw

set_option Elab.async false
set_option linter.all false
set_option maxRecDepth 100000
set_option maxHeartbeats 4000000
namespace Rw
open PySem PySem.Spec PyProof.Rows L2
abbrev lsO (vs : List Value) (c : Nat) : Obj := { cls := .type "list", dict := none, data := .seq vs.toArray c, slots := #[] }
def rgV (base : Addr) (n : Nat) : List Value := (List.range n).map fun j => Value.ref (base + j)
theorem rgV_succ (base : Addr) (n : Nat) : rgV base (n + 1) = rgV base n ++ [.ref (base + n)] := by
  unfold rgV; rw [List.range_succ, List.map_append]; rfl
theorem rgV_len (base : Addr) (n : Nat) : (rgV base n).length = n := by simp [rgV]
theorem zip_no_len : typeLookup (.type "zip") "__len__" = pure none := by rw [typeLookup_type, builtinLookup_eq_fast]; kernel_rfl
theorem zip_no_hint : typeLookup (.type "zip") "__length_hint__" = pure none := by rw [typeLookup_type, builtinLookup_eq_fast]; kernel_rfl
structure ZF (L : ItL) (z TO S base : Addr) (h0 : Heap) (n : Nat) (h : Heap) : Prop where
  got : ∀ j, j < n → h.get? (base + j) = some (tpO (colV L j))
  lst : ∃ c, h.get? S = some (lsO (rgV base n) c)
  keep : ∀ c o, c ≠ z → c ≠ TO → c ≠ S → (∀ e ∈ L, c ≠ e.1) → h0.get? c = some o → h.get? c = some o
section
variable {prog : Program} {w : World} {A : Around} {E : Value → Shared → Prop} {s : Shared} {L : ItL} {z TI TO S base : Addr} {h0 : Heap} {i n : Nat} {R : Result → Shared → Prop} {g : Array GenState} {d : Drawn} {tk : Nat} {os : OsState}
theorem loopZ (hh : A.handled = none) (D : ZSep L z TI TO S base) (hn : ∀ e ∈ L, e.2.2.size = n) (n0 : 0 < n) (hz : n ≤ sizeLine) (res : Value) :
    ∀ (k i : Nat) (h : Heap) (c : Nat), n - i = k → i ≤ n → ZS L z TI TO S base h0 i h → h.get? S = some (lsO (rgV base i) c) →
    (∀ h', ZF L z TO S base h0 n h' → R (.ok (.ret res)) ⟨h', g, d, tk, os⟩) →
    codeAny (model prog w) A (.builtin "list.extend.loop" ⟨[.ref S, .ref z, res], []⟩) R ⟨h, g, d, tk, os⟩ := by
  intro k
  induction k with
  | zero =>
    intro i h c hk hi Z hS hR
    have hin : i = n := by omega
    subst hin
    refine codeAny_builtin F.entry_extend_loop ?_
    rw [Around.under_plainId F.plain_extend_loop _]
    show wpAny _ A.in1 (pyNext (.ref z) >>= _) _ _ _
    refine wpAny_bind (zs_end hh D Z n0 hn fun h' hk => ?_)
    refine wpAny_pure (hR h' ⟨fun j hj => hk _ _ (Nat.ne_of_gt (Nat.lt_of_lt_of_le D.zb (Nat.le_add_right base j))) (fun e he => Nat.ne_of_gt (Nat.lt_of_lt_of_le (D.nb e he) (Nat.le_add_right base j))) (Z.got j hj), ⟨c, hk _ _ D.sz D.sn hS⟩, fun c o h1 h2 h3 h4 q => hk _ _ h1 h4 (Z.keep c o h1 h2 h3 h4 q)⟩)
  | succ k ih =>
    intro i h c hk hi Z hS hR
    have hlt : i < n := by omega
    refine codeAny_builtin F.entry_extend_loop ?_
    rw [Around.under_plainId F.plain_extend_loop _]
    show wpAny _ A.in1 (pyNext (.ref z) >>= _) _ _ _
    refine wpAny_bind (zs_next D Z (fun e he => by rw [hn e he]; exact hlt) (fun h' Z' eS => ?_) hS)
    have hS' : h'.get? S = some (lsO (rgV base i) c) := eS.trans hS
    show wpAny _ A.in1 (updateSeq S (·.push (.ref (base + i))) >>= _) _ _ _
    refine wpAny_bind ?_
    have hl := rgV_len base i
    have hw := Heap.get?_update_self (Obj.mapSeq (·.push (.ref (base + i)))) hS' rfl
    obtain ⟨c', hw⟩ : ∃ c', (h'.update S (Obj.mapSeq (·.push (.ref (base + i))))).get? S = some (lsO (rgV base (i + 1)) c') := ⟨_, by
      rw [hw, rgV_succ]
      simp only [Obj.mapSeq, lsO, List.push_toArray]
      rfl⟩
    refine wpAny_updateSeq (s := ⟨h', g, d, tk, os⟩) hS' rfl (wpAny_pure ⟨plainId_quiet F.plain_extend_loop _, ih (i + 1) _ _ (by omega) hlt (Z'.write D (fun b o hb e => (Heap.get?_update_other _ _ (fun h : S = b => hb h.symm)).trans e) (Heap.SameBut.update ..).1) hw hR⟩)
      (by rw [List.size_toArray, hl]; omega) (by rw [Array.size_push, List.size_toArray, hl]; omega)
theorem extendZ (hh : A.handled = none) (D : ZSep L z TI TO S base) (hn : ∀ e ∈ L, e.2.2.size = n) (n0 : 0 < n) (hz : n ≤ sizeLine) (res : Value) {h : Heap} {c : Nat} (Z : ZS L z TI TO S base h0 0 h) (hS : h.get? S = some (lsO [] c))
    (hR : ∀ h', ZF L z TO S base h0 n h' → R (.ok (.ret res)) ⟨h', g, d, tk, os⟩) :
    wpAny (model prog w) A.in1 (Builtin.List.listExtendWith (.ref S) (.ref z) res)
      (fun fin s' => match fin with | .done f => R (.ok f) s' | .again c' => c'.quiet = true ∧ codeAny (model prog w) A c' R s') (fun e s' => R (.error e) s') ⟨h, g, d, tk, os⟩ := by
  have hSI : S ≠ z := D.sz
  have hT := Z.typ (g := g) (d := d) (tk := tk) (os := os)
  unfold Builtin.List.listExtendWith
  refine wpAny_bind (wpAny_typeOf hT ?_)
  have h1 : Builtin.List.listSameRef (.ref S) (.ref z) = false := by simp [Builtin.List.listSameRef, hSI]
  have h2 : (Value.type "zip" == Value.type "list") = false := by decide
  have h3 : (Value.type "zip" == Value.type "tuple") = false := by decide
  simp only [h1, h2, h3, Bool.or_false, Bool.false_eq_true, if_false]
  obtain ⟨_, hz0, _⟩ : (0 : Nat) = 0 ∧ ZAt h z TI TO .none false ∧ True := by
    rcases Z.zs with ⟨_, q, _⟩ | ⟨_, q, _⟩
    · exact ⟨rfl, q, trivial⟩
    · exact absurd q (Nat.lt_irrefl _)
  refine wpAny_bind (wpAny_pyIter_zip hz0 ?_)
  refine wpAny_bind (wpAny_holding ?_)
  unfold Builtin.List.listLengthHint
  refine wpAny_bind (wpAny_specialOf hT zip_no_len ?_)
  show wpAny _ A.in1 (specialOf (Value.ref z) (Str.ofString "__length_hint__") >>= _) _ _ _
  refine wpAny_bind (wpAny_specialOf hT zip_no_hint ?_)
  refine wpAny_pure ?_
  show wpAny _ A.in1 (rule "list.extend.makes-room" >>= fun _ => Builtin.List.listTouch (.ref S) >>= fun _ =>
    again (.builtin "list.extend.loop" ⟨[.ref S, .ref z, res], []⟩)) _ _ _
  refine wpAny_bind (wpAny_rule ?_)
  refine wpAny_bind ?_
  show wpAny _ A.in1 (updateSeq S (·.push .none) >>= fun _ => updateSeq S (·.pop)) _ _ _
  refine wpAny_bind (wpAny_updateSeq (s := ⟨h, g, d, tk, os⟩) hS rfl ?_)
  have hS₂ := Heap.get?_update_self (Obj.mapSeq (·.push Value.none)) hS rfl
  refine wpAny_updateSeq (hz := by seq_fits) hS₂ rfl ?_
  have hS₃ := Heap.get?_update_self (Obj.mapSeq (·.pop)) hS₂ rfl
  have oth : ∀ b o, b ≠ S → h.get? b = some o → ((h.update S (Obj.mapSeq (·.push Value.none))).update S (Obj.mapSeq (·.pop))).get? b = some o :=
    fun b o hb e => (Heap.get?_update_other _ _ (Ne.symm hb)).trans ((Heap.get?_update_other _ _ (Ne.symm hb)).trans e)
  refine wpAny_pure ⟨plainId_quiet F.plain_extend_loop _, loopZ hh D hn n0 hz _ n 0 _ _ rfl (Nat.zero_le _) (Z.write D oth ((Heap.SameBut.update ..).1.trans (Heap.SameBut.update ..).1)) hS₃ hR⟩
theorem initZ (hh : A.handled = none) (D : ZSep L z TI TO S base) (hn : ∀ e ∈ L, e.2.2.size = n) (n0 : 0 < n) (hz : n ≤ sizeLine) {h : Heap} (Z : ZS L z TI TO S base h0 0 h) (hS : h.get? S = some { cls := .type "list", data := .seq #[] })
    (hR : ∀ h', ZF L z TO S base h0 n h' → R (.ok (.ret .none)) ⟨h', g, d, tk, os⟩) :
    wpAny (model prog w) A.in1 (Builtin.«list.__init__» ⟨[.ref S, .ref z], []⟩)
      (fun fin s' => match fin with | .done f => R (.ok f) s' | .again c' => c'.quiet = true ∧ codeAny (model prog w) A c' R s') (fun e s' => R (.error e) s') ⟨h, g, d, tk, os⟩ := by
  show wpAny _ A.in1 (do let old ← Builtin.List.listItems (.ref S); Builtin.List.listUpdate (.ref S) (fun _ => #[]); letGo old.toList.reverse; Builtin.List.listExtendWith (.ref S) (.ref z) .none) _ _ _
  refine wpAny_bind ?_
  unfold Builtin.List.listItems
  refine wpAny_bind (wpAny_seqItems (s := ⟨h, g, d, tk, os⟩) hS rfl (wpAny_pure ?_))
  show wpAny _ A.in1 (updateSeq S (fun _ => #[]) >>= fun _ => letGo (#[] : Array Value).toList.reverse >>= fun _ => Builtin.List.listExtendWith (.ref S) (.ref z) .none) _ _ _
  refine wpAny_bind (wpAny_updateSeq (s := ⟨h, g, d, tk, os⟩) hS rfl ?_)
  have hS₂ := Heap.get?_update_self (Obj.mapSeq (fun _ => (#[] : Array Value))) hS rfl
  have oth : ∀ b o, b ≠ S → h.get? b = some o → (h.update S (Obj.mapSeq (fun _ => (#[] : Array Value)))).get? b = some o :=
    fun b o hb e => (Heap.get?_update_other _ _ (Ne.symm hb)).trans e
  refine wpAny_bind (wpAny_letGo ?_)
  exact extendZ hh D hn n0 hz .none (Z.write D oth (Heap.SameBut.update ..).1) hS₂ hR
/-- list(z), z a new zip over tuples -/
theorem call_listZ {Q : Value → Shared → Prop} (hh : A.handled = none) {h : Heap} (D : ZSep L z TI TO h.objs.size (h.objs.size + 1)) (hn : ∀ e ∈ L, e.2.2.size = n) (n0 : 0 < n) (hz : n ≤ sizeLine)
    (Z : ZS L z TI TO h.objs.size (h.objs.size + 1) h0 0 (h.push { cls := .type "list", data := .seq #[] }))
    (hQ : ∀ h', ZF L z TO h.objs.size (h.objs.size + 1) h0 n h' → Q (.ref h.objs.size) ⟨h', g, d, tk, os⟩) :
    wpAny (model prog w) A (call (.type "list") [.ref z]) Q E ⟨h, g, d, tk, os⟩ := by
  refine callType_codes (Q₁ := fun obj s₁ => obj = .ref h.objs.size ∧ s₁ = ⟨h.push { cls := .type "list", data := .seq #[] }, g, d, tk, os⟩) F.called_list (F.typeCall_list_1 _) F.entry_list_init
    (code_list_new _ ⟨rfl, rfl⟩) fun obj s₁ h₁ => ?_
  obtain ⟨rfl, rfl⟩ := h₁
  have hS : (h.push { cls := .type "list", data := .seq #[] }).get? h.objs.size = some { cls := .type "list", data := .seq #[] } := Heap.get?_push_size _ rfl
  exact ⟨⟨_, hS, rfl⟩, F.args_list_init_2 _ _, initZ (A := A.in1) hh D hn n0 hz Z hS fun h' F' => ⟨rfl, hQ h' F'⟩⟩
end
end Rw

set_option Elab.async false
set_option linter.all false
set_option maxRecDepth 100000
set_option maxHeartbeats 4000000
namespace Rw
open PySem PySem.Spec PyProof.Rows L2
abbrev gzT1 (h : Heap) (o1 : Obj) : Heap := (h.push o1).push { cls := .type "tuple", data := .seq #[.ref h.objs.size] }
abbrev gzO1 (h : Heap) (o1 : Obj) : Heap := (gzT1 h o1).push { cls := .type "tuple", data := .seq #[.none] }
abbrev gzZ1 (h : Heap) (o1 : Obj) : Heap := (gzO1 h o1).push { cls := .type "zip", data := .fields #[.none, .bool false, .bool false, .ref (h.push o1).objs.size, .ref (gzT1 h o1).objs.size] }
theorem typeCall_zip_1 (a : Value) : checkTypeCall "zip" ⟨[a], []⟩ = pure () := by kernel_rfl
theorem newCall_zip_1 (a : Value) : checkBuiltinCall "zip.__new__" ⟨[.type "zip", a], []⟩ = pure () := by kernel_rfl
theorem args_object_init_2' (obj a : Value) : argsOk "object.__init__" ⟨[obj, a], []⟩ := by unfold argsOk; kernel_rfl
theorem meets_zip_newB1 {v1 : Value} {o1 : Obj} {H1 : Heap → Prop} (B1 : Begins v1 o1 H1) :
    Meets (Builtin.«zip.__new__» ⟨[.type "zip", v1], []⟩) (fun _ R s => H1 s.heap ∧
      R (.ok (.ret (.ref (gzO1 s.heap o1).objs.size))) { s with heap := gzZ1 s.heap o1 }) :=
  .of_wp fun prog w A R s h => by
    obtain ⟨hp, g, d, tk, os⟩ := s; obtain ⟨h1, h⟩ := h
    have hsub := sub_zip
    have q1 : ∀ {A' : Around} {E : Value → Shared → Prop} {Q : Value → Shared → Prop}, Q (.ref hp.objs.size) ⟨(hp.push o1), g, d, tk, os⟩ → wpAny (model prog w) A' (pyIter v1) Q E ⟨hp, g, d, tk, os⟩ :=
      fun q => B1.iter prog w _ _ ⟨hp, g, d, tk, os⟩ _ (B1.keeps _ _ h1 fun b o' e => e) q
    wp_walk using q1
    exact ⟨_, rfl, h⟩
def zL (b : Addr) (ts : List (Addr × Array Value)) : ItL := ts.zipIdx.map fun e => (b + e.2, e.1.1, e.1.2)
/-- what a new zip over tuples is -/
structure ZNew (b : Addr) (ts : List (Addr × Array Value)) (h0 h : Heap) : Prop where
  z : ZAt h (b + ts.length + 2) (b + ts.length) (b + ts.length + 1) .none false
  ti : h.get? (b + ts.length) = some { cls := .type "tuple", data := .seq (itsV (zL b ts)) }
  to : h.get? (b + ts.length + 1) = some { cls := .type "tuple", data := .seq (List.replicate ts.length Value.none).toArray }
  its : ∀ i t, ts[i]? = some t → h.get? (b + i) = some { cls := .type "tuple_iterator", data := .fields #[.ref t.1, .int 0 0] }
  size : h.objs.size = b + ts.length + 3
  keep : ∀ c o, h0.get? c = some o → h.get? c = some o
section
variable {prog : Program} {w : World} {A : Around} {E : Value → Shared → Prop} {s : Shared}
theorem zip_new {ts : List (Addr × Array Value)} {Q : Value → Shared → Prop} (ht : ∀ t ∈ ts, s.heap.IsTuple t.1 t.2) (hl : ts.length = 1 ∨ ts.length = 2 ∨ ts.length = 3)
    (h : ∀ h', ZNew s.heap.objs.size ts s.heap h' → Q (.ref (s.heap.objs.size + ts.length + 2)) { s with heap := h' }) :
    wpAny (model prog w) A (call (.type "zip") (ts.map fun t => Value.ref t.1)) Q E s := by
  match ts, hl with
  | [t1], _ =>
    have h1 := ht t1 (by simp)
    refine callType_new F.called_zip (by decide) (typeCall_zip_1 _) (newCall_zip_1 _) (fun obj => args_object_init_2' obj _) F.entry_zip_new
      (meets_zip_newB1 (begins_tuple t1.1 t1.2)) ⟨h1, ?_⟩
    generalize eo : ({ cls := .type "tuple_iterator", data := .fields #[.ref t1.1, .int 0 0] } : Obj) = o1
    have fr : o1.isFreed = false := by rw [← eo]; rfl
    have z1 : (s.heap.push o1).objs.size = s.heap.objs.size + 1 := by rw [Heap.size_push]
    have zT : (gzT1 s.heap o1).objs.size = s.heap.objs.size + 2 := by rw [Heap.size_push, z1]
    have zO : (gzO1 s.heap o1).objs.size = s.heap.objs.size + 3 := by rw [Heap.size_push, zT]
    have zZ : (gzZ1 s.heap o1).objs.size = s.heap.objs.size + 4 := by rw [Heap.size_push, zO]
    have gZ : (gzZ1 s.heap o1).get? (gzO1 s.heap o1).objs.size = some { cls := .type "zip", data := .fields #[.none, .bool false, .bool false, .ref (s.heap.push o1).objs.size, .ref (gzT1 s.heap o1).objs.size] } := Heap.get?_push_size _ rfl
    have gO : (gzZ1 s.heap o1).get? (gzT1 s.heap o1).objs.size = some { cls := .type "tuple", data := .seq #[.none] } := Heap.get?_push_of_some _ (Heap.get?_push_size _ rfl)
    have gT : (gzZ1 s.heap o1).get? (s.heap.push o1).objs.size = some { cls := .type "tuple", data := .seq #[.ref s.heap.objs.size] } := Heap.get?_push_of_some _ (Heap.get?_push_of_some _ (Heap.get?_push_size _ rfl))
    have g1 : (gzZ1 s.heap o1).get? s.heap.objs.size = some o1 := Heap.get?_push_of_some _ (Heap.get?_push_of_some _ (Heap.get?_push_of_some _ (Heap.get?_push_size _ fr)))
    rw [zO, zT, z1] at gZ
    rw [zT] at gO
    rw [z1] at gT
    show _ ∧ _
    rw [zO]
    refine ⟨⟨_, gZ, rfl⟩, h _ ⟨gZ, gT, gO, fun i t e => ?_, zZ, fun c o e => Heap.get?_push_of_some _ (Heap.get?_push_of_some _ (Heap.get?_push_of_some _ (Heap.get?_push_of_some _ e)))⟩⟩
    match i, e with
    | 0, e =>
      obtain rfl : t1 = t := by simpa using e
      rw [eo]
      exact g1
    | i + 1, e => simp at e
  | [t1, t2], _ =>
    refine zip_begins2 (begins_tuple t1.1 t1.2) (begins_tuple t2.1 t2.2) (ht t1 (by simp)) (ht t2 (by simp)) fun h' a1 a2 a3 a4 a5 a6 a7 => h h' ⟨a1, a2, a3, fun i t e => ?_, a6, a7⟩
    match i, e with
    | 0, e =>
      obtain rfl : t1 = t := by simpa using e
      exact a4
    | 1, e =>
      obtain rfl : t2 = t := by simpa using e
      exact a5
    | i + 2, e => simp at e
  | [t1, t2, t3], _ =>
    refine zip_begins3 (begins_tuple t1.1 t1.2) (begins_tuple t2.1 t2.2) (begins_tuple t3.1 t3.2) (ht t1 (by simp)) (ht t2 (by simp)) (ht t3 (by simp)) fun h' a1 a2 a3 a4 a5 a6 a7 a8 => h h' ⟨a1, a2, a3, fun i t e => ?_, a7, a8⟩
    match i, e with
    | 0, e =>
      obtain rfl : t1 = t := by simpa using e
      exact a4
    | 1, e =>
      obtain rfl : t2 = t := by simpa using e
      exact a5
    | 2, e =>
      obtain rfl : t3 = t := by simpa using e
      exact a6
    | i + 3, e => simp at e
  | [], hl => simp at hl
  | _ :: _ :: _ :: _ :: _, hl => simp at hl
theorem zL_mem {b : Addr} {ts : List (Addr × Array Value)} {e : Addr × Addr × Array Value} (h : e ∈ zL b ts) : ∃ i t, ts[i]? = some t ∧ e = (b + i, t.1, t.2) := by
  obtain ⟨⟨t, i⟩, h1, h2⟩ := List.mem_map.mp h
  exact ⟨i, t, (List.mem_zipIdx_iff_getElem? ..).mp h1, h2.symm⟩
theorem zL_fst {b : Addr} (ts : List (Addr × Array Value)) : (zL b ts).map (fun e => e.1) = (List.range ts.length).map fun i => b + i := by
  refine List.ext_getElem? fun i => ?_
  simp [zL]
  by_cases h : i < ts.length
  · rw [List.getElem?_eq_getElem h, List.getElem?_range h]; rfl
  · rw [List.getElem?_eq_none (by omega), List.getElem?_eq_none (by simp; omega)]; rfl
theorem ne_nat {a b : Nat} (h : a < b ∨ b < a) : a ≠ b := by omega
theorem lt_nat {a b : Nat} (h : a < b) : a < b := h
theorem zNew_sep {b : Addr} {ts : List (Addr × Array Value)} {h0 h : Heap} (Z : ZNew b ts h0 h) (hb : h0.objs.size = b) (ht : ∀ t ∈ ts, h0.IsTuple t.1 t.2) (hne : ts ≠ []) (hln : ts.length ≤ sizeLine) :
    ZSep (zL b ts) (b + ts.length + 2) (b + ts.length) (b + ts.length + 1) h.objs.size (h.objs.size + 1) := by
  have lt : ∀ t ∈ ts, t.1 < b := fun t m => by
    obtain ⟨o, ho, _⟩ := ht t m
    rw [← hb]; exact Heap.lt_size ho
  have il : ∀ (i : Nat) (t : Addr × Array Value), ts[i]? = some t → i < ts.length := fun i t e => (List.getElem?_eq_some_iff.mp e).1
  have hs := Z.size
  have fst : ∀ e ∈ zL b ts, ∃ i t, ts[i]? = some t ∧ e = (b + i, t.1, t.2) ∧ i < ts.length ∧ t.1 < b := fun e m => by
    obtain ⟨i, t, e1, e2⟩ := zL_mem m
    exact ⟨i, t, e1, e2, il i t e1, lt t (List.mem_of_getElem? e1)⟩
  generalize hsz : h.objs.size = S at *
  clear hsz Z ht hb
  unfold Addr at *
  refine ⟨?_, ?_, ?_, ?_, ?_, ?_, ?_, ?_, ?_, ?_, ?_, ?_, ?_, ?_, ?_, ?_, ?_, ?_, ?_, ?_, ?_⟩
  · rw [zL_fst]
    exact List.nodup_iff_pairwise_ne.mpr (List.pairwise_map.mpr (List.Pairwise.imp (fun {i j : Nat} (q : i ≠ j) (e : b + i = b + j) => q (Nat.add_left_cancel e)) (List.nodup_iff_pairwise_ne.mp List.nodup_range)))
  · intro e m e' m'
    obtain ⟨i, t, _, rfl, q1, q2⟩ := fst e m
    obtain ⟨i', t', _, rfl, q1', q2'⟩ := fst e' m'
    show t.1 ≠ b + i'
    exact ne_nat (by omega)
  all_goals first
    | (intro e m
       obtain ⟨i, t, _, rfl, q1, q2⟩ := fst e m
       dsimp only
       first
         | exact ne_nat (by omega)
         | exact lt_nat (by omega))
    | exact ne_nat (by omega)
    | exact lt_nat (by omega)
    | skip
  · exact fun q => hne (by
      have := congrArg (fun l : ItL => l.length) q
      simp [zL] at this
      exact this)
  · have : (zL b ts).length = ts.length := by simp [zL]
    rw [this]
    exact hln
end
end Rw


set_option Elab.async false
set_option linter.all false
set_option maxRecDepth 100000
set_option maxHeartbeats 4000000
namespace Rw
open PySem PySem.Spec PyProof.Rows L2
section
variable {X : Cx} {pins : List (Addr × Obj)} {σ : L2.St} {H H' : Hp} {s : Shared} {h' : Heap}
/-- many new objects laid and tracked -/
theorem Inv.grown {t' : Nat} (I : Inv X pins σ H s) (k : ∀ b u, s.heap.get? b = some u → h'.get? b = some u) (hH : ∀ b, b < s.heap.objs.size → H' b = H b) (new : ∀ b u, s.heap.objs.size ≤ b → H' b = some u → ObjOk X.prog X.w H' h' b u) : Inv X pins σ H' { s with heap := h', toks := t' } := by
  have le : ∀ b u, H b = some u → H' b = some u := fun b u e => (hH b ((I.hok b u e).lt)).trans e
  refine I.un ⟨fun b u q _ _ _ => k b u q, fun b u q _ _ _ => ⟨u.slots, k b u q⟩, fun b u q n _ => (hH b (Heap.lt_size q)).trans n, fun b u q _ => ⟨u, k b u q⟩, fun b xs q => le _ _ q, fun b u xs q => le _ _ q, fun b ps q => ⟨#[], by rw [le _ _ q]; simp⟩⟩ fun b u e => ?_
  by_cases hb : b < s.heap.objs.size
  · exact (I.hok b u ((hH b hb).symm.trans e)).stay (fun c v _ q => k c v q) (fun c q => le _ _ q) fun c xs q => le _ _ q
  · exact new b u (Nat.le_of_not_lt hb) e
end
theorem callWith_S_type {M : Model} {A : Around} {E : Value → Shared → Prop} {s : Shared} {T : String} {pos p : Pos} {env : Env} {e : Expr} {Q : Value → Shared → Prop}
    (h : wpAny M A (eval e env) (fun v s₁ => PySem.W.StarOf M A E v (fun vs s₂ => wpAny M A (call (.type T) vs) Q E s₂) s₁) E s)
    (he : starEach [.Starred e p] env = [(true, eval e env)] := by rfl) :
    wpAny M A (callWith pos (.type T) [] (backTo pos (starEach [.Starred e p] env)) []) Q E s := by
  rw [he]
  unfold callWith
  have hk : wpAny M A (evalArgs (.type T) true (backTo pos [(true, eval e env)]) []) (fun z s₁ => wpAny M A (call (.type T) ([] ++ z.pos) z.kw) Q E s₁) E s := PySem.W.ks_lone h
  refine wpAny_bind (wpAny_holding (wpAny_mono hk (fun a s₁ h₁ => wpAny_bind (wpAny_standAt ?_)) fun _ _ x => x))
  have hst : (backTo pos [(true, eval e env)]).any (·.1) = true := rfl
  simp only [hst, Bool.true_or]
  refine wpAny_bind (wpAny_pure ?_)
  dsimp only
  exact wpAny_bind (wpAny_mono (wpAny_operating h₁) (fun r s₂ hr => wpAny_bind (wpAny_holding (wpAny_point (wpAny_pure hr)))) fun _ _ x => x)
def tListZip (K : PySem.W.Frag) (te : TE) : TE := fun σ H Q => te σ H fun y H1 => ∃ (a : Addr) (rs : List (Addr × List V)) (n : Nat), y = .ref a ∧ (SqT K H1 a (rs.map fun r => V.ref r.1) ∨ SqL K H1 a (rs.map fun r => V.ref r.1)) ∧ (∀ r ∈ rs, SqT K H1 r.1 r.2 ∧ r.2.length = n) ∧
  (rs.length = 1 ∨ rs.length = 2 ∨ rs.length = 3) ∧ 0 < n ∧ n ≤ 1000 ∧
  ∀ (S base : Addr) (H2 : Hp), H1 S = none → (∀ j, j < n → H1 (base + j) = none) → Same H1 H2 → H2 S = some (.lst ((List.range n).map fun j => V.ref (base + j))) → (∀ j, j < n → H2 (base + j) = some (.tup (rs.map fun r => r.2.getD j .non))) → Q (.ref S) H2
theorem tuples_of {X : Cx} {pins : List (Addr × Obj)} {σ : L2.St} {H : Hp} {s : Shared} (I : Inv X pins σ H s) : ∀ (rs : List (Addr × List V)) (us : List Value), Vals (rs.map fun r => V.ref r.1) us → (∀ r ∈ rs, SqT X.K H r.1 r.2) →
    ∃ ts : List (Addr × Array Value), us = (ts.map fun t => Value.ref t.1) ∧ ts.length = rs.length ∧ (∀ t ∈ ts, s.heap.IsTuple t.1 t.2) ∧ ∀ (i : Nat) (r : Addr × List V), rs[i]? = some r → ∃ t, ts[i]? = some t ∧ t.1 = r.1 ∧ Vals r.2 t.2.toList
  | [], us, r, _ => by
    cases r
    exact ⟨[], rfl, rfl, fun t m => (by cases m), fun i r e => (by simp at e)⟩
  | (a, xs) :: rs, us, r, h => by
    cases r with
    | cons r1 rr =>
      obtain ⟨ts, e1, e2, e3, e4⟩ := tuples_of I rs _ rr fun r m => h r (List.mem_cons_of_mem _ m)
      subst e1
      obtain ⟨its, rv, p, _⟩ := I.tuple (h (a, xs) (List.mem_cons_self ..))
      cases r1
      refine ⟨(a, its.toArray) :: ts, rfl, by simp [e2], fun t m => ?_, fun i r e => ?_⟩
      · rcases List.mem_cons.mp m with q | q
        · subst q
          exact p
        · exact e3 t q
      · cases i with
        | zero =>
          obtain rfl : (a, xs) = r := by simpa using e
          exact ⟨_, rfl, rfl, by simpa using rv⟩
        | succ i => exact e4 i r (by simpa using e)
theorem vals_col {n j : Nat} (hj : j < n) : ∀ (rs : List (Addr × List V)) (ts : List (Addr × Array Value)), ts.length = rs.length → (∀ r ∈ rs, r.2.length = n) → (∀ (i : Nat) (r : Addr × List V), rs[i]? = some r → ∃ t, ts[i]? = some t ∧ t.1 = r.1 ∧ Vals r.2 t.2.toList) →
    Vals (rs.map fun r => r.2.getD j .non) (ts.map fun t => t.2.getD j .none)
  | [], [], _, _, _ => .nil
  | r :: rs, t :: ts, hl, hn, h => by
    refine .cons ?_ (vals_col hj rs ts (by simpa using hl) (fun r m => hn r (List.mem_cons_of_mem _ m)) fun i r' e => h (i + 1) r' (by simpa using e))
    obtain ⟨t', e1, _, rv⟩ := h 0 r rfl
    obtain rfl : t = t' := by simpa using e1
    have hj' : j < r.2.length := by rw [hn r (List.mem_cons_self ..)]; exact hj
    obtain ⟨u, hu, ru⟩ := rv.get (List.getElem?_eq_getElem hj')
    have e2 : t.2.getD j .none = u := by
      rw [Array.getElem?_toList] at hu
      rw [Array.getD_eq_getD_getElem?, hu]
      rfl
    have e3 : r.2.getD j .non = r.2[j] := by
      rw [List.getD_eq_getElem?_getD, List.getElem?_eq_getElem hj']
      rfl
    show L2.RelV (r.2.getD j .non) (t.2.getD j .none)
    rw [e2, e3]
    exact ru
  | [], _ :: _, hl, _, _ => by simp at hl
  | _ :: _, [], hl, _, _ => by simp at hl
theorem colV_zL {b : Addr} {j : Nat} (ts : List (Addr × Array Value)) : colV (zL b ts) j = ts.map fun t => t.2.getD j .none := by
  refine List.ext_getElem? fun i => ?_
  simp [colV, zL]
  by_cases h : i < ts.length
  · simp [List.getElem?_eq_getElem h]
  · rw [List.getElem?_eq_none (by omega)]; simp
theorem pe_listZip {X : Cx} {K : PySem.W.Frag} {e : Expr} {te : TE} {p p2 ps pos pos2 : Pos} (hK : X.K = K) (hc : X.calm = true) (hgl : Gl X "list") (hml : X.mg "list" = none) (hgz : Gl X "zip") (hmz : X.mg "zip" = none) (he : PE X e te)
    (hs : starEach [.Starred e ps] X.env = [(true, eval e X.env)] := by rfl)
    (hs2 : starEach [.Call (.Name "zip" p2) [.Starred e ps] [] pos2] X.env = (false, eval (.Call (.Name "zip" p2) [.Starred e ps] [] pos2) X.env) :: starEach [] X.env := by rfl) (hpl : (backTo pos (starEach [] X.env)).any (·.1) = false := by rfl) :
    PE X (.Call (.Name "list" p) [.Call (.Name "zip" p2) [.Starred e ps] [] pos2] [] pos) (tListZip K te) := by
  subst hK
  refine ⟨fun pins s σ H R I h => ?_⟩
  refine Call_ (ld_blt I hgl hml boot_list (PyProof.Rows.callWith_type1 ?_ hs2 hpl))
  rw [hs2]
  refine Calls.spliced_cons ?_
  refine Call_ (ld_blt I hgz hmz PyProof.Rows.boot_zip (callWith_S_type ?_ hs))
  refine thn (he.run pins s σ H _ I h) fun u s1 ⟨y, H1, I1, ry, a, rs, n, ey, hx, hrs, hl3, n0, n1, q⟩ => ?_
  subst ey
  obtain rfl : u = Value.ref a := ry
  refine StX.star_any I1 hx fun us s2 I2 rv => ?_
  obtain ⟨ts, e1, e2, e3, e4⟩ := tuples_of I2 rs us rv fun r m => (hrs r m).1
  subst e1
  have hts : ts ≠ [] := fun z => by
    rw [z] at e2
    simp at e2
    omega
  have hln : ts.length ≤ sizeLine := Nat.le_trans (show ts.length ≤ 1000 by omega) (by decide)
  refine zip_new e3 (by omega) fun h3 Z => Calls.spliced_nil ?_
  obtain ⟨hp, g, d, tk, os⟩ := s2
  have D := zNew_sep Z rfl e3 hts hln
  have hsz : ∀ e ∈ zL hp.objs.size ts, e.2.2.size = n := fun e m => by
    obtain ⟨i, t, g1, g2⟩ := zL_mem m
    subst g2
    have hi : i < rs.length := by rw [← e2]; exact (List.getElem?_eq_some_iff.mp g1).1
    obtain ⟨t', g3, _, g4⟩ := e4 i rs[i] (List.getElem?_eq_getElem hi)
    rw [g1] at g3
    cases g3
    have := g4.length
    rw [(hrs rs[i] (List.getElem_mem hi)).2] at this
    simpa using this.symm
  have ZZ : ZS (zL hp.objs.size ts) (hp.objs.size + ts.length + 2) (hp.objs.size + ts.length) (hp.objs.size + ts.length + 1) h3.objs.size (h3.objs.size + 1) hp 0 (h3.push { cls := .type "list", data := .seq #[] }) := by
    have up : ∀ c o, h3.get? c = some o → (h3.push { cls := .type "list", data := .seq #[] }).get? c = some o := fun c o e => Heap.get?_push_of_some _ e
    refine ⟨Heap.size_push .., fun j hj => absurd hj (Nat.not_lt_zero j), fun e m => ?_, fun e m => ?_, up _ _ Z.ti, .inl ⟨rfl, up _ _ Z.z, by simpa [zL] using up _ _ Z.to⟩, fun c o _ _ _ _ e => up c o (Z.keep c o e)⟩
    · obtain ⟨i, t, g1, g2⟩ := zL_mem m
      subst g2
      exact ⟨_, up _ _ (Z.its i t g1), rfl, rfl⟩
    · obtain ⟨i, t, g1, g2⟩ := zL_mem m
      subst g2
      exact (e3 t (List.mem_of_getElem? g1)).at fun o e => up _ o (Z.keep _ o e)
  refine call_listZ (I2.ok.hd hc) D hsz n0 (Nat.le_trans n1 (by decide)) ZZ fun h' F' => ?_
  have le3 : hp.objs.size + ts.length + 3 = h3.objs.size := Z.size.symm
  let B : Addr := h3.objs.size + 1
  let H2 : Hp := fun b => if b = h3.objs.size then some (.lst ((List.range n).map fun j => V.ref (B + j))) else if B ≤ b ∧ b < B + n then some (.tup (rs.map fun r => r.2.getD (b - B) .non)) else H1 b
  have hbs : hp.objs.size ≤ h3.objs.size := by rw [← le3]; exact Nat.le_trans (Nat.le_add_right _ _) (Nat.le_add_right _ _)
  have h2S : H2 h3.objs.size = some (.lst ((List.range n).map fun j => V.ref (B + j))) := if_pos rfl
  have h2T : ∀ j, j < n → H2 (B + j) = some (.tup (rs.map fun r => r.2.getD j .non)) := fun j hj => by
    show (if _ then _ else if _ then _ else _) = _
    rw [if_neg (ne_nat (.inr (Nat.lt_of_lt_of_le (Nat.lt_succ_self _) (Nat.le_add_right _ j)))), if_pos ⟨Nat.le_add_right _ _, Nat.add_lt_add_left hj _⟩, Nat.add_sub_cancel_left]
  have h2O : ∀ b, b < hp.objs.size → H2 b = H1 b := fun b hb => by
    show (if _ then _ else if _ then _ else _) = _
    rw [if_neg (ne_nat (.inl (Nat.lt_of_lt_of_le hb hbs))), if_neg (fun z => absurd (Nat.lt_of_lt_of_le hb hbs) (Nat.not_lt.mpr (Nat.le_trans (Nat.le_succ _) z.1)))]
  have I3 : Inv X pins σ H2 ⟨h', g, d, tk, os⟩ := by
    refine Inv.grown (t' := tk) I2 (fun b u e => ?_) h2O (fun b u hb e => ?_)
    · have hb : b < hp.objs.size := Heap.lt_size e
      refine F'.keep b u (ne_nat (.inl ?_)) (ne_nat (.inl ?_)) (ne_nat (.inl (Nat.lt_of_lt_of_le hb hbs))) (fun e m => ?_) e
      · exact Nat.lt_of_lt_of_le hb (Nat.le_trans (Nat.le_add_right _ _) (Nat.le_add_right _ _))
      · exact Nat.lt_of_lt_of_le hb (Nat.le_trans (Nat.le_add_right _ _) (Nat.le_add_right _ _))
      · obtain ⟨i, t, g1, g2⟩ := zL_mem m
        subst g2
        exact ne_nat (.inl (Nat.lt_of_lt_of_le hb (Nat.le_add_right _ _)))
    · by_cases c1 : b = h3.objs.size
      · subst c1
        rw [h2S] at e
        cases e
        obtain ⟨c, hl⟩ := F'.lst
        refine ⟨by rw [List.length_map, List.length_range]; exact Nat.le_trans n1 (by decide), rgV B n, c, ?_, hl⟩
        clear hl
        unfold Rw.rgV
        generalize List.range n = l
        induction l with
        | nil => exact .nil
        | cons x l ih => exact .cons rfl ih
      · by_cases c2 : B ≤ b ∧ b < B + n
        · obtain ⟨j, rfl⟩ := Nat.exists_eq_add_of_le c2.1
          have hj : j < n := Nat.lt_of_add_lt_add_left c2.2
          rw [h2T j hj] at e
          cases e
          refine ⟨by rw [List.length_map]; exact Nat.le_trans (show rs.length ≤ 1000 by omega) (by decide), _, vals_col hj rs ts e2 (fun r m => (hrs r m).2) e4, _, F'.got j hj, rfl, 0, ?_⟩
          rw [colV_zL]
        · have e' : H1 b = some u := by
            have : H2 b = H1 b := by
              show (if _ then _ else if _ then _ else _) = _
              rw [if_neg c1, if_neg c2]
            rw [← this]
            exact e
          rw [I2.hok.fresh hb] at e'
          cases e'
  refine ⟨.ref h3.objs.size, H2, I3, rfl, q h3.objs.size B H2 (I2.hok.fresh hbs) (fun j _ => I2.hok.fresh (Nat.le_trans hbs (Nat.le_trans (Nat.le_succ _) (Nat.le_add_right _ _)))) (fun b o e => (h2O b (I2.hok b o e).lt).trans e) h2S h2T⟩
end Rw

set_option Elab.async false
set_option linter.all false
set_option maxRecDepth 100000
set_option maxHeartbeats 4000000
/-! rules of our own: () + t; a range kept as a value, walked -/
namespace Rw
open PySem PySem.Spec PyProof.Rows L2
theorem tuple_addW0 (l b : Addr) (items items2 : Array Value) (n n2 : Nat) (dd dd2 : Option Addr) (sl sl2 : Array (Option Value)) (hc0 : items.isEmpty = true) :
    Meets (Builtin.«tuple.__add__» ⟨[.ref l, .ref b], []⟩) (fun _ R s => s.heap.get? l = some { cls := .type "tuple", dict := dd, data := .seq items n, slots := sl } ∧ s.heap.get? b = some { cls := .type "tuple", dict := dd2, data := .seq items2 n2, slots := sl2 } ∧ R (.ok (.ret (Value.ref b))) { s with heap := s.heap, toks := s.toks }) :=
  .of_wp fun prog w A R s h => by obtain ⟨hp, g, d, tk, os⟩ := s; obtain ⟨hl, hb, h⟩ := h; have f1 := AutoSeq1.idx_int; have f2 := AutoSeq1.sub_tuple_tuple; have f3 := AutoSeq1.sub_list_list; have f4 := AutoSeq1.sub_tuple_list; have f5 := AutoSeq1.sub_list_tuple; wp_walk using AutoSeq1.wpAny_loadPart' hl, AutoSeq1.wpAny_loadPart' hb; exact ⟨_, rfl, h⟩
section
variable {prog : Program} {w : World} {A : Around} {E : Value → Shared → Prop} {s : Shared}
theorem cat_tup0 {t b : Addr} {ws : List Value} {Q : Value → Shared → Prop} (ht : IsTup s.heap t #[]) (hb : IsTup s.heap b ws.toArray) (h1 : Q (.ref b) s) : wpAny (model prog w) A (binaryOp .Add (.ref t) (.ref b)) Q E s := by
  obtain ⟨⟨cls, dd, data, sl⟩, ho, hc, n, hd⟩ := id ht
  obtain ⟨⟨cls2, dd2, data2, sl2⟩, ho2, hc2, n2, hd2⟩ := id hb
  simp only at hc hd hc2 hd2
  subst hc hd hc2 hd2
  exact concat_meets ⟨_, ho, rfl⟩ ⟨_, ho2, rfl⟩ noFill_tuple_add seq_tuple_add PySem.F.slot_tuple_add PySem.F.entry_tuple_add (PySem.F.args_tuple_add_2 _ _)
    (tuple_addW0 t b #[] ws.toArray n n2 dd dd2 sl sl2 rfl) ⟨ho, ho2, h1⟩
end
/-- t + u, u not empty -/
def rCatU (K : PySem.W.Frag) : R2 := fun x y H Q => ∃ a b xs ys, x = .ref a ∧ y = .ref b ∧ SqT K H a xs ∧ SqT K H b ys ∧ ys ≠ [] ∧ xs.length + ys.length ≤ sizeLine ∧
  (xs = [] → Q (.ref b) H) ∧ (xs ≠ [] → ∀ p, H p = none → Q (.ref p) (upd H p (.tup (xs ++ ys))))
theorem op_catU {X : Cx} : OpR X (binaryOp .Add) (rCatU X.K) := by
  intro pins s σ H x y v u Q I rx ry h
  obtain ⟨a, b, xs, ys, rfl, rfl, ha, hb, hy, hz, q1, q2⟩ := h
  by_cases hx : xs = []
  · subst hx
    cases rx
    cases ry
    obtain ⟨its, r1, p1, _⟩ := I.tuple ha
    obtain ⟨its2, r2, p2, _⟩ := I.tuple hb
    cases r1
    exact cat_tup0 p1 p2 ⟨.ref b, H, I, rfl, q1 rfl⟩
  · exact op_catT pins s σ H _ _ v u Q I rx ry ⟨a, b, xs, ys, rfl, rfl, ha, hb, hx, hz, fun z => absurd z hy, fun _ => q2 hx⟩
theorem w_catU {X : Cx} {K : PySem.W.Frag} (h : X.K = K := by rfl) : OpR X (binaryOp .Add) (rCatU K) := by subst h; exact op_catU
/-! ### range(n) as a value, walked -/
def rRng1 : List V → Hp → VK → Prop := fun vs H Q => ∃ j : Int, vs = [V.int j] ∧ ∀ p, H p = none → Q (.ref p) (upd H p (.rng 0 j))
theorem cr_range1 {X : Cx} : CallR X (.type "range") rRng1 := by
  intro pins s σ H vs us Q I r h
  obtain ⟨j, rfl, q⟩ := h
  obtain ⟨u, rfl, ru⟩ := vals1 r
  obtain ⟨t, rfl⟩ := ru
  refine call_range_1 ⟨.ref s.heap.objs.size, upd H s.heap.objs.size (.rng 0 j), I.laid (t' := s.toks + 1 + 1) (fun b o e => Heap.get?_push_of_some _ e) (Nat.le_refl _) ?_, rfl, q _ (I.hok.fresh (Nat.le_refl _))⟩
  exact ⟨s.toks, t, s.toks + 1, Heap.get?_push_size _ rfl⟩
def iRngV (te : TE) : TI := fun σ H R => te σ H fun x H1 => ∃ a lo hi, x = .ref a ∧ H1 a = some (.rng lo hi) ∧ (-(2 ^ 62) ≤ lo ∧ lo < 2 ^ 62 ∧ -(2 ^ 62) ≤ hi ∧ hi < 2 ^ 62) ∧ R (Itr lo (hi - lo).toNat) H1
theorem pi_rng {X : Cx} {tg e : Expr} {te : TE} (he : PE X e te) : PI X tg e (iRngV te) := by
  refine ⟨fun pins s σ H R I h => ?_⟩
  refine thn (he.run pins s σ H _ I h) fun u s1 ⟨x, H1, I1, rx, a, lo, hi, ex, ha, ⟨h1, h2, h3, h4⟩, q⟩ => ?_
  subst ex
  obtain rfl : u = Value.ref a := rx
  obtain ⟨t1, t2, t3, ho⟩ := I1.hok a _ ha
  refine wpAny_pyIter_range (show IsRange s1.heap a lo hi 1 t1 t2 t3 from ho) (small_one h1 h2 h3 h4) ?_
  refine ⟨s1.heap.objs.size, [s1.heap.objs.size], _, _, H1, rfl, I1.kept (t' := s1.toks) fun b o e => Heap.get?_push_of_some _ e, turn_range _ lo (hi - lo).toNat, ?_, fun b hb => ?_, q⟩
  · have e1 : lo + ((0 : Nat) : Int) * 1 = lo := by simp
    have e2 : (((hi - lo).toNat : Nat) : Int) - ((0 : Nat) : Int) = Builtin.Range.rangeSize lo hi 1 := by rw [rangeSize_one]; split <;> omega
    show IsRangeIter _ _ (lo + ((0 : Nat) : Int) * 1) ((((hi - lo).toNat : Nat) : Int) - ((0 : Nat) : Int)) 1
    rw [e1, e2]
    exact Heap.get?_push_size _ rfl
  · have e : b = s1.heap.objs.size := by simpa using hb
    subst e
    exact I1.fpOk (Nat.le_refl _) (I1.hok.fresh (Nat.le_refl _))
end Rw

set_option Elab.async false
set_option linter.all false
set_option maxRecDepth 100000
set_option maxHeartbeats 4000000
namespace K6
open PySem PySem.Spec PyProof.Rows L2 Rw
/-! ### the text by places, the names of each def -/
def topS (i : Nat) : Stmt := PySem.Challenge.pw_rowreaders_k51_whole_values_of_rows.main.body.getD i (.Pass ⟨0, 0, 0, 0⟩)
abbrev s_is_integer : Stmt := topS 12
abbrev n_is_integer : List Str := ["value"]
abbrev p_is_integer : List Str := ["value"]
theorem sc_is_integer : FnScope n_is_integer p_is_integer (defScope s_is_integer) := ⟨rfl, rfl, rfl, by decide +kernel, rfl, by decide +kernel, by decide +kernel⟩
abbrev s_is_between : Stmt := topS 13
abbrev n_is_between : List Str := ["value", "low", "high"]
abbrev p_is_between : List Str := ["value", "low", "high"]
theorem sc_is_between : FnScope n_is_between p_is_between (defScope s_is_between) := ⟨rfl, rfl, rfl, by decide +kernel, rfl, by decide +kernel, by decide +kernel⟩
abbrev s_is_row : Stmt := topS 14
abbrev n_is_row : List Str := ["value", "signs", "most", "letters", "sign"]
abbrev p_is_row : List Str := ["value", "signs", "most"]
theorem sc_is_row : FnScope n_is_row p_is_row (defScope s_is_row) := ⟨rfl, rfl, rfl, by decide +kernel, rfl, by decide +kernel, by decide +kernel⟩
abbrev s_check_signs : Stmt := topS 15
abbrev n_check_signs : List Str := ["signs"]
abbrev p_check_signs : List Str := ["signs"]
theorem sc_check_signs : FnScope n_check_signs p_check_signs (defScope s_check_signs) := ⟨rfl, rfl, rfl, by decide +kernel, rfl, by decide +kernel, by decide +kernel⟩
abbrev s_check_row : Stmt := topS 16
abbrev n_check_row : List Str := ["signs", "row"]
abbrev p_check_row : List Str := ["signs", "row"]
theorem sc_check_row : FnScope n_check_row p_check_row (defScope s_check_row) := ⟨rfl, rfl, rfl, by decide +kernel, rfl, by decide +kernel, by decide +kernel⟩
abbrev s_check_length : Stmt := topS 17
abbrev n_check_length : List Str := ["length"]
abbrev p_check_length : List Str := ["length"]
theorem sc_check_length : FnScope n_check_length p_check_length (defScope s_check_length) := ⟨rfl, rfl, rfl, by decide +kernel, rfl, by decide +kernel, by decide +kernel⟩
abbrev s_dot : Stmt := topS 19
abbrev n_dot : List Str := ["row", "column", "one", "other"]
abbrev p_dot : List Str := ["row", "column"]
theorem sc_dot : FnScope n_dot p_dot (defScope s_dot) := ⟨rfl, rfl, rfl, by decide +kernel, rfl, by decide +kernel, by decide +kernel⟩
abbrev s_Weigher_init : Stmt := inClass (topS 22) 0
abbrev n_Weigher_init : List Str := ["self", "signs", "begins", "tables", "goals", "table"]
abbrev p_Weigher_init : List Str := ["self", "signs", "begins", "tables", "goals"]
theorem sc_Weigher_init : FnScope n_Weigher_init p_Weigher_init (defScope s_Weigher_init) := ⟨rfl, rfl, rfl, by decide +kernel, rfl, by decide +kernel, by decide +kernel⟩
abbrev s_Weigher_signs : Stmt := inClass (topS 22) 1
abbrev n_Weigher_signs : List Str := ["self"]
abbrev p_Weigher_signs : List Str := ["self"]
theorem sc_Weigher_signs : FnScope n_Weigher_signs p_Weigher_signs (defScope s_Weigher_signs) := ⟨rfl, rfl, rfl, by decide +kernel, rfl, by decide +kernel, by decide +kernel⟩
abbrev s_Weigher_size : Stmt := inClass (topS 22) 2
abbrev n_Weigher_size : List Str := ["self"]
abbrev p_Weigher_size : List Str := ["self"]
theorem sc_Weigher_size : FnScope n_Weigher_size p_Weigher_size (defScope s_Weigher_size) := ⟨rfl, rfl, rfl, by decide +kernel, rfl, by decide +kernel, by decide +kernel⟩
abbrev s_Weigher_begins : Stmt := inClass (topS 22) 3
abbrev n_Weigher_begins : List Str := ["self"]
abbrev p_Weigher_begins : List Str := ["self"]
theorem sc_Weigher_begins : FnScope n_Weigher_begins p_Weigher_begins (defScope s_Weigher_begins) := ⟨rfl, rfl, rfl, by decide +kernel, rfl, by decide +kernel, by decide +kernel⟩
abbrev s_Weigher_tables : Stmt := inClass (topS 22) 4
abbrev n_Weigher_tables : List Str := ["self"]
abbrev p_Weigher_tables : List Str := ["self"]
theorem sc_Weigher_tables : FnScope n_Weigher_tables p_Weigher_tables (defScope s_Weigher_tables) := ⟨rfl, rfl, rfl, by decide +kernel, rfl, by decide +kernel, by decide +kernel⟩
abbrev s_Weigher_goals : Stmt := inClass (topS 22) 5
abbrev n_Weigher_goals : List Str := ["self"]
abbrev p_Weigher_goals : List Str := ["self"]
theorem sc_Weigher_goals : FnScope n_Weigher_goals p_Weigher_goals (defScope s_Weigher_goals) := ⟨rfl, rfl, rfl, by decide +kernel, rfl, by decide +kernel, by decide +kernel⟩
abbrev s_Weigher_eq : Stmt := inClass (topS 22) 6
abbrev n_Weigher_eq : List Str := ["self", "other"]
abbrev p_Weigher_eq : List Str := ["self", "other"]
theorem sc_Weigher_eq : FnScope n_Weigher_eq p_Weigher_eq (defScope s_Weigher_eq) := ⟨rfl, rfl, rfl, by decide +kernel, rfl, by decide +kernel, by decide +kernel⟩
abbrev s_is_weights : Stmt := topS 23
abbrev n_is_weights : List Str := ["value", "size", "number"]
abbrev p_is_weights : List Str := ["value", "size"]
theorem sc_is_weights : FnScope n_is_weights p_is_weights (defScope s_is_weights) := ⟨rfl, rfl, rfl, by decide +kernel, rfl, by decide +kernel, by decide +kernel⟩
abbrev s_is_table : Stmt := topS 24
abbrev n_is_table : List Str := ["value", "size", "row"]
abbrev p_is_table : List Str := ["value", "size"]
theorem sc_is_table : FnScope n_is_table p_is_table (defScope s_is_table) := ⟨rfl, rfl, rfl, by decide +kernel, rfl, by decide +kernel, by decide +kernel⟩
abbrev s_check_weigher : Stmt := topS 25
abbrev n_check_weigher : List Str := ["weigher"]
abbrev p_check_weigher : List Str := ["weigher"]
theorem sc_check_weigher : FnScope n_check_weigher p_check_weigher (defScope s_check_weigher) := ⟨rfl, rfl, rfl, by decide +kernel, rfl, by decide +kernel, by decide +kernel⟩
abbrev s_turned_table : Stmt := topS 26
abbrev n_turned_table : List Str := ["table"]
abbrev p_turned_table : List Str := ["table"]
theorem sc_turned_table : FnScope n_turned_table p_turned_table (defScope s_turned_table) := ⟨rfl, rfl, rfl, by decide +kernel, rfl, by decide +kernel, by decide +kernel⟩
abbrev s_value : Stmt := topS 27
abbrev n_value : List Str := ["weigher", "row", "columns", "numbers", "sign", "table", "column"]
abbrev p_value : List Str := ["weigher", "row"]
theorem sc_value : FnScope n_value p_value (defScope s_value) := ⟨rfl, rfl, rfl, by decide +kernel, rfl, by decide +kernel, by decide +kernel⟩
abbrev s_total : Stmt := topS 28
abbrev n_total : List Str := ["weigher", "length", "places", "sums", "numbers", "_", "two", "one", "table", "column"]
abbrev p_total : List Str := ["weigher", "length"]
theorem sc_total : FnScope n_total p_total (defScope s_total) := ⟨rfl, rfl, rfl, by decide +kernel, rfl, by decide +kernel, by decide +kernel⟩
abbrev s_l_flask : Stmt := topS 30
abbrev n_l_flask : List Str := ["_law_script", "_law_k", "_law_own", "_law_mixed", "_law_entry_here"]
abbrev p_l_flask : List Str := ["_law_script", "_law_k"]
theorem sc_l_flask : FnScope n_l_flask p_l_flask (defScope s_l_flask) := ⟨rfl, rfl, rfl, by decide +kernel, rfl, by decide +kernel, by decide +kernel⟩
abbrev s_l_pour : Stmt := topS 31
abbrev n_l_pour : List Str := ["_law_flask_here", "_law_top", "_law_digit", "_law_level_here", "_law_factor"]
abbrev p_l_pour : List Str := ["_law_flask_here", "_law_top"]
theorem sc_l_pour : FnScope n_l_pour p_l_pour (defScope s_l_pour) := ⟨rfl, rfl, rfl, by decide +kernel, rfl, by decide +kernel, by decide +kernel⟩
abbrev s_l_pick : Stmt := topS 32
abbrev n_l_pick : List Str := ["_law_flask_here", "_law_some"]
abbrev p_l_pick : List Str := ["_law_flask_here", "_law_some"]
theorem sc_l_pick : FnScope n_l_pick p_l_pick (defScope s_l_pick) := ⟨rfl, rfl, rfl, by decide +kernel, rfl, by decide +kernel, by decide +kernel⟩
abbrev s_l_parts : Stmt := topS 33
abbrev n_l_parts : List Str := ["_law_flask_here", "_law_signs", "_law_most", "_law_size", "_law_menu", "_law_tables_here", "_law_sign", "_law_begins_here", "_law_j", "_law_k"]
abbrev p_l_parts : List Str := ["_law_flask_here", "_law_signs", "_law_most"]
theorem sc_l_parts : FnScope n_l_parts p_l_parts (defScope s_l_parts) := ⟨rfl, rfl, rfl, by decide +kernel, rfl, by decide +kernel, by decide +kernel⟩
abbrev s_l_value : Stmt := topS 34
abbrev n_l_value : List Str := ["_law_parts_here", "_law_row", "_law_line", "_law_letter", "_law_table_here", "_law_k", "_law_j"]
abbrev p_l_value : List Str := ["_law_parts_here", "_law_row"]
theorem sc_l_value : FnScope n_l_value p_l_value (defScope s_l_value) := ⟨rfl, rfl, rfl, by decide +kernel, rfl, by decide +kernel, by decide +kernel⟩
abbrev s_l_made : Stmt := topS 35
abbrev n_l_made : List Str := ["_law_signs", "_law_parts_here"]
abbrev p_l_made : List Str := ["_law_signs", "_law_parts_here"]
theorem sc_l_made : FnScope n_l_made p_l_made (defScope s_l_made) := ⟨rfl, rfl, rfl, by decide +kernel, rfl, by decide +kernel, by decide +kernel⟩
abbrev s_l_words : Stmt := topS 36
abbrev n_l_words : List Str := ["_law_signs", "_law_most", "_law_found", "_law_layer", "_law_turn", "_law_longer", "_law_row", "_law_letter"]
abbrev p_l_words : List Str := ["_law_signs", "_law_most"]
theorem sc_l_words : FnScope n_l_words p_l_words (defScope s_l_words) := ⟨rfl, rfl, rfl, by decide +kernel, rfl, by decide +kernel, by decide +kernel⟩
abbrev s_l_one_right : Stmt := topS 37
abbrev n_l_one_right : List Str := ["_law_flask_here", "_law_signs", "_law_parts_here", "_law_mine", "_law_told", "_law_rows_here", "_law_length", "_law_long", "_law_row", "_law_turn"]
abbrev p_l_one_right : List Str := ["_law_flask_here", "_law_signs", "_law_parts_here"]
theorem sc_l_one_right : FnScope n_l_one_right p_l_one_right (defScope s_l_one_right) := ⟨rfl, rfl, rfl, by decide +kernel, rfl, by decide +kernel, by decide +kernel⟩
abbrev s_l_equal_right : Stmt := topS 38
abbrev n_l_equal_right : List Str := ["_law_signs", "_law_parts_here", "_law_others", "_law_mine", "_law_far", "_law_begins_here", "_law_tables_here", "_law_goals_here", "_law_twin", "_law_bent"]
abbrev p_l_equal_right : List Str := ["_law_signs", "_law_parts_here", "_law_others"]
theorem sc_l_equal_right : FnScope n_l_equal_right p_l_equal_right (defScope s_l_equal_right) := ⟨rfl, rfl, rfl, by decide +kernel, rfl, by decide +kernel, by decide +kernel⟩
abbrev s_l_right : Stmt := topS 39
abbrev n_l_right : List Str := ["_law_flask_here", "_law_turn", "_law_signs", "_law_parts_here", "_law_others"]
abbrev p_l_right : List Str := ["_law_flask_here"]
theorem sc_l_right : FnScope n_l_right p_l_right (defScope s_l_right) := ⟨rfl, rfl, rfl, by decide +kernel, rfl, by decide +kernel, by decide +kernel⟩
abbrev s_law : Stmt := topS 40
abbrev n_law : List Str := ["_law_script", "_law_k"]
abbrev p_law : List Str := ["_law_script"]
theorem sc_law : FnScope n_law p_law (defScope s_law) := ⟨rfl, rfl, rfl, by decide +kernel, rfl, by decide +kernel, by decide +kernel⟩
/-! ### where the defs stand -/
structure Ad where
  is_integer : Addr
  is_between : Addr
  is_row : Addr
  check_signs : Addr
  check_row : Addr
  check_length : Addr
  dot : Addr
  Weigher_init : Addr
  Weigher_signs : Addr
  Weigher_size : Addr
  Weigher_begins : Addr
  Weigher_tables : Addr
  Weigher_goals : Addr
  Weigher_eq : Addr
  is_weights : Addr
  is_table : Addr
  check_weigher : Addr
  turned_table : Addr
  value : Addr
  total : Addr
  l_flask : Addr
  l_pour : Addr
  l_pick : Addr
  l_parts : Addr
  l_value : Addr
  l_made : Addr
  l_words : Addr
  l_one_right : Addr
  l_equal_right : Addr
  l_right : Addr
  law : Addr
  C : Addr
  pr_signs : Addr
  pr_size : Addr
  pr_begins : Addr
  pr_tables : Addr
  pr_goals : Addr
structure Txt (K : PySem.W.Frag) (mg : Str → Option Value) (A : Ad) : Prop where
  b_abs : mg "abs" = none
  b_all : mg "all" = none
  b_bool : mg "bool" = none
  b_divmod : mg "divmod" = none
  b_int : mg "int" = none
  b_isinstance : mg "isinstance" = none
  b_len : mg "len" = none
  b_list : mg "list" = none
  b_max : mg "max" = none
  b_min : mg "min" = none
  b_range : mg "range" = none
  b_repr : mg "repr" = none
  b_str : mg "str" = none
  b_sum : mg "sum" = none
  b_tuple : mg "tuple" = none
  b_zip : mg "zip" = none
  c_ALPHABET : ∃ t, mg "ALPHABET" = some (.str "abcdefgh" t)
  c_MOST_ROW : ∃ t, mg "MOST_ROW" = some (.int 200 t)
  c_MOST_SIGNS : ∃ t, mg "MOST_SIGNS" = some (.int 8 t)
  c_MOST_SIZE : ∃ t, mg "MOST_SIZE" = some (.int 6 t)
  c_MOST_WEIGHT : ∃ t, mg "MOST_WEIGHT" = some (.int 1000 t)
  m_is_integer : mg "is_integer" = some (.ref A.is_integer)
  k_is_integer : PySem.W.keepIn K (.ref A.is_integer) = true
  m_is_between : mg "is_between" = some (.ref A.is_between)
  k_is_between : PySem.W.keepIn K (.ref A.is_between) = true
  m_is_row : mg "is_row" = some (.ref A.is_row)
  k_is_row : PySem.W.keepIn K (.ref A.is_row) = true
  m_check_signs : mg "check_signs" = some (.ref A.check_signs)
  k_check_signs : PySem.W.keepIn K (.ref A.check_signs) = true
  m_check_row : mg "check_row" = some (.ref A.check_row)
  k_check_row : PySem.W.keepIn K (.ref A.check_row) = true
  m_check_length : mg "check_length" = some (.ref A.check_length)
  k_check_length : PySem.W.keepIn K (.ref A.check_length) = true
  m_dot : mg "dot" = some (.ref A.dot)
  k_dot : PySem.W.keepIn K (.ref A.dot) = true
  m_is_weights : mg "is_weights" = some (.ref A.is_weights)
  k_is_weights : PySem.W.keepIn K (.ref A.is_weights) = true
  m_is_table : mg "is_table" = some (.ref A.is_table)
  k_is_table : PySem.W.keepIn K (.ref A.is_table) = true
  m_check_weigher : mg "check_weigher" = some (.ref A.check_weigher)
  k_check_weigher : PySem.W.keepIn K (.ref A.check_weigher) = true
  m_turned_table : mg "turned_table" = some (.ref A.turned_table)
  k_turned_table : PySem.W.keepIn K (.ref A.turned_table) = true
  m_value : mg "value" = some (.ref A.value)
  k_value : PySem.W.keepIn K (.ref A.value) = true
  m_total : mg "total" = some (.ref A.total)
  k_total : PySem.W.keepIn K (.ref A.total) = true
  m_l_flask : mg "_law_flask" = some (.ref A.l_flask)
  k_l_flask : PySem.W.keepIn K (.ref A.l_flask) = true
  m_l_pour : mg "_law_pour" = some (.ref A.l_pour)
  k_l_pour : PySem.W.keepIn K (.ref A.l_pour) = true
  m_l_pick : mg "_law_pick" = some (.ref A.l_pick)
  k_l_pick : PySem.W.keepIn K (.ref A.l_pick) = true
  m_l_parts : mg "_law_parts" = some (.ref A.l_parts)
  k_l_parts : PySem.W.keepIn K (.ref A.l_parts) = true
  m_l_value : mg "_law_value" = some (.ref A.l_value)
  k_l_value : PySem.W.keepIn K (.ref A.l_value) = true
  m_l_made : mg "_law_made" = some (.ref A.l_made)
  k_l_made : PySem.W.keepIn K (.ref A.l_made) = true
  m_l_words : mg "_law_words" = some (.ref A.l_words)
  k_l_words : PySem.W.keepIn K (.ref A.l_words) = true
  m_l_one_right : mg "_law_one_right" = some (.ref A.l_one_right)
  k_l_one_right : PySem.W.keepIn K (.ref A.l_one_right) = true
  m_l_equal_right : mg "_law_equal_right" = some (.ref A.l_equal_right)
  k_l_equal_right : PySem.W.keepIn K (.ref A.l_equal_right) = true
  m_l_right : mg "_law_right" = some (.ref A.l_right)
  k_l_right : PySem.W.keepIn K (.ref A.l_right) = true
  m_law : mg "law" = some (.ref A.law)
  k_law : PySem.W.keepIn K (.ref A.law) = true
  m_Weigher : mg "Weigher" = some (.ref A.C)
  cl : Cls K A.C
  mk_Weigher : Mk K A.C A.Weigher_init
  na_signs : NoAttr K A.C "_signs"
  na_begins : NoAttr K A.C "_begins"
  na_tables : NoAttr K A.C "_tables"
  na_goals : NoAttr K A.C "_goals"
  p_Weigher_signs : PropOf K A.C "signs" A.pr_signs A.Weigher_signs
  p_Weigher_size : PropOf K A.C "size" A.pr_size A.Weigher_size
  p_Weigher_begins : PropOf K A.C "begins" A.pr_begins A.Weigher_begins
  p_Weigher_tables : PropOf K A.C "tables" A.pr_tables A.Weigher_tables
  p_Weigher_goals : PropOf K A.C "goals" A.pr_goals A.Weigher_goals
  t_ha : PySem.W.findIn K (.ref A.C) "__class__" = some (some (.builtin "object.__class__"))
  t_mo : PySem.W.mroIn K A.C (.type "object") = some true
  own_eq : PySem.W.findIn K (.ref A.C) "__eq__" = some (some (.ref A.Weigher_eq))
  isf_eq : PySem.W.isFn K (.ref A.Weigher_eq) = true
  own_ne : PySem.W.findIn K (.ref A.C) "__ne__" = some (some (.builtin "object.__ne__"))
  nb : PySem.W.findIn K (.ref A.C) "__bool__" = some none
  nl : PySem.W.findIn K (.ref A.C) "__len__" = some none
  nf_Weigher : PySem.W.notFirst K A.C (.ref A.C) = true
  nf_tuple : PySem.W.notFirst K A.C (.type "tuple") = true
  kc_tuple : PySem.W.kitOne K (.type "tuple") (.ref A.C) = some false
  t_hn : PySem.W.specialIn K (.builtin "object.__class__") "__get__" = some (some (.builtin "getset_descriptor.__get__"))
  t_tk : PySem.W.takesIn K (.builtin "object.__class__") = some true
/-! ### the defs themselves -/
structure Fds where
  is_integer : FuncData
  is_between : FuncData
  is_row : FuncData
  check_signs : FuncData
  check_row : FuncData
  check_length : FuncData
  dot : FuncData
  Weigher_init : FuncData
  Weigher_signs : FuncData
  Weigher_size : FuncData
  Weigher_begins : FuncData
  Weigher_tables : FuncData
  Weigher_goals : FuncData
  Weigher_eq : FuncData
  is_weights : FuncData
  is_table : FuncData
  check_weigher : FuncData
  turned_table : FuncData
  value : FuncData
  total : FuncData
  l_flask : FuncData
  l_pour : FuncData
  l_pick : FuncData
  l_parts : FuncData
  l_value : FuncData
  l_made : FuncData
  l_words : FuncData
  l_one_right : FuncData
  l_equal_right : FuncData
  l_right : FuncData
  law : FuncData
structure Funs (K : PySem.W.Frag) (A : Ad) (fd : Fds) : Prop where
  F_is_integer : Fun K "is_integer" "is_integer" s_is_integer A.is_integer fd.is_integer
  b_is_integer : L2.Binds K fd.is_integer p_is_integer []
  F_is_between : Fun K "is_between" "is_between" s_is_between A.is_between fd.is_between
  b_is_between : L2.Binds K fd.is_between p_is_between []
  F_is_row : Fun K "is_row" "is_row" s_is_row A.is_row fd.is_row
  b_is_row : L2.Binds K fd.is_row p_is_row []
  F_check_signs : Fun K "check_signs" "check_signs" s_check_signs A.check_signs fd.check_signs
  b_check_signs : L2.Binds K fd.check_signs p_check_signs []
  F_check_row : Fun K "check_row" "check_row" s_check_row A.check_row fd.check_row
  b_check_row : L2.Binds K fd.check_row p_check_row []
  F_check_length : Fun K "check_length" "check_length" s_check_length A.check_length fd.check_length
  b_check_length : L2.Binds K fd.check_length p_check_length []
  F_dot : Fun K "dot" "dot" s_dot A.dot fd.dot
  b_dot : L2.Binds K fd.dot p_dot []
  F_Weigher_init : Fun K "__init__" "Weigher.__init__" s_Weigher_init A.Weigher_init fd.Weigher_init
  b_Weigher_init : L2.Binds K fd.Weigher_init p_Weigher_init []
  F_Weigher_signs : Fun K "signs" "Weigher.signs" s_Weigher_signs A.Weigher_signs fd.Weigher_signs
  b_Weigher_signs : L2.Binds K fd.Weigher_signs p_Weigher_signs []
  F_Weigher_size : Fun K "size" "Weigher.size" s_Weigher_size A.Weigher_size fd.Weigher_size
  b_Weigher_size : L2.Binds K fd.Weigher_size p_Weigher_size []
  F_Weigher_begins : Fun K "begins" "Weigher.begins" s_Weigher_begins A.Weigher_begins fd.Weigher_begins
  b_Weigher_begins : L2.Binds K fd.Weigher_begins p_Weigher_begins []
  F_Weigher_tables : Fun K "tables" "Weigher.tables" s_Weigher_tables A.Weigher_tables fd.Weigher_tables
  b_Weigher_tables : L2.Binds K fd.Weigher_tables p_Weigher_tables []
  F_Weigher_goals : Fun K "goals" "Weigher.goals" s_Weigher_goals A.Weigher_goals fd.Weigher_goals
  b_Weigher_goals : L2.Binds K fd.Weigher_goals p_Weigher_goals []
  F_Weigher_eq : Fun K "__eq__" "Weigher.__eq__" s_Weigher_eq A.Weigher_eq fd.Weigher_eq
  b_Weigher_eq : L2.Binds K fd.Weigher_eq p_Weigher_eq []
  F_is_weights : Fun K "is_weights" "is_weights" s_is_weights A.is_weights fd.is_weights
  b_is_weights : L2.Binds K fd.is_weights p_is_weights []
  F_is_table : Fun K "is_table" "is_table" s_is_table A.is_table fd.is_table
  b_is_table : L2.Binds K fd.is_table p_is_table []
  F_check_weigher : Fun K "check_weigher" "check_weigher" s_check_weigher A.check_weigher fd.check_weigher
  b_check_weigher : L2.Binds K fd.check_weigher p_check_weigher []
  F_turned_table : Fun K "turned_table" "turned_table" s_turned_table A.turned_table fd.turned_table
  b_turned_table : L2.Binds K fd.turned_table p_turned_table []
  F_value : Fun K "value" "value" s_value A.value fd.value
  b_value : L2.Binds K fd.value p_value []
  F_total : Fun K "total" "total" s_total A.total fd.total
  b_total : L2.Binds K fd.total p_total []
  F_l_flask : Fun K "_law_flask" "_law_flask" s_l_flask A.l_flask fd.l_flask
  b_l_flask : L2.Binds K fd.l_flask p_l_flask []
  F_l_pour : Fun K "_law_pour" "_law_pour" s_l_pour A.l_pour fd.l_pour
  b_l_pour : L2.Binds K fd.l_pour p_l_pour []
  F_l_pick : Fun K "_law_pick" "_law_pick" s_l_pick A.l_pick fd.l_pick
  b_l_pick : L2.Binds K fd.l_pick p_l_pick []
  F_l_parts : Fun K "_law_parts" "_law_parts" s_l_parts A.l_parts fd.l_parts
  b_l_parts : L2.Binds K fd.l_parts p_l_parts []
  F_l_value : Fun K "_law_value" "_law_value" s_l_value A.l_value fd.l_value
  b_l_value : L2.Binds K fd.l_value p_l_value []
  F_l_made : Fun K "_law_made" "_law_made" s_l_made A.l_made fd.l_made
  b_l_made : L2.Binds K fd.l_made p_l_made []
  F_l_words : Fun K "_law_words" "_law_words" s_l_words A.l_words fd.l_words
  b_l_words : L2.Binds K fd.l_words p_l_words []
  F_l_one_right : Fun K "_law_one_right" "_law_one_right" s_l_one_right A.l_one_right fd.l_one_right
  b_l_one_right : L2.Binds K fd.l_one_right p_l_one_right []
  F_l_equal_right : Fun K "_law_equal_right" "_law_equal_right" s_l_equal_right A.l_equal_right fd.l_equal_right
  b_l_equal_right : L2.Binds K fd.l_equal_right p_l_equal_right []
  F_l_right : Fun K "_law_right" "_law_right" s_l_right A.l_right fd.l_right
  b_l_right : L2.Binds K fd.l_right p_l_right []
  F_law : Fun K "law" "law" s_law A.law fd.law
  b_law : L2.Binds K fd.law p_law []
end K6

set_option Elab.async false
set_option linter.all false
set_option maxRecDepth 100000
set_option maxHeartbeats 4000000
namespace K6
open PySem PySem.Spec PyProof.Rows L2 Rw
/-! ### data that stands in the heap -/
section
variable {K : PySem.W.Frag} {H H' H1 : Hp}
theorem sqL_mono (s : Same H H') {a : Addr} {xs : List V} (h : SqL K H a xs) : SqL K H' a xs := s.seq h
theorem sqT_mono (s : Same H H') {a : Addr} {xs : List V} (h : SqT K H a xs) : SqT K H' a xs := by
  rcases h with (h | ⟨o, h⟩) | h
  · exact .inl (.inl (s _ _ h))
  · exact .inl (.inr ⟨o, s _ _ h⟩)
  · exact .inr h
mutual
theorem dp_mono (s : Same H H') : ∀ (d : PyData) (v : V), Dp K H v d → Dp K H' v d
  | .none, _, h => by cases h; exact .non
  | .bool b, _, h => by cases h; exact .bl b
  | .int i, _, h => by cases h; exact .int i
  | .str x, _, h => by cases h; exact .str x
  | .list ds, _, h => by
    cases h with
    | lst a b => exact .lst (sqL_mono s a) (dps_mono s ds _ b)
  | .tuple ds, _, h => by
    cases h with
    | tup a b => exact .tup (sqT_mono s a) (dps_mono s ds _ b)
  | .dict _, _, h => by cases h
theorem dps_mono (s : Same H H') : ∀ (ds : List PyData) (vs : List V), DpAll K H vs ds → DpAll K H' vs ds
  | [], _, h => by cases h; exact .nil
  | d :: ds, _, h => by
    cases h with
    | cons a b => exact .cons (dp_mono s d _ a) (dps_mono s ds _ b)
end
theorem dps_len : ∀ {vs : List V} {ds : List PyData}, DpAll K H vs ds → vs.length = ds.length
  | _, _, .nil => rfl
  | _, _, .cons _ b => by
    show _ + 1 = _ + 1
    rw [dps_len b]
theorem dps_get : ∀ {vs : List V} {ds : List PyData} {i : Nat} {d : PyData}, DpAll K H vs ds → ds[i]? = some d → ∃ v, vs[i]? = some v ∧ Dp K H v d
  | _, _, _, _, .nil, h => by simp at h
  | _, _, 0, _, .cons a b, h => by
    have e := Option.some.inj h
    subst e
    exact ⟨_, rfl, a⟩
  | _, _, i + 1, _, .cons a b, h => dps_get (i := i) b h
theorem dps_getV : ∀ {vs : List V} {ds : List PyData} {i : Nat} {v : V}, DpAll K H vs ds → vs[i]? = some v → ∃ d, ds[i]? = some d ∧ Dp K H v d
  | _, _, _, _, .nil, h => by simp at h
  | _, _, 0, _, .cons a b, h => by
    have e := Option.some.inj h
    subst e
    exact ⟨_, rfl, a⟩
  | _, _, i + 1, _, .cons a b, h => dps_getV (i := i) b h
theorem dps_snoc : ∀ {vs : List V} {ds : List PyData} {v : V} {d : PyData}, DpAll K H vs ds → Dp K H v d → DpAll K H (vs ++ [v]) (ds ++ [d])
  | _, _, _, _, .nil, h => .cons h .nil
  | _, _, _, _, .cons a b, h => .cons a (dps_snoc b h)
theorem dps_app : ∀ {vs us : List V} {ds es : List PyData}, DpAll K H vs ds → DpAll K H us es → DpAll K H (vs ++ us) (ds ++ es)
  | _, _, _, _, .nil, h => h
  | _, _, _, _, .cons a b, h => .cons a (dps_app b h)
theorem dps_ints : ∀ {vs : List V} {ns : List Int}, DpAll K H vs (ns.map PyData.int) → vs = ns.map V.int
  | _, [], h => by cases h; rfl
  | _, n :: ns, h => by
    cases h with
    | cons a b =>
      cases a
      rw [dps_ints b]
      rfl
theorem ints_dps : ∀ (ns : List Int), DpAll K H (ns.map V.int) (ns.map PyData.int)
  | [] => .nil
  | n :: ns => .cons (.int n) (ints_dps ns)
theorem dps_strs : ∀ {vs : List V} {ns : List Str}, DpAll K H vs (ns.map PyData.str) → vs = ns.map V.str
  | _, [], h => by cases h; rfl
  | _, n :: ns, h => by
    cases h with
    | cons a b =>
      cases a
      rw [dps_strs b]
      rfl
theorem strs_dps : ∀ (ns : List Str), DpAll K H (ns.map V.str) (ns.map PyData.str)
  | [] => .nil
  | n :: ns => .cons (.str n) (strs_dps ns)
def vO : Option Nat → V
  | none => .non
  | some n => .int (n : Int)
def dO : Option Nat → PyData
  | none => .none
  | some n => .int (n : Int)
theorem dps_opts : ∀ {vs : List V} {ns : List (Option Nat)}, DpAll K H vs (ns.map dO) → vs = ns.map vO
  | _, [], h => by cases h; rfl
  | _, none :: ns, h => by
    cases h with
    | cons a b =>
      cases a
      rw [dps_opts b]
      rfl
  | _, some n :: ns, h => by
    cases h with
    | cons a b =>
      cases a
      rw [dps_opts b]
      rfl
theorem opts_dps : ∀ (ns : List (Option Nat)), DpAll K H (ns.map vO) (ns.map dO)
  | [] => .nil
  | none :: ns => .cons .non (opts_dps ns)
  | some n :: ns => .cons (.int n) (opts_dps ns)
theorem dp_tup {v : V} {ds : List PyData} (h : Dp K H v (.tuple ds)) : ∃ a xs, v = .ref a ∧ SqT K H a xs ∧ DpAll K H xs ds := by
  cases h with
  | tup a b => exact ⟨_, _, rfl, a, b⟩
theorem dp_lst {v : V} {ds : List PyData} (h : Dp K H v (.list ds)) : ∃ a xs, v = .ref a ∧ SqL K H a xs ∧ DpAll K H xs ds := by
  cases h with
  | lst a b => exact ⟨_, _, rfl, a, b⟩
/-! ### heaps -/
theorem same_upd {p : Addr} {o : HO} (h : H p = none) : Same H (upd H p o) := fun b x e => by
  rw [upd_ne (ne_of_none e h)]
  exact e
/-- a new object, changed later -/
theorem same_put {p : Addr} {o : HO} (s : Same H H1) (h : H p = none) : Same H (upd H1 p o) := fun b x e => by
  rw [upd_ne (ne_of_none e h)]
  exact s b x e
theorem lst_of {p : Addr} {xs : List V} (h : H p = some (.lst xs)) : SqL K H p xs := .inl (.inl h)
theorem tup_of {p : Addr} {xs : List V} (h : H p = some (.tup xs)) : SqT K H p xs := .inl (.inl h)
theorem szl {n : Nat} (h : n ≤ 100000) : n ≤ sizeLine := Nat.le_trans h (by decide)
theorem szt {n : Nat} (h : n < 100000) : n < sizeLine := Nat.lt_of_lt_of_le h (by decide)
/-- the heap without one object -/
def del (b : Addr) (H : Hp) : Hp := fun x => if x = b then none else H x
theorem del_same (b : Addr) : Same (del b H) H := fun x o e => by
  unfold del at e
  by_cases h : x = b
  · rw [if_pos h] at e
    cases e
  · rw [if_neg h] at e
    exact e
theorem del_ne {b x : Addr} (h : x ≠ b) : del b H x = H x := if_neg h
theorem del_mono {b : Addr} (s : Same H H') : Same (del b H) (del b H') := fun x o e => by
  unfold del at e ⊢
  by_cases h : x = b
  · rw [if_pos h] at e
    cases e
  · rw [if_neg h] at e ⊢
    exact s x o e
/-- what a draw may change: the barrel alone -/
def Keep (b : Addr) (H H' : Hp) : Prop := Same (del b H) (del b H')
theorem Keep.refl (b : Addr) (H : Hp) : Keep b H H := Same.refl _
theorem Keep.trans {b : Addr} {H2 : Hp} (a : Keep b H H1) (c : Keep b H1 H2) : Keep b H H2 := Same.trans a c
theorem Keep.of {b : Addr} (s : Same H H') : Keep b H H' := del_mono s
theorem keep_upd {b : Addr} {o : HO} : Keep b H (upd H b o) := fun x u e => by
  have hx : x ≠ b := by
    intro z
    unfold del at e
    rw [if_pos z] at e
    cases e
  rw [del_ne hx] at e ⊢
  rw [upd_ne hx]
  exact e
theorem del_none {b : Addr} : del b H b = none := if_pos rfl
/-- an object that is new is no barrel, and is not told ahead -/
theorem Keep.get {b x : Addr} {o : HO} (k : Keep b H H') (h : x ≠ b) (e : H x = some o) : H' x = some o := by
  have z := k x o (by rw [del_ne h]; exact e)
  rw [del_ne h] at z
  exact z
end
end K6

set_option Elab.async false
set_option linter.all false
set_option maxRecDepth 100000
set_option maxHeartbeats 4000000
namespace K6
open PySem PySem.Spec PyProof.Rows L2 Rw
/-! ### comprehensions: what a turn adds, and the whole -/
section
variable {K : PySem.W.Frag} {H : Hp} {σ : L2.St} {tt : TT} {te : TE} {vs : List Nat} {j : Nat} {Q : VK}
def pre (st : Nat → List V) (n : Nat) : List V := (List.range n).flatMap st
theorem pre_succ (st : Nat → List V) (n : Nat) : pre st (n + 1) = pre st n ++ st n := by
  unfold pre
  rw [List.range_succ, List.flatMap_append]
  simp
theorem pre_len {st : Nat → List V} (h : ∀ i, (st i).length ≤ 1) : ∀ n, (pre st n).length ≤ n
  | 0 => Nat.le_refl 0
  | n + 1 => by
    rw [pre_succ, List.length_append]
    have a := pre_len h n
    have b := h n
    omega
theorem pre_map {f : Nat → V} (n : Nat) : pre (fun i => [f i]) n = (List.range n).map f := by
  unfold pre
  induction n with
  | zero => rfl
  | succ n ih => rw [List.range_succ, List.flatMap_append, List.map_append, ih]; rfl
/-- a turn: what is added is [y], or nothing -/
def Turn1 (tt : TT) (te : TE) (σ : L2.St) (H : Hp) (s : List V) : Prop := ∀ H1 (R : V → Hp → Prop) (N : Hp → Prop), Same H H1 → (∀ y H2, s = [y] → Same H1 H2 → R y H2) → (∀ H2, s = [] → Same H1 H2 → N H2) →
  tt σ H1 (fun b H2 => if b = true then te σ H2 R else N H2)
theorem lcG (J : It) (n : Nat) (xs : Nat → V) (st : Nat → List V) (hst : ∀ i, (st i).length ≤ 1) (hn : n < 100000)
    (hgo : ∀ i H1, i < n → Same H H1 → J.go i H1) (hstop : ∀ H1, Same H H1 → J.stop n H1) (hyld : ∀ i H1 x H', i < n → Same H H1 → J.yld i H1 x H' → H' = H1 ∧ x = xs i)
    (hw : ∀ x, wipe ((wipe σ vs).set j (some x)) vs = wipe σ vs) (turn : ∀ i, i < n → Turn1 tt te ((wipe σ vs).set j (some (xs i))) H (st i))
    (fin : ∀ D H1, H D = none → Same H H1 → H1 D = some (.lst (pre st n)) → Q (.ref D) H1) :
    ∀ D, H D = none → ∃ W : Nat → Nat → Hp → Prop, (∃ m, W 0 m (upd H D (.lst []))) ∧ ∀ i m H, W i m H →
      (J.stop i H ∧ Q (.ref D) H) ∨ (J.go i H ∧ ∃ Nx : Hp → Prop, (∀ H', Nx H' → ∃ m', m' < m ∧ W (i + 1) m' H') ∧ ∀ x H', J.yld i H x H' → gName j x (wipe σ vs) H' fun σ2 H2 => wipe σ2 vs = wipe σ vs ∧ tt σ2 H2 fun b H3 =>
        if b = true then te σ2 H3 fun y H4 => ∃ acc, H4 D = some (.lst acc) ∧ acc.length < sizeLine ∧ Nx (upd H4 D (.lst (acc ++ [y]))) else Nx H3) := by
  intro D hD
  refine ⟨fun i m H1 => m = n - i ∧ i ≤ n ∧ Same H H1 ∧ H1 D = some (.lst (pre st i)), ⟨n, rfl, Nat.zero_le _, same_upd hD, upd_same⟩, ?_⟩
  rintro i m H1 ⟨rfl, hi, s1, h1⟩
  by_cases c : i < n
  · refine .inr ⟨hgo i H1 c s1, fun H2 => Same H H2 ∧ H2 D = some (.lst (pre st (i + 1))), fun H2 h2 => ⟨n - (i + 1), by omega, rfl, c, h2.1, h2.2⟩, fun x H' hy => ?_⟩
    obtain ⟨rfl, rfl⟩ := hyld i H1 x H' c s1 hy
    refine ⟨hw _, ?_⟩
    refine turn i c H' _ _ s1 (fun y H2 hs s2 => ?_) (fun H2 hs s2 => ?_)
    · refine ⟨pre st i, s2 D _ h1, szt (by have := pre_len hst i; omega), ?_, ?_⟩
      · exact same_put (s1.trans s2) hD
      · rw [pre_succ, hs]
        exact upd_same
    · refine ⟨s1.trans s2, ?_⟩
      rw [pre_succ, hs, List.append_nil]
      exact s2 D _ h1
  · have e : i = n := by omega
    subst e
    exact .inl ⟨hstop H1 s1, fin D H1 hD s1 h1⟩
theorem getD_of {xs : List V} {i : Nat} {x : V} (h : xs[i]? = some x) : xs.getD i .non = x := by
  rw [List.getD_eq_getElem?_getD, h]
  rfl
theorem lt_of_get {α : Type} {xs : List α} {i : Nat} {x : α} (h : xs[i]? = some x) : i < xs.length := (List.getElem?_eq_some_iff.mp h).1
/-- over a tuple -/
theorem cT {tl : TE} {a : Addr} {xs : List V} (st : Nat → List V) (htl : ∀ R : VK, R (.ref a) H → tl σ H R) (hx : SqT K H a xs) (hst : ∀ i, (st i).length ≤ 1) (hn : xs.length < 100000)
    (hw : ∀ x, wipe ((wipe σ vs).set j (some x)) vs = wipe σ vs) (turn : ∀ i x, xs[i]? = some x → Turn1 tt te ((wipe σ vs).set j (some x)) H (st i))
    (fin : ∀ D H1, H D = none → Same H H1 → H1 D = some (.lst (pre st xs.length)) → Q (.ref D) H1) : tLc (iTup K tl) (gName j) tt te vs σ H Q := by
  refine htl _ ⟨a, rfl, ⟨xs, hx⟩, ?_⟩
  refine lcG (Itt K a) xs.length (fun i => xs.getD i .non) st hst hn (fun i H1 hi s => ?_) (fun H1 s => ?_) (fun i H1 x H' hi s hy => ?_) hw (fun i hi => ?_) fin
  · exact ⟨xs, xs[i], sqT_mono s hx, by simp [hi]⟩
  · exact ⟨xs, sqT_mono s hx, Nat.le_refl _⟩
  · obtain ⟨e, y⟩ := hy
    exact ⟨e, (getD_of (y xs (sqT_mono s hx))).symm⟩
  · have h : xs[i]? = some (xs.getD i .non) := by
      rw [List.getElem?_eq_getElem hi, List.getD_eq_getElem?_getD, List.getElem?_eq_getElem hi]
      rfl
    exact turn i _ h
/-- over a list that a call has handed back -/
theorem lL {Qd : Addr → Hp → Prop} {a : Addr} {xs : List V} (st : Nat → List V) (hx : SqL K H a xs) (hst : ∀ i, (st i).length ≤ 1) (hn : xs.length < 100000)
    (hw : ∀ x, wipe ((wipe σ vs).set j (some x)) vs = wipe σ vs) (turn : ∀ i x, xs[i]? = some x → Turn1 tt te ((wipe σ vs).set j (some x)) H (st i))
    (fin : ∀ D H1, H D = none → Same H H1 → H1 D = some (.lst (pre st xs.length)) → Qd D H1) :
    ∀ D, H D = none → ∃ W : Nat → Nat → Hp → Prop, (∃ m, W 0 m (upd H D (.lst []))) ∧ ∀ i m H, W i m H →
      ((Itl K a).stop i H ∧ Qd D H) ∨ ((Itl K a).go i H ∧ ∃ Nx : Hp → Prop, (∀ H', Nx H' → ∃ m', m' < m ∧ W (i + 1) m' H') ∧ ∀ x H', (Itl K a).yld i H x H' → gName j x (wipe σ vs) H' fun σ2 H2 => wipe σ2 vs = wipe σ vs ∧ tt σ2 H2 fun b H3 =>
        if b = true then te σ2 H3 fun y H4 => ∃ acc, H4 D = some (.lst acc) ∧ acc.length < sizeLine ∧ Nx (upd H4 D (.lst (acc ++ [y]))) else Nx H3) := by
  refine lcG (Q := fun v H => match v with | .ref D => Qd D H | _ => False) (Itl K a) xs.length (fun i => xs.getD i .non) st hst hn (fun i H1 hi s => ?_) (fun H1 s => ?_) (fun i H1 x H' hi s hy => ?_) hw (fun i hi => ?_) fin
  · exact ⟨xs, xs[i], sqL_mono s hx, by simp [hi]⟩
  · exact ⟨xs, sqL_mono s hx, Nat.le_refl _⟩
  · obtain ⟨e, y⟩ := hy
    exact ⟨e, (getD_of (y xs (sqL_mono s hx))).symm⟩
  · have h : xs[i]? = some (xs.getD i .non) := by
      rw [List.getElem?_eq_getElem hi, List.getD_eq_getElem?_getD, List.getElem?_eq_getElem hi]
      rfl
    exact turn i _ h
/-- over a list -/
theorem cL {tl : TE} {a : Addr} {xs : List V} (st : Nat → List V) (htl : ∀ R : VK, R (.ref a) H → tl σ H R) (hx : SqL K H a xs) (hst : ∀ i, (st i).length ≤ 1) (hn : xs.length < 100000)
    (hw : ∀ x, wipe ((wipe σ vs).set j (some x)) vs = wipe σ vs) (turn : ∀ i x, xs[i]? = some x → Turn1 tt te ((wipe σ vs).set j (some x)) H (st i))
    (fin : ∀ D H1, H D = none → Same H H1 → H1 D = some (.lst (pre st xs.length)) → Q (.ref D) H1) : tLc (iList K tl) (gName j) tt te vs σ H Q := by
  refine htl _ ⟨a, rfl, ⟨xs, hx⟩, ?_⟩
  refine lcG (Itl K a) xs.length (fun i => xs.getD i .non) st hst hn (fun i H1 hi s => ?_) (fun H1 s => ?_) (fun i H1 x H' hi s hy => ?_) hw (fun i hi => ?_) fin
  · exact ⟨xs, xs[i], sqL_mono s hx, by simp [hi]⟩
  · exact ⟨xs, sqL_mono s hx, Nat.le_refl _⟩
  · obtain ⟨e, y⟩ := hy
    exact ⟨e, (getD_of (y xs (sqL_mono s hx))).symm⟩
  · have h : xs[i]? = some (xs.getD i .non) := by
      rw [List.getElem?_eq_getElem hi, List.getD_eq_getElem?_getD, List.getElem?_eq_getElem hi]
      rfl
    exact turn i _ h
/-- over range(n) -/
theorem cR {ta : TA} {n : Nat} {m : Int} (st : Nat → List V) (hm : m.toNat = n) (hb : -1000 ≤ m) (hta : ∀ R : List V → Hp → Prop, R [.int m] H → ta σ H R) (hst : ∀ i, (st i).length ≤ 1) (hn : n < 100000)
    (hw : ∀ x, wipe ((wipe σ vs).set j (some x)) vs = wipe σ vs) (turn : ∀ i : Nat, i < n → Turn1 tt te ((wipe σ vs).set j (some (.int (i : Int)))) H (st i))
    (fin : ∀ D H1, H D = none → Same H H1 → H1 D = some (.lst (pre st n)) → Q (.ref D) H1) : tLc (iRng1 ta) (gName j) tt te vs σ H Q := by
  refine hta _ ⟨m, rfl, by omega, by omega, ?_⟩
  rw [hm]
  refine lcG (Itr 0 n) n (fun i => .int (i : Int)) st hst hn (fun i H1 hi s => hi) (fun H1 s => Nat.le_refl _) (fun i H1 x H' hi s hy => ?_) hw turn fin
  obtain ⟨e, y⟩ := hy
  refine ⟨e, ?_⟩
  rw [y, Int.zero_add]
/-- over a text -/
theorem cS {tl : TE} {z : Str} (st : Nat → List V) (htl : ∀ R : VK, R (.str z) H → tl σ H R) (hst : ∀ i, (st i).length ≤ 1) (hn : z.cps.size < 100000)
    (hw : ∀ x, wipe ((wipe σ vs).set j (some x)) vs = wipe σ vs) (turn : ∀ i c, z.cps[i]? = some c → Turn1 tt te ((wipe σ vs).set j (some (.str ⟨#[c]⟩))) H (st i))
    (fin : ∀ D H1, H D = none → Same H H1 → H1 D = some (.lst (pre st z.cps.size)) → Q (.ref D) H1) : tLc (iStr tl) (gName j) tt te vs σ H Q := by
  refine htl _ ⟨z, rfl, ?_⟩
  refine lcG (Its z) z.cps.size (fun i => .str ⟨#[z.cps.getD i 0]⟩) st hst hn (fun i H1 hi s => hi) (fun H1 s => Nat.le_refl _) (fun i H1 x H' hi s hy => ?_) hw (fun i hi => ?_) fin
  · obtain ⟨e, c, hc, rfl⟩ := hy
    refine ⟨e, ?_⟩
    simp [Array.getD_eq_getD_getElem?, hc]
  · have h : z.cps[i]? = some (z.cps.getD i 0) := by
      simp [Array.getD_eq_getD_getElem?, hi]
    exact turn i _ h
/-- no test -/
theorem turn_yes {y : V} (h : ∀ H1 (R : V → Hp → Prop), Same H H1 → (∀ H2, Same H1 H2 → R y H2) → te σ H1 R) : Turn1 tYes te σ H [y] := by
  intro H1 R N s hy hn
  show (if true = true then te σ H1 R else N H1)
  rw [if_pos rfl]
  exact h H1 R s fun H2 s2 => hy y H2 rfl s2
theorem replicate_pre (n : Nat) (v : V) : pre (fun _ => [v]) n = List.replicate n v := by
  rw [pre_map]
  induction n with
  | zero => rfl
  | succ n ih => rw [List.range_succ, List.map_append, ih, List.replicate_succ']; rfl
theorem all_true (n : Nat) : (List.replicate n true).all id = true := by simp
theorem bls (n : Nat) : List.replicate n (V.bl true) = (List.replicate n true).map V.bl := by simp
end
/-! ### comprehensions whose items are new lists -/
section
variable {K : PySem.W.Frag} {H : Hp} {σ : L2.St} {te : TE} {vs : List Nat} {j : Nat} {Q : VK}
/-- lists that stand at the items of a list: what is at each place -/
def Hold (H : Hp) (acc : List V) (n : Nat) (ys : Nat → List V) : Prop := acc.length = n ∧ ∀ k, k < n → ∃ p, acc[k]? = some (.ref p) ∧ H p = some (.lst (ys k))
theorem Hold.mono {H H' : Hp} {acc : List V} {n : Nat} {ys : Nat → List V} (h : Hold H acc n ys) (s : Same H H') : Hold H' acc n ys :=
  ⟨h.1, fun k hk => let ⟨p, e, hp⟩ := h.2 k hk; ⟨p, e, s _ _ hp⟩⟩
theorem Hold.snoc {acc : List V} {n : Nat} {ys : Nat → List V} {p : Addr} (h : Hold H acc n ys) (hp : H p = some (.lst (ys n))) : Hold H (acc ++ [.ref p]) (n + 1) ys := by
  refine ⟨by rw [List.length_append, h.1]; rfl, fun k hk => ?_⟩
  by_cases c : k < n
  · obtain ⟨q, e, hq⟩ := h.2 k c
    exact ⟨q, by rw [List.getElem?_append_left (by rw [h.1]; exact c)]; exact e, hq⟩
  · have e : k = n := by omega
    subst e
    refine ⟨p, ?_, hp⟩
    rw [List.getElem?_append_right (by rw [h.1]; exact Nat.le_refl _), h.1, Nat.sub_self]
    rfl
theorem yes_go {σ : L2.St} {H : Hp} {f g : Hp → Prop} (h : f H) : tYes σ H (fun b H2 => if b = true then f H2 else g H2) := by
  show (if true = true then f H else g H)
  rw [if_pos rfl]
  exact h
def TurnN (te : TE) (σ : L2.St) (H : Hp) (ys : List V) : Prop := ∀ H1 (R : V → Hp → Prop), Same H H1 → (∀ p H2, H1 p = none → Same H1 H2 → H2 p = some (.lst ys) → R (.ref p) H2) → te σ H1 R
theorem lcN (J : It) (n : Nat) (xs : Nat → V) (ys : Nat → List V) (hn : n < 100000)
    (hgo : ∀ i H1, i < n → Same H H1 → J.go i H1) (hstop : ∀ H1, Same H H1 → J.stop n H1) (hyld : ∀ i H1 x H', i < n → Same H H1 → J.yld i H1 x H' → H' = H1 ∧ x = xs i)
    (hw : ∀ x, wipe ((wipe σ vs).set j (some x)) vs = wipe σ vs) (turn : ∀ i, i < n → TurnN te ((wipe σ vs).set j (some (xs i))) H (ys i))
    (fin : ∀ D acc H1, H D = none → Same H H1 → H1 D = some (.lst acc) → Hold (del D H1) acc n ys → Q (.ref D) H1) :
    ∀ D, H D = none → ∃ W : Nat → Nat → Hp → Prop, (∃ m, W 0 m (upd H D (.lst []))) ∧ ∀ i m H, W i m H →
      (J.stop i H ∧ Q (.ref D) H) ∨ (J.go i H ∧ ∃ Nx : Hp → Prop, (∀ H', Nx H' → ∃ m', m' < m ∧ W (i + 1) m' H') ∧ ∀ x H', J.yld i H x H' → gName j x (wipe σ vs) H' fun σ2 H2 => wipe σ2 vs = wipe σ vs ∧ tYes σ2 H2 fun b H3 =>
        if b = true then te σ2 H3 fun y H4 => ∃ acc, H4 D = some (.lst acc) ∧ acc.length < sizeLine ∧ Nx (upd H4 D (.lst (acc ++ [y]))) else Nx H3) := by
  intro D hD
  refine ⟨fun i m H1 => m = n - i ∧ i ≤ n ∧ Same H H1 ∧ ∃ acc, H1 D = some (.lst acc) ∧ Hold (del D H1) acc i ys, ⟨n, rfl, Nat.zero_le _, same_upd hD, [], upd_same, rfl, fun k hk => absurd hk (Nat.not_lt_zero k)⟩, ?_⟩
  rintro i m H1 ⟨rfl, hi, s1, acc, h1, hold⟩
  by_cases c : i < n
  · refine .inr ⟨hgo i H1 c s1, fun H2 => Same H H2 ∧ ∃ acc, H2 D = some (.lst acc) ∧ Hold (del D H2) acc (i + 1) ys, fun H2 h2 => ⟨n - (i + 1), by omega, rfl, c, h2.1, h2.2⟩, fun x H' hy => ?_⟩
    obtain ⟨rfl, rfl⟩ := hyld i H1 x H' c s1 hy
    refine ⟨hw _, ?_⟩
    refine yes_go ?_
    refine turn i c H' _ s1 (fun p H2 np s2 hp => ?_)
    refine ⟨acc, s2 D _ h1, szt (by rw [hold.1]; omega), same_put (s1.trans s2) hD, acc ++ [.ref p], upd_same, ?_⟩
    have ne : p ≠ D := fun e => by
      rw [e, h1] at np
      cases np
    have hdel : Same (del D H2) (del D (upd H2 D (.lst (acc ++ [.ref p])))) := keep_upd
    refine ((hold.mono (del_mono s2)).snoc ?_).mono hdel
    rw [del_ne ne]
    exact hp
  · have e : i = n := by omega
    subst e
    exact .inl ⟨hstop H1 s1, fin D acc H1 hD s1 h1 hold⟩
theorem cTN {tl : TE} {a : Addr} {xs : List V} (ys : Nat → List V) (htl : ∀ R : VK, R (.ref a) H → tl σ H R) (hx : SqT K H a xs) (hn : xs.length < 100000)
    (hw : ∀ x, wipe ((wipe σ vs).set j (some x)) vs = wipe σ vs) (turn : ∀ i x, xs[i]? = some x → TurnN te ((wipe σ vs).set j (some x)) H (ys i))
    (fin : ∀ D acc H1, H D = none → Same H H1 → H1 D = some (.lst acc) → Hold (del D H1) acc xs.length ys → Q (.ref D) H1) : tLc (iTup K tl) (gName j) tYes te vs σ H Q := by
  refine htl _ ⟨a, rfl, ⟨xs, hx⟩, ?_⟩
  refine lcN (Itt K a) xs.length (fun i => xs.getD i .non) ys hn (fun i H1 hi s => ?_) (fun H1 s => ?_) (fun i H1 x H' hi s hy => ?_) hw (fun i hi => ?_) fin
  · exact ⟨xs, xs[i], sqT_mono s hx, by simp [hi]⟩
  · exact ⟨xs, sqT_mono s hx, Nat.le_refl _⟩
  · obtain ⟨e, y⟩ := hy
    exact ⟨e, (getD_of (y xs (sqT_mono s hx))).symm⟩
  · have h : xs[i]? = some (xs.getD i .non) := by
      rw [List.getElem?_eq_getElem hi, List.getD_eq_getElem?_getD, List.getElem?_eq_getElem hi]
      rfl
    exact turn i _ h
end
/-! ### openers -/
section
variable {te ta : TE} {D : Ends} {σ : L2.St} {H : Hp} {Q : VK} {r : List V → Hp → VK → Prop} {i : Nat}
theorem g_ret (h : te σ H D.rt) : tRet te D σ H := h
theorem g_asg (h : te σ H fun x H1 => D.nx (σ.set i (some x)) H1) : tAsg te (gName i) D σ H := h
theorem g_cb (h : ta σ H fun x H1 => r [x] H1 Q) : tCB r (tCons ta tNil) σ H Q := h
theorem g_andV {tb : TE} (h : ta σ H fun x H1 => ∃ c, x = .bl c ∧ if c = true then tb σ H1 Q else Q (.bl false) H1) : tAndV ta tb σ H Q := h
theorem g_via {K : PySem.W.Frag} {d : PyData} (h : ∀ Q' : VK, (∀ vf H2, Same H H2 → Dp K H2 vf d → Q' vf H2) → te σ H Q') (rest : ∀ vf H2, Same H H2 → Dp K H2 vf d → Q vf H2) : te σ H Q := h Q rest
theorem g_arg {f : List V → Hp → Prop} (h : te σ H fun x H1 => f [x] H1) : tCons te tNil σ H f := h
theorem g_next (h : D.nx σ H) : tNext D σ H := h
theorem g_seq {t u : TS} (h : t { D with nx := u D } σ H) : tSeq t u D σ H := h
end
end K6

set_option linter.all false
set_option maxRecDepth 100000
namespace K6
open PySem
def rowS (l : List Nat) : Str := ⟨(l.map (97 + ·)).toArray⟩
def sgn (g : Nat) : Str := ⟨#[97 + g]⟩
theorem rowS_snoc (l : List Nat) (g : Nat) : rowS l ++ sgn g = rowS (l ++ [g]) := by
  show (⟨(l.map (97 + ·)).toArray ++ #[97 + g]⟩ : Str) = ⟨((l ++ [g]).map (97 + ·)).toArray⟩
  rw [List.map_append]
  simp
theorem rowS_app (l m : List Nat) : rowS l ++ rowS m = rowS (l ++ m) := by
  show (⟨(l.map (97 + ·)).toArray ++ (m.map (97 + ·)).toArray⟩ : Str) = ⟨((l ++ m).map (97 + ·)).toArray⟩
  rw [List.map_append]
  simp
theorem rowS_len (l : List Nat) : (rowS l).length = l.length := by
  show ((l.map (97 + ·)).toArray).size = _
  simp
theorem rowS_inj {l m : List Nat} (h : rowS l = rowS m) : l = m := by
  unfold rowS at h
  injection h with h
  have h2 := congrArg Array.toList h
  simp only [List.toList_toArray] at h2
  exact (List.map_inj_right (fun x y e => by omega)).mp h2
/-- the number of a row on a track -/
def num (t : Nat) : List Nat → Nat
  | [] => 0
  | k :: r => k / 2 ^ t % 2 + 2 * num t r
def nums (w : Nat) (l : List Nat) : List Nat := (List.range w).map fun t => num t l
def strip : List Nat → List Nat
  | [] => []
  | k :: r => if k = 0 ∧ strip r = [] then [] else k :: strip r
/-- the sign with these lowest figures -/
def sg (ns : List Nat) : Nat := ((List.range ns.length).map fun i => ns.getD i 0 % 2 * 2 ^ i).sum
def srt : Nat → List Nat → List Nat
  | 0, _ => []
  | f + 1, ns => if ∀ n ∈ ns, n = 0 then [] else sg ns :: srt f (ns.map (· / 2))
theorem num_zero (t : Nat) : ∀ m, num t (List.replicate m 0) = 0
  | 0 => rfl
  | m + 1 => by
    rw [List.replicate_succ]
    unfold num
    rw [num_zero t m]
    simp
theorem num_app (t m : Nat) : ∀ l : List Nat, num t (l ++ List.replicate m 0) = num t l
  | [] => by rw [List.nil_append, num_zero]; rfl
  | k :: r => by
    rw [List.cons_append]
    unfold num
    rw [num_app t m r]
theorem nums_app (w m : Nat) (l : List Nat) : nums w (l ++ List.replicate m 0) = nums w l := by
  unfold nums
  exact List.map_congr_left fun t _ => num_app t m l
theorem num_strip (t : Nat) : ∀ l : List Nat, num t (strip l) = num t l
  | [] => rfl
  | k :: r => by
    have ih := num_strip t r
    unfold strip
    by_cases c : k = 0 ∧ strip r = []
    · rw [if_pos c]
      obtain ⟨rfl, c2⟩ := c
      rw [c2] at ih
      have z : num t r = 0 := ih.symm
      show num t [] = 0 / 2 ^ t % 2 + 2 * num t r
      rw [z]
      simp [num]
    · rw [if_neg c]
      show k / 2 ^ t % 2 + 2 * num t (strip r) = k / 2 ^ t % 2 + 2 * num t r
      rw [ih]
theorem nums_strip (w : Nat) (l : List Nat) : nums w (strip l) = nums w l := by
  unfold nums
  exact List.map_congr_left fun t _ => num_strip t l
theorem num_lt (t : Nat) : ∀ l : List Nat, num t l < 2 ^ l.length
  | [] => by show 0 < 2 ^ 0; decide
  | k :: r => by
    have ih := num_lt t r
    have e : 2 ^ (k :: r).length = 2 * 2 ^ r.length := by rw [List.length_cons, Nat.pow_succ, Nat.mul_comm]
    rw [e]
    unfold num
    have : k / 2 ^ t % 2 < 2 := Nat.mod_lt _ (by decide)
    omega
theorem strip_len : ∀ l : List Nat, (strip l).length ≤ l.length
  | [] => Nat.le_refl _
  | k :: r => by
    have ih := strip_len r
    unfold strip
    split
    · exact Nat.zero_le _
    · rw [List.length_cons, List.length_cons]
      omega
theorem strip_mem : ∀ {l : List Nat} {x : Nat}, x ∈ strip l → x ∈ l
  | [], _, h => h
  | k :: r, x, h => by
    unfold strip at h
    split at h
    · simp at h
    · rcases List.mem_cons.mp h with h | h
      · exact List.mem_cons.mpr (.inl h)
      · exact List.mem_cons.mpr (.inr (strip_mem h))
/-- up to three numbers -/
theorem three {ns : List Nat} (h : ns.length ≤ 3) : ns = [] ∨ (∃ a, ns = [a]) ∨ (∃ a b, ns = [a, b]) ∨ ∃ a b c, ns = [a, b, c] := by
  match ns, h with
  | [], _ => exact .inl rfl
  | [a], _ => exact .inr (.inl ⟨a, rfl⟩)
  | [a, b], _ => exact .inr (.inr (.inl ⟨a, b, rfl⟩))
  | [a, b, c], _ => exact .inr (.inr (.inr ⟨a, b, c, rfl⟩))
  | _ :: _ :: _ :: _ :: _, h => simp at h
theorem sg1 (a : Nat) : sg [a] = a % 2 := by simp [sg, List.range_succ]
theorem sg2 (a b : Nat) : sg [a, b] = a % 2 + b % 2 * 2 := by simp [sg, List.range_succ]
theorem sg3 (a b c : Nat) : sg [a, b, c] = a % 2 + b % 2 * 2 + c % 2 * 4 := by simp [sg, List.range_succ]; omega
theorem sg_lt {ns : List Nat} (h : ns.length ≤ 3) : sg ns < 2 ^ ns.length := by
  rcases three h with rfl | ⟨a, rfl⟩ | ⟨a, b, rfl⟩ | ⟨a, b, c, rfl⟩
  · decide
  · rw [sg1]; show a % 2 < 2 ^ 1; omega
  · rw [sg2]; show a % 2 + b % 2 * 2 < 2 ^ 2; omega
  · rw [sg3]; show a % 2 + b % 2 * 2 + c % 2 * 4 < 2 ^ 3; omega
theorem sg_bit {ns : List Nat} (h : ns.length ≤ 3) {t : Nat} (ht : t < ns.length) : sg ns / 2 ^ t % 2 = ns[t] % 2 := by
  rcases three h with rfl | ⟨a, rfl⟩ | ⟨a, b, rfl⟩ | ⟨a, b, c, rfl⟩
  · simp at ht
  · rw [sg1]
    match t, ht with
    | 0, _ => show a % 2 / 1 % 2 = a % 2; omega
  · rw [sg2]
    match t, ht with
    | 0, _ => show (a % 2 + b % 2 * 2) / 1 % 2 = a % 2; omega
    | 1, _ => show (a % 2 + b % 2 * 2) / 2 % 2 = b % 2; omega
  · rw [sg3]
    match t, ht with
    | 0, _ => show (a % 2 + b % 2 * 2 + c % 2 * 4) / 1 % 2 = a % 2; omega
    | 1, _ => show (a % 2 + b % 2 * 2 + c % 2 * 4) / 2 % 2 = b % 2; omega
    | 2, _ => show (a % 2 + b % 2 * 2 + c % 2 * 4) / 4 % 2 = c % 2; omega
theorem num_srt : ∀ (f : Nat) (ns : List Nat), ns.length ≤ 3 → (∀ n ∈ ns, n < 2 ^ f) → ∀ t (ht : t < ns.length), num t (srt f ns) = ns[t]
  | 0, ns, _, h, t, ht => by
    have := h ns[t] (List.getElem_mem ht)
    show 0 = ns[t]
    simp at this
    exact this.symm
  | f + 1, ns, h3, h, t, ht => by
    unfold srt
    by_cases c : ∀ n ∈ ns, n = 0
    · rw [if_pos c]
      exact (c ns[t] (List.getElem_mem ht)).symm
    · rw [if_neg c]
      have ih := num_srt f (ns.map (· / 2)) (by rw [List.length_map]; exact h3) (fun n hn => by
        obtain ⟨m, hm, rfl⟩ := List.mem_map.mp hn
        have := h m hm
        rw [Nat.pow_succ] at this
        omega) t (by rw [List.length_map]; exact ht)
      show sg ns / 2 ^ t % 2 + 2 * num t (srt f (ns.map (· / 2))) = ns[t]
      rw [ih, sg_bit h3 ht, List.getElem_map]
      omega
theorem nums_srt {f : Nat} {ns : List Nat} (h3 : ns.length ≤ 3) (h : ∀ n ∈ ns, n < 2 ^ f) : nums ns.length (srt f ns) = ns := by
  unfold nums
  apply List.ext_getElem
  · simp
  · intro i h1 h2
    simp only [List.getElem_map, List.getElem_range]
    exact num_srt f ns h3 h i h2
theorem srt_len : ∀ (f : Nat) (ns : List Nat), (srt f ns).length ≤ f
  | 0, _ => Nat.le_refl _
  | f + 1, ns => by
    unfold srt
    split
    · exact Nat.zero_le _
    · rw [List.length_cons]
      have := srt_len f (ns.map (· / 2))
      omega
theorem srt_lt : ∀ (f : Nat) (ns : List Nat), ns.length ≤ 3 → ∀ k ∈ srt f ns, k < 2 ^ ns.length
  | 0, _, _, k, h => by simp [srt] at h
  | f + 1, ns, h3, k, h => by
    unfold srt at h
    split at h
    · simp at h
    · rcases List.mem_cons.mp h with rfl | h
      · exact sg_lt h3
      · have := srt_lt f (ns.map (· / 2)) (by rw [List.length_map]; exact h3) k h
        rw [List.length_map] at this
        exact this
theorem srt_nil {f : Nat} {ns : List Nat} (h : ∀ n ∈ ns, n < 2 ^ f) (e : srt f ns = []) : ∀ n ∈ ns, n = 0 := by
  cases f with
  | zero =>
    intro n hn
    have := h n hn
    simp at this
    exact this
  | succ f =>
    unfold srt at e
    split at e
    · assumption
    · cases e
theorem srt_zero {f : Nat} {ns : List Nat} (h : ∀ n ∈ ns, n = 0) : srt f ns = [] := by
  cases f with
  | zero => rfl
  | succ f => unfold srt; rw [if_pos h]
theorem half_lt {f : Nat} {ns : List Nat} (h : ∀ n ∈ ns, n < 2 ^ (f + 1)) : ∀ n ∈ ns.map (· / 2), n < 2 ^ f := by
  intro n hn
  obtain ⟨m, hm, rfl⟩ := List.mem_map.mp hn
  have := h m hm
  rw [Nat.pow_succ] at this
  omega
theorem sg_zero {ns : List Nat} (h3 : ns.length ≤ 3) (h : ∀ n ∈ ns, n < 2) (e : sg ns = 0) : ∀ n ∈ ns, n = 0 := by
  intro n hn
  obtain ⟨t, ht, rfl⟩ := List.getElem_of_mem hn
  have := sg_bit h3 ht
  rw [e] at this
  have b := h ns[t] (List.getElem_mem ht)
  simp at this
  omega
/-- a shortest row does not end with 0 -/
theorem srt_last : ∀ (f : Nat) (ns : List Nat), ns.length ≤ 3 → (∀ n ∈ ns, n < 2 ^ f) → (srt f ns).getLast? ≠ some 0
  | 0, _, _, _ => by simp [srt]
  | f + 1, ns, h3, h => by
    unfold srt
    by_cases c : ∀ n ∈ ns, n = 0
    · rw [if_pos c]
      simp
    · rw [if_neg c]
      have hh := half_lt h
      have ih := srt_last f (ns.map (· / 2)) (by rw [List.length_map]; exact h3) hh
      by_cases e : srt f (ns.map (· / 2)) = []
      · rw [e]
        have z := srt_nil hh e
        intro w
        have w : some (sg ns) = some 0 := w
        refine c (sg_zero h3 (fun n hn => ?_) (Option.some.inj w))
        have := z (n / 2) (List.mem_map.mpr ⟨n, hn, rfl⟩)
        omega
      · obtain ⟨x, r, er⟩ := List.exists_cons_of_ne_nil e
        rw [er] at ih ⊢
        rw [List.getLast?_cons_cons]
        exact ih
theorem nums_zero {w : Nat} {l : List Nat} (e : strip l = []) : ∀ n ∈ nums w l, n = 0 := by
  intro n hn
  obtain ⟨t, _, rfl⟩ := List.mem_map.mp hn
  rw [← num_strip t l, e]
  rfl
theorem bits_zero {w k : Nat} (hw : w ≤ 3) (hk : k < 2 ^ w) (h : ∀ t, t < w → k / 2 ^ t % 2 = 0) : k = 0 := by
  match w, hw with
  | 0, _ => simp at hk; exact hk
  | 1, _ => have := h 0 (by decide); simp at this hk; omega
  | 2, _ => have a := h 0 (by decide); have b := h 1 (by decide); simp at a b hk; omega
  | 3, _ => have a := h 0 (by decide); have b := h 1 (by decide); have c := h 2 (by decide); simp at a b c hk; omega
theorem sg_nums {w k : Nat} (hw : w ≤ 3) (hk : k < 2 ^ w) (r : List Nat) : sg (nums w (k :: r)) = k := by
  match w, hw with
  | 0, _ => simp at hk; subst hk; rfl
  | 1, _ =>
    show sg [num 0 (k :: r)] = k
    rw [sg1]
    simp [num] at hk ⊢
    omega
  | 2, _ =>
    show sg [num 0 (k :: r), num 1 (k :: r)] = k
    rw [sg2]
    simp [num] at hk ⊢
    omega
  | 3, _ =>
    show sg [num 0 (k :: r), num 1 (k :: r), num 2 (k :: r)] = k
    rw [sg3]
    simp [num] at hk ⊢
    omega
theorem half_nums (w k : Nat) (r : List Nat) : (nums w (k :: r)).map (· / 2) = nums w r := by
  unfold nums
  rw [List.map_map]
  refine List.map_congr_left fun t _ => ?_
  show (k / 2 ^ t % 2 + 2 * num t r) / 2 = num t r
  have : k / 2 ^ t % 2 < 2 := Nat.mod_lt _ (by decide)
  omega
theorem srt_nums {w : Nat} (hw : w ≤ 3) : ∀ (f : Nat) (l : List Nat), (∀ k ∈ l, k < 2 ^ w) → l.length ≤ f → srt f (nums w l) = strip l
  | f, [], _, _ => srt_zero (nums_zero rfl)
  | 0, k :: r, _, h => by simp at h
  | f + 1, k :: r, hl, h => by
    have hk := hl k (List.mem_cons_self ..)
    have hr : ∀ x ∈ r, x < 2 ^ w := fun x hx => hl x (List.mem_cons_of_mem _ hx)
    have hf : r.length ≤ f := by rw [List.length_cons] at h; omega
    have ih := srt_nums hw f r hr hf
    unfold srt
    by_cases c : k = 0 ∧ strip r = []
    · have e : strip (k :: r) = [] := by unfold strip; rw [if_pos c]
      rw [if_pos (nums_zero e), e]
    · have e : strip (k :: r) = k :: strip r := by
        show (if k = 0 ∧ strip r = [] then [] else k :: strip r) = _
        rw [if_neg c]
      have nz : ¬ ∀ n ∈ nums w (k :: r), n = 0 := by
        intro z
        apply c
        have zt : ∀ t, t < w → k / 2 ^ t % 2 = 0 ∧ num t r = 0 := by
          intro t ht
          have := z (num t (k :: r)) (List.mem_map.mpr ⟨t, List.mem_range.mpr ht, rfl⟩)
          unfold num at this
          omega
        refine ⟨bits_zero hw hk fun t ht => (zt t ht).1, ?_⟩
        rw [← ih]
        refine srt_zero fun n hn => ?_
        obtain ⟨t, ht, rfl⟩ := List.mem_map.mp hn
        exact (zt t (List.mem_range.mp ht)).2
      rw [if_neg nz, e, sg_nums hw hk, half_nums, ih]
/-! ### the shortest row, sign by sign -/
def mx (ns : List Nat) : Nat := ns.foldr max 0
theorem mx_le : ∀ {ns : List Nat} {n : Nat}, n ∈ ns → n ≤ mx ns
  | m :: r, n, h => by
    show n ≤ max m (mx r)
    rcases List.mem_cons.mp h with rfl | h
    · exact Nat.le_max_left _ _
    · exact Nat.le_trans (mx_le h) (Nat.le_max_right _ _)
theorem mx_half : ∀ ns : List Nat, mx (ns.map (· / 2)) = mx ns / 2
  | [] => rfl
  | n :: r => by
    show max (n / 2) (mx (r.map (· / 2))) = max n (mx r) / 2
    rw [mx_half r]
    omega
theorem mx_zero {ns : List Nat} : (∀ n ∈ ns, n = 0) ↔ mx ns = 0 := by
  constructor
  · intro h
    induction ns with
    | nil => rfl
    | cons n r ih =>
      show max n (mx r) = 0
      rw [h n (List.mem_cons_self ..), ih fun m hm => h m (List.mem_cons_of_mem _ hm)]
      rfl
  · intro h n hn
    have := mx_le hn
    omega
theorem mx_mem : ∀ {ns : List Nat}, ns ≠ [] → mx ns ∈ ns
  | [], h => absurd rfl h
  | [n], _ => by show max n 0 ∈ _; simp
  | n :: m :: r, _ => by
    have ih := mx_mem (ns := m :: r) (by simp)
    show max n (mx (m :: r)) ∈ _
    by_cases c : n ≤ mx (m :: r)
    · rw [Nat.max_eq_right c]
      exact List.mem_cons_of_mem _ ih
    · rw [Nat.max_eq_left (by omega)]
      exact List.mem_cons_self ..
def bits (n : Nat) : Nat := if n = 0 then 0 else n.log2 + 1
theorem bits_half {n : Nat} (h : n ≠ 0) : bits n = bits (n / 2) + 1 := by
  unfold bits
  rw [if_neg h]
  by_cases c : n / 2 = 0
  · have : n = 1 := by omega
    subst this
    rw [if_pos c]
    decide
  · rw [if_neg c, Nat.log2_def n, if_pos (by omega)]
theorem shift (ns : List Nat) (p : Nat) : (ns.map (· / 2)).map (· / 2 ^ p) = ns.map (· / 2 ^ (p + 1)) := by
  rw [List.map_map]
  refine List.map_congr_left fun n _ => ?_
  show n / 2 / 2 ^ p = n / 2 ^ (p + 1)
  rw [Nat.div_div_eq_div_mul, Nat.pow_succ, Nat.mul_comm]
theorem srt_range : ∀ (f : Nat) (ns : List Nat), (∀ n ∈ ns, n < 2 ^ f) → srt f ns = (List.range (bits (mx ns))).map fun p => sg (ns.map (· / 2 ^ p))
  | 0, ns, h => by
    have z : mx ns = 0 := mx_zero.mp fun n hn => by have := h n hn; simp at this; exact this
    rw [z]
    rfl
  | f + 1, ns, h => by
    unfold srt
    by_cases c : ∀ n ∈ ns, n = 0
    · rw [if_pos c, mx_zero.mp c]
      rfl
    · rw [if_neg c, srt_range f _ (half_lt h), mx_half, bits_half (fun e => c (mx_zero.mpr e)), List.range_succ_eq_map, List.map_cons, List.map_map]
      congr 1
      · congr 1
        simp
      · refine List.map_congr_left fun p _ => ?_
        show sg ((ns.map (· / 2)).map (· / 2 ^ p)) = sg (ns.map (· / 2 ^ (p + 1)))
        rw [shift]
/-! ### texts -/
theorem filterMap_all {α β : Type} {f : α → Option β} {g : α → β} : ∀ {l : List α}, (∀ x ∈ l, f x = some (g x)) → l.filterMap f = l.map g
  | [], _ => rfl
  | x :: r, h => by
    rw [List.filterMap_cons, h x (List.mem_cons_self ..), List.map_cons, filterMap_all fun y hy => h y (List.mem_cons_of_mem _ hy)]
theorem rev_row (l : List Nat) {u : Tok} : Txt.sliceBy (rowS l) none none (-1, u) = rowS l.reverse := by
  unfold Txt.sliceBy slicePicked Builtin.Str.strSliceIndices
  rw [if_neg (by simp)]
  simp only [Option.map_none, Option.map_some, Option.getD_some]
  rw [show (if (-1 : Int) > 0 then (0 : Int) else ((rowS l).length : Int) - 1) = ((rowS l).length : Int) - 1 from if_neg (by decide), show (if (-1 : Int) > 0 then ((rowS l).length : Int) else -1) = -1 from if_neg (by decide), rowS_len]
  unfold sliceRange
  have ec : (if (-1 : Int) > 0 then (if ((l.length : Int) - 1) < -1 then (-1 - ((l.length : Int) - 1) + -1 - 1) / -1 else 0) else (if ((l.length : Int) - 1) > -1 then ((l.length : Int) - 1 - -1 - -1 - 1) / (- -1) else 0)) = (l.length : Int) := by
    rw [if_neg (by decide)]
    split
    · have : (- -1 : Int) = 1 := by decide
      rw [this, Int.ediv_one]
      omega
    · omega
  simp only [ec, Int.toNat_natCast]
  have e2 : (List.map (fun (k : Nat) => ((l.length : Int) - 1 + -1 * (k : Int)).toNat) (List.range l.length)).filterMap ((rowS l).cps[·]?) = l.reverse.map (97 + ·) := by
    rw [List.filterMap_map]
    rw [filterMap_all (g := fun k => (l.reverse.map (97 + ·)).getD k 0) fun k hk => ?_]
    · apply List.ext_getElem
      · simp
      · intro i h1 h2
        simp at h1 h2
        simp [List.getD_eq_getElem?_getD, h2]
    · have hk := List.mem_range.mp hk
      show ((l.map (97 + ·)).toArray)[(((l.length : Int) - 1) + -1 * (k : Int)).toNat]? = _
      rw [show (((l.length : Int) - 1) + -1 * (k : Int)).toNat = l.length - 1 - k by omega]
      rw [List.getElem?_toArray, List.getElem?_map, List.getD_eq_getElem?_getD, List.getElem?_map, List.getElem?_reverse hk, List.getElem?_eq_getElem (show l.length - 1 - k < l.length by omega)]
      rfl
  show (⟨(List.filterMap ((rowS l).cps[·]?) _).toArray⟩ : Str) = ⟨(l.reverse.map (97 + ·)).toArray⟩
  rw [e2]
theorem mul_a (n : Nat) : Txt.mul ("a" : Str) (n : Int) = rowS (List.replicate n 0) := by
  unfold Txt.mul
  by_cases h : (n : Int) < 1
  · rw [if_pos h, show n = 0 by omega]
    rfl
  · rw [if_neg h]
    have fl : ∀ (m : Nat) (acc : Array Nat), (List.replicate m (("a" : Str).cps)).foldl (· ++ ·) acc = acc ++ (List.replicate m 97).toArray := by
      intro m
      induction m with
      | zero => intro acc; simp
      | succ m ih =>
        intro acc
        rw [List.replicate_succ, List.foldl_cons, ih]
        have : ("a" : Str).cps = #[97] := rfl
        rw [this]
        apply Array.ext'
        simp [List.replicate_succ]
    by_cases c : ((n : Int) == 1 || ("a" : Str).length == 0) = true
    · rw [if_pos c]
      have : n = 1 := by
        have c : ((n : Int) == 1 || false) = true := c
        rw [Bool.or_false] at c
        have := eq_of_beq c
        omega
      subst this
      rfl
    · rw [if_neg c, Int.toNat_natCast, fl]
      unfold rowS
      simp
theorem glue_rows : ∀ (ls : List (List Nat)) (acc : List Nat), (ls.map rowS).foldl (fun a p => a ++ (("" : Str)).cps ++ p.cps) (acc.map (97 + ·)).toArray = ((acc ++ ls.flatten).map (97 + ·)).toArray
  | [], acc => by simp
  | l :: ls, acc => by
    rw [List.map_cons, List.foldl_cons]
    have e : ((acc.map (97 + ·)).toArray ++ (("" : Str)).cps ++ (rowS l).cps) = ((acc ++ l).map (97 + ·)).toArray := by
      have : (("" : Str)).cps = #[] := rfl
      rw [this]
      unfold rowS
      simp
    rw [e, glue_rows ls (acc ++ l), List.flatten_cons, List.append_assoc]
theorem join_rows (ls : List (List Nat)) : Txt.join ("" : Str) (ls.map rowS) = rowS ls.flatten := by
  unfold Txt.join Builtin.Str.glued
  cases ls with
  | nil => rfl
  | cons l r =>
    rw [List.map_cons, List.drop_one, List.tail_cons, List.headD_cons]
    show (⟨(r.map rowS).foldl (fun acc p => acc ++ (("" : Str)).cps ++ p.cps) (l.map (97 + ·)).toArray⟩ : Str) = _
    rw [glue_rows r l]
    rfl
theorem join_signs (l : List Nat) : Txt.join ("" : Str) (l.map sgn) = rowS l := by
  have := join_rows (l.map fun g => [g])
  rw [List.map_map] at this
  have e : (l.map fun g => [g]).flatten = l := by induction l with
    | nil => rfl
    | cons a r ih => rw [List.map_cons, List.flatten_cons, ih (by rw [← List.map_map]; exact join_rows _)]; rfl
  rw [e] at this
  exact this
/-- behind the last sign that is no a -/
theorem strip_rev (l : List Nat) : strip l = (l.reverse.dropWhile (· == 0)).reverse := by
  induction l with
  | nil => rfl
  | cons k r ih =>
    unfold strip
    rw [List.reverse_cons, List.dropWhile_append]
    by_cases c : strip r = []
    · have e : (r.reverse.dropWhile (· == 0)) = [] := by
        rw [c] at ih
        exact List.reverse_eq_nil_iff.mp ih.symm
      rw [e]
      by_cases k0 : k = 0
      · rw [if_pos ⟨k0, c⟩]
        simp [k0]
      · rw [if_neg fun z => k0 z.1]
        simp [k0, c]
    · have e : (r.reverse.dropWhile (· == 0)) ≠ [] := fun z => c (by rw [ih, z]; rfl)
      rw [if_neg fun z => c z.2, ih]
      have e2 : (List.dropWhile (fun x => x == 0) r.reverse).isEmpty = false := by
        cases h : (List.dropWhile (fun x => x == 0) r.reverse) with
        | nil => exact absurd h e
        | cons _ _ => rfl
      rw [e2]
      simp
theorem rstrip_row (l : List Nat) : Txt.rstripChars (rowS l) ("a" : Str) = rowS (strip l) := by
  unfold Txt.rstripChars Txt.stripBy
  have hlo : stripLo (("a" : Str).cps.contains) false (rowS l) = 0 := rfl
  have tw : ∀ m : List Nat, ((m.map (97 + ·)).takeWhile (("a" : Str).cps.contains)).length = (m.takeWhile (· == 0)).length := by
    intro m
    induction m with
    | nil => rfl
    | cons k r ih =>
      rw [List.map_cons, List.takeWhile_cons, List.takeWhile_cons]
      have : (("a" : Str).cps.contains (97 + k)) = (k == 0) := by
        show (#[97] : Array Nat).contains (97 + k) = _
        by_cases e : k = 0
        · subst e; simp
        · rw [beq_eq_false_iff_ne.mpr e]
          simp [e]
      rw [this]
      split
      · rw [List.length_cons, List.length_cons, ih]
      · rfl
  have hhi : stripHi (("a" : Str).cps.contains) true (rowS l) 0 = l.length - (l.reverse.takeWhile (· == 0)).length := by
    unfold stripHi
    rw [if_pos rfl, rowS_len, List.drop_zero]
    unfold rowS
    rw [List.toList_toArray, ← List.map_reverse, tw]
  have el : l.length - (l.reverse.takeWhile (· == 0)).length = (strip l).length := by
    rw [strip_rev, List.length_reverse]
    have := congrArg List.length (List.takeWhile_append_dropWhile (p := (· == 0)) (l := l.reverse))
    rw [List.length_append, List.length_reverse] at this
    omega
  have pf : strip l = l.take (strip l).length := by
    have h1 : (strip l).reverse = l.reverse.dropWhile (· == 0) := by rw [strip_rev, List.reverse_reverse]
    have h2 : l = strip l ++ (l.reverse.takeWhile (· == 0)).reverse := by
      have := List.takeWhile_append_dropWhile (p := (· == 0)) (l := l.reverse)
      have := congrArg List.reverse this
      rw [List.reverse_append, List.reverse_reverse] at this
      rw [strip_rev]
      exact this.symm
    have h3 : l.take (strip l).length = (strip l ++ (l.reverse.takeWhile (· == 0)).reverse).take (strip l).length := by rw [← h2]
    rw [h3, List.take_left]
  by_cases c : stripSame (("a" : Str).cps.contains) false true (rowS l) = true
  · rw [if_pos c]
    unfold stripSame at c
    rw [hlo, hhi, el, rowS_len] at c
    have c2 : (strip l).length = l.length := by
      have := (Bool.and_eq_true_iff.mp c).2
      exact eq_of_beq this
    rw [c2, List.take_length] at pf
    rw [pf]
  · rw [if_neg c]
    unfold stripped
    rw [hlo, hhi, el]
    unfold Builtin.Str.strSub rowS
    rw [pf]
    congr 1
    apply Array.ext'
    simp
theorem strip_last : ∀ l : List Nat, (strip l).getLast? ≠ some 0 := by
  intro l
  rw [strip_rev, List.getLast?_reverse]
  intro h
  have := List.head?_dropWhile_not (p := (· == 0)) (l := l.reverse)
  rw [h] at this
  simp at this
end K6

set_option Elab.async false
set_option linter.all false
set_option maxRecDepth 100000
set_option maxHeartbeats 4000000
namespace K6
open PySem PySem.Spec PyProof.Rows L2 Rw
variable {P : Program} {w : World} {K : PySem.W.Frag} {mg : Str → Option Value} {base : Heap} {A : Ad} {fd : Fds}
def spIsInt : Sp := fun vs H Q _ => ∃ i : Int, vs = [.int i] ∧ Q (.bl true) H
theorem ok_is_integer (T : Txt K mg A) (U : Funs K A fd) : FnOk P w K mg base CX0 1 A.is_integer fd.is_integer p_is_integer (spIsInt) := by
  refine U.F_is_integer.ok sc_is_integer (fun vs H Q E h => ?_) (fun cdv A0 outer s H vs Q E hr h => ?_)
  · obtain ⟨i, rfl, _⟩ := h
    rfl
  · have hu := hu_of hr
    obtain ⟨i, rfl, q⟩ := h
    refine ⟨_, (pss_one (ps_ret (pe_and (pe_callB (w_isi (K := K)) (by rfl) T.b_isinstance (by decide +kernel) (pa_cons (pv 0) (pa_cons (pe_bltn (v := .ty "int") (u := .type "int") (by rfl) T.b_int (by decide +kernel) rfl) pa_nil))) (pe_one (pe_not (pe_callB (w_isi (K := K)) (by rfl) T.b_isinstance (by decide +kernel) (pa_cons (pv 0) (pa_cons (pe_bltn (v := .ty "bool") (u := .type "bool") (by rfl) T.b_bool (by decide +kernel) rfl) pa_nil)))))))), ?_⟩
    refine ⟨_, rfl, .int i, .ty "int", .type "int", .type "int", true, rfl, .ty _, .base (.int i), kit_ty (by decide +kernel), true, rfl, ?_⟩
    refine iteT ?_
    refine ⟨_, rfl, .int i, .ty "bool", .type "int", .type "bool", false, rfl, .ty _, .base (.int i), kit_ty (by decide +kernel), false, rfl, ?_⟩
    exact q
def spBetween : Sp := fun vs H Q _ => ∃ i lo hi : Int, vs = [.int i, .int lo, .int hi] ∧ Q (.bl (decide (lo ≤ i) && decide (i ≤ hi))) H
theorem ok_is_between (T : Txt K mg A) (U : Funs K A fd) : FnOk P w K mg base CX0 4 A.is_between fd.is_between p_is_between (spBetween) := by
  have b_is_integer := U.b_is_integer
  have G_is_integer := ok_is_integer (P := P) (w := w) (base := base) T U
  refine U.F_is_between.ok sc_is_between (fun vs H Q E h => ?_) (fun cdv A0 outer s H vs Q E hr h => ?_)
  · obtain ⟨i, lo, hi, rfl, _⟩ := h
    rfl
  · have hu := hu_of hr
    obtain ⟨i, lo, hi, rfl, q⟩ := h
    refine ⟨_, (pss_one (ps_ret (pe_and (pe_call G_is_integer (hr.mono (by decide)) (by rfl) T.m_is_integer T.k_is_integer b_is_integer .nil pass0 (pa_cons (pv 0) pa_nil)) (pe_one (pe_chain op_le op_le (pv 1) (pv 0) (pv 2)))))), ?_⟩
    refine ⟨_, rfl, i, rfl, true, rfl, ?_⟩
    refine iteT ?_
    refine ⟨_, rfl, _, rfl, lo, i, rfl, rfl, _, rfl, ?_⟩
    by_cases c : lo ≤ i
    · rw [decide_eq_true c] at q ⊢
      refine iteT ?_
      exact ⟨_, rfl, i, hi, rfl, rfl, q⟩
    · rw [decide_eq_false c] at q ⊢
      exact iteF q
theorem tupTy {H : Hp} {a : Addr} {xs : List V} (h : SqT K H a xs) : TyX K H (.ref a) (.type "tuple") := by
  rcases h with (h | ⟨o, h⟩) | h
  · exact .base (.tup h)
  · exact .fTuple h
  · obtain ⟨o, vs, n, h1, h2, _⟩ := h
    exact .kTuple h1 h2
def spSigns : Sp := fun vs H Q _ => ∃ i : Int, vs = [.int i] ∧ 1 ≤ i ∧ i ≤ 8 ∧ Q .non H
theorem ok_check_signs (T : Txt K mg A) (U : Funs K A fd) : FnOk P w K mg base CX0 7 A.check_signs fd.check_signs p_check_signs (spSigns) := by
  have b_is_between := U.b_is_between
  have G_is_between := ok_is_between (P := P) (w := w) (base := base) T U
  refine U.F_check_signs.ok sc_check_signs (fun vs H Q E h => ?_) (fun cdv A0 outer s H vs Q E hr h => ?_)
  · obtain ⟨i, rfl, _⟩ := h
    rfl
  · have hu := hu_of hr
    obtain ⟨i, rfl, h1, h2, q⟩ := h
    refine ⟨_, (pss_one (ps_if (pt_not (pt_val (pe_call G_is_between (hr.mono (by decide)) (by rfl) T.m_is_between T.k_is_between b_is_between .nil pass0 (pa_cons (pv 0) (pa_cons pe_int (pa_cons (pe_glob (v := .int 8) (by rfl) T.c_MOST_SIGNS.choose_spec ⟨_, rfl⟩) pa_nil)))))) (pss_one ps_never) pss_nil)), ?_⟩
    refine ⟨_, rfl, _, _, _, rfl, ?_⟩
    rw [decide_eq_true h1, decide_eq_true h2]
    exact ⟨_, rfl, iteF q⟩
theorem cut_at : ∀ n : Nat, n ≤ 8 → cutS ("abcdefgh" : Str) none (some (n : Int)) = rowS (List.range n)
  | 0, _ => by decide +kernel
  | 1, _ => by decide +kernel
  | 2, _ => by decide +kernel
  | 3, _ => by decide +kernel
  | 4, _ => by decide +kernel
  | 5, _ => by decide +kernel
  | 6, _ => by decide +kernel
  | 7, _ => by decide +kernel
  | 8, _ => by decide +kernel
  | n + 9, h => by omega
theorem rowS_at {l : List Nat} {i c : Nat} (h : (rowS l).cps[i]? = some c) : ∃ g, l[i]? = some g ∧ c = 97 + g := by
  unfold rowS at h
  simp only [List.getElem?_toArray, List.getElem?_map] at h
  cases e : l[i]? with
  | none => rw [e] at h; cases h
  | some g =>
    rw [e] at h
    exact ⟨g, rfl, (Option.some.inj h).symm⟩
theorem rowS_size (l : List Nat) : (rowS l).cps.size = l.length := rowS_len l
theorem in_row {g : Nat} {l : List Nat} (h : g ∈ l) : decide (97 + g ∈ (rowS l).cps.toList) = true := by
  refine decide_eq_true ?_
  unfold rowS
  rw [List.toList_toArray]
  exact List.mem_map.mpr ⟨g, h, rfl⟩
def spIsRow : Sp := fun vs H Q _ => ∃ (l : List Nat) (n m : Nat), vs = [.str (rowS l), .int (n : Int), .int (m : Int)] ∧ n ≤ 8 ∧ l.length ≤ m ∧ m ≤ 1000 ∧ (∀ g ∈ l, g < n) ∧ ∀ H', Same H H' → Q (.bl true) H'
theorem ok_is_row (T : Txt K mg A) (U : Funs K A fd) : FnOk P w K mg base CX0 1 A.is_row fd.is_row p_is_row (spIsRow) := by
  refine U.F_is_row.ok sc_is_row (fun vs H Q E h => ?_) (fun cdv A0 outer s H vs Q E hr h => ?_)
  · obtain ⟨l, n, m, rfl, _⟩ := h
    rfl
  · have hu := hu_of hr
    obtain ⟨l, n, m, rfl, hn, hl, hm, hg, q⟩ := h
    refine ⟨_, (pss_cons (ps_if (PW.pt (pw_or (pt_not (pt_val (pe_callB (w_isi (K := K)) (by rfl) T.b_isinstance (by decide +kernel) (pa_cons (pv 0) (pa_cons (pe_bltn (v := .ty "str") (u := .type "str") (by rfl) T.b_str (by decide +kernel) rfl) pa_nil))))) (pw_or1 (pt_cmpR op_gt (pe_callB (w_len (K := K)) (by rfl) T.b_len (by decide +kernel) (pa_cons (pv 0) pa_nil)) (pv 2) (nomark _))))) (pss_one (ps_ret pe_bl)) pss_nil)
       (pss_cons (ps_set (i := 3) sc_is_row.nd rfl (Or.inr rfl) (pe_slice sl_str (pe_glob (v := .str "abcdefgh") (by rfl) T.c_ALPHABET.choose_spec ⟨_, rfl⟩) po_none (po_some (pv 1))))
       (pss_one (ps_ret (pe_callB (w_all (K := K) rfl) (by rfl) T.b_all (by decide +kernel) (pa_cons (pe_lc (own := [("sign", 4)]) (g := gName 4) (tt := tYes) (by rfl) sc_is_row.nd (pi_str (pv 0)) (blkOk_by (own := [("sign", 4)]) (by rfl)) (fun _ _ _ _ _ => (pg_name (i := 4) sc_is_row.nd rfl (Or.inl rfl))) (fun _ _ _ _ _ => pts_nil) (fun _ _ _ _ _ => (pe_cmpR op_in_sign (pv 4) (pv 3) (by rfl)))) pa_nil)))))), ?_⟩
    refine ⟨_, rfl, .str (rowS l), .ty "str", .type "str", .type "str", true, rfl, .ty _, .base (.str _), kit_ty (by decide +kernel), true, rfl, ?_⟩
    refine iteF ?_
    refine ⟨_, rfl, _, _, rfl, ⟨szl (by rw [rowS_len]; omega), rfl⟩, _, rfl, _, _, rfl, rfl, _, rfl, ?_⟩
    rw [decide_eq_false (show ¬ (((rowS l).length : Int) > (m : Int)) by rw [rowS_len]; omega)]
    refine iteF (g_next ?_)
    refine ⟨_, rfl, (n : Int), rfl, _, rfl, szl (by decide +kernel), ?_⟩
    rw [cut_at n hn]
    dsimp only
    refine g_ret (g_cb (cS (z := rowS l) (fun _ => [.bl true]) (fun R r => ?_) (fun _ => Nat.le_refl 1) (by rw [rowS_size]; omega) ?_ (fun i c hi => turn_yes fun H1 R s1 r => ?_) (fun D H1 _ s1 h1 => ?_)))
    · exact ⟨_, rfl, r⟩
    · exact fun _ => rfl
    · obtain ⟨g, hg1, rfl⟩ := rowS_at hi
      refine ⟨_, rfl, _, rfl, _, _, rfl, rfl, ?_⟩
      rw [in_row (List.mem_range.mpr (hg g (List.mem_of_getElem? hg1)))]
      exact r H1 (Same.refl _)
    · rw [replicate_pre] at h1
      refine ⟨D, List.replicate (rowS l).cps.size true, rfl, lst_of (by rw [← bls]; exact h1), ?_⟩
      rw [all_true]
      exact q H1 s1
def spCkRow : Sp := fun vs H Q _ => ∃ (l : List Nat) (n : Nat), vs = [.int (n : Int), .str (rowS l)] ∧ n ≤ 8 ∧ l.length ≤ 200 ∧ (∀ g ∈ l, g < n) ∧ ∀ H', Same H H' → Q .non H'
theorem ok_check_row (T : Txt K mg A) (U : Funs K A fd) : FnOk P w K mg base CX0 4 A.check_row fd.check_row p_check_row (spCkRow) := by
  have b_is_row := U.b_is_row
  have G_is_row := ok_is_row (P := P) (w := w) (base := base) T U
  refine U.F_check_row.ok sc_check_row (fun vs H Q E h => ?_) (fun cdv A0 outer s H vs Q E hr h => ?_)
  · obtain ⟨l, n, rfl, _⟩ := h
    rfl
  · have hu := hu_of hr
    obtain ⟨l, n, rfl, hn, hl, hg, q⟩ := h
    refine ⟨_, (pss_one (ps_if (pt_not (pt_val (pe_call G_is_row (hr.mono (by decide)) (by rfl) T.m_is_row T.k_is_row b_is_row .nil pass0 (pa_cons (pv 1) (pa_cons (pv 0) (pa_cons (pe_glob (v := .int 200) (by rfl) T.c_MOST_ROW.choose_spec ⟨_, rfl⟩) pa_nil)))))) (pss_one ps_never) pss_nil)), ?_⟩
    refine ⟨_, rfl, _, rfl, l, n, 200, rfl, hn, hl, by decide, hg, fun H1 s1 => ?_⟩
    exact ⟨_, rfl, iteF (g_next (q H1 s1))⟩
def spCkLen : Sp := fun vs H Q _ => ∃ n : Nat, vs = [.int (n : Int)] ∧ n ≤ 200 ∧ Q .non H
theorem ok_check_length (T : Txt K mg A) (U : Funs K A fd) : FnOk P w K mg base CX0 7 A.check_length fd.check_length p_check_length (spCkLen) := by
  have b_is_between := U.b_is_between
  have G_is_between := ok_is_between (P := P) (w := w) (base := base) T U
  refine U.F_check_length.ok sc_check_length (fun vs H Q E h => ?_) (fun cdv A0 outer s H vs Q E hr h => ?_)
  · obtain ⟨n, rfl, _⟩ := h
    rfl
  · have hu := hu_of hr
    obtain ⟨n, rfl, h1, q⟩ := h
    refine ⟨_, (pss_one (ps_if (pt_not (pt_val (pe_call G_is_between (hr.mono (by decide)) (by rfl) T.m_is_between T.k_is_between b_is_between .nil pass0 (pa_cons (pv 0) (pa_cons pe_int (pa_cons (pe_glob (v := .int 200) (by rfl) T.c_MOST_ROW.choose_spec ⟨_, rfl⟩) pa_nil)))))) (pss_one ps_never) pss_nil)), ?_⟩
    refine ⟨_, rfl, _, _, _, rfl, ?_⟩
    rw [decide_eq_true (show (0 : Int) ≤ (n : Int) by omega), decide_eq_true (show (n : Int) ≤ 200 by omega)]
    exact ⟨_, rfl, iteF q⟩
/-! ### weights, tables, as data -/
abbrev Ws := List Int
def dWs (l : Ws) : PyData := .tuple (l.map .int)
def dTbl (t : List Ws) : PyData := .tuple (t.map dWs)
def dTbs (ts : List (List Ws)) : PyData := .tuple (ts.map dTbl)
/-- weights of so many -/
structure GoodN (n : Nat) (l : Ws) : Prop where
  len : l.length = n
  lo : ∀ x ∈ l, -1000 ≤ x
  hi : ∀ x ∈ l, x ≤ 1000
end K6


set_option Elab.async false
set_option linter.all false
set_option maxRecDepth 100000
set_option maxHeartbeats 4000000
namespace K6
open PySem PySem.Spec PyProof.Rows L2 Rw
variable {P : Program} {w : World} {K : PySem.W.Frag} {mg : Str → Option Value} {base : Heap} {A : Ad} {fd : Fds}
def spWs (K : PySem.W.Frag) : Sp := fun vs H Q _ => ∃ (v : V) (l : Ws) (n : Nat), vs = [v, .int (n : Int)] ∧ Dp K H v (dWs l) ∧ GoodN n l ∧ n ≤ 100 ∧ ∀ H', Same H H' → Q (.bl true) H'
theorem ok_is_weights (T : Txt K mg A) (U : Funs K A fd) : FnOk P w K mg base CX0 7 A.is_weights fd.is_weights p_is_weights (spWs K) := by
  have b_is_between := U.b_is_between
  have G_is_between := ok_is_between (P := P) (w := w) (base := base) T U
  refine U.F_is_weights.ok sc_is_weights (fun vs H Q E h => ?_) (fun cdv A0 outer s H vs Q E hr h => ?_)
  · obtain ⟨v, l, n, rfl, _⟩ := h
    rfl
  · have hu := hu_of hr
    obtain ⟨v, l, n, rfl, hd, g, hn, q⟩ := h
    refine ⟨_, (pss_cons (ps_if (PW.pt (pw_or (pt_not (pt_val (pe_callB (w_isi (K := K)) (by rfl) T.b_isinstance (by decide +kernel) (pa_cons (pv 0) (pa_cons (pe_bltn (v := .ty "tuple") (u := .type "tuple") (by rfl) T.b_tuple (by decide +kernel) rfl) pa_nil))))) (pw_or1 (pt_cmpR op_ne (pe_callB (w_len (K := K)) (by rfl) T.b_len (by decide +kernel) (pa_cons (pv 0) pa_nil)) (pv 1) (nomark _))))) (pss_one (ps_ret pe_bl)) pss_nil)
       (pss_one (ps_ret (pe_callB (w_all (K := K) rfl) (by rfl) T.b_all (by decide +kernel) (pa_cons (pe_lc (own := [("number", 2)]) (g := gName 2) (tt := tYes) (by rfl) sc_is_weights.nd (w_piT (K := K) (pv 0)) (blkOk_by (own := [("number", 2)]) (by rfl)) (fun _ _ _ _ _ => (pg_name (i := 2) sc_is_weights.nd rfl (Or.inl rfl))) (fun _ _ _ _ _ => pts_nil) (fun _ _ _ _ _ => (pe_call G_is_between (hr.mono (by decide)) (by rfl) T.m_is_between T.k_is_between b_is_between .nil pass0 (pa_cons (pv 2) (pa_cons (pe_un un_neg (pe_glob (v := .int 1000) (by rfl) T.c_MOST_WEIGHT.choose_spec ⟨_, rfl⟩)) (pa_cons (pe_glob (v := .int 1000) (by rfl) T.c_MOST_WEIGHT.choose_spec ⟨_, rfl⟩) pa_nil)))))) pa_nil))))), ?_⟩
    obtain ⟨a, xs, rfl, hx, hds⟩ := dp_tup hd
    obtain rfl := dps_ints hds
    have gl := g.len
    have hz : (l.map V.int).length < 100000 := by rw [List.length_map]; omega
    refine ⟨_, rfl, _, _, _, .type "tuple", true, rfl, .ty _, tupTy hx, kit_ty (by decide +kernel), true, rfl, ?_⟩
    refine iteF ?_
    refine ⟨_, rfl, _, _, rfl, .inr ⟨_, hx, rfl⟩, _, rfl, rfl, _, rfl, ?_⟩
    rw [List.length_map, gl, decide_eq_true rfl]
    refine iteF (g_next ?_)
    dsimp only
    refine g_ret (g_cb (cT (xs := l.map V.int) (fun _ => [.bl true]) (fun R r => ?_) hx (fun _ => Nat.le_refl 1) hz ?_ (fun i x hi => turn_yes fun H1 R s1 r => ?_) (fun D H1 _ s1 h1 => ?_)))
    · exact ⟨_, rfl, r⟩
    · exact fun _ => rfl
    · rw [List.getElem?_map] at hi
      cases e : l[i]? with
      | none => rw [e] at hi; cases hi
      | some z =>
        rw [e] at hi
        obtain rfl := Option.some.inj hi
        have h1 := g.lo z (List.mem_of_getElem? e)
        have h2 := g.hi z (List.mem_of_getElem? e)
        refine ⟨_, rfl, _, rfl, _, _, _, rfl, ?_⟩
        rw [decide_eq_true (show (-1000 : Int) ≤ z from h1), decide_eq_true (show z ≤ (1000 : Int) from h2)]
        exact r H1 (Same.refl _)
    · rw [replicate_pre] at h1
      refine ⟨D, List.replicate (l.map V.int).length true, rfl, lst_of (by rw [← bls]; exact h1), ?_⟩
      rw [all_true]
      exact q H1 s1
theorem tbl_in {H : Hp} {α : Type} {f : α → PyData} {l : List α} {xs : List V} {i : Nat} {x : V} (h : DpAll K H xs (l.map f)) (hi : xs[i]? = some x) : ∃ r, l[i]? = some r ∧ Dp K H x (f r) := by
  obtain ⟨d, hd, hx⟩ := dps_getV h hi
  rw [List.getElem?_map] at hd
  cases e : l[i]? with
  | none => rw [e] at hd; cases hd
  | some row =>
    rw [e] at hd
    obtain rfl := Option.some.inj hd
    exact ⟨row, rfl, hx⟩
structure GoodM (n : Nat) (t : List Ws) : Prop where
  len : t.length = n
  rows : ∀ r ∈ t, GoodN n r
def spTbl (K : PySem.W.Frag) : Sp := fun vs H Q _ => ∃ (v : V) (t : List Ws) (n : Nat), vs = [v, .int (n : Int)] ∧ Dp K H v (dTbl t) ∧ GoodM n t ∧ n ≤ 100 ∧ ∀ H', Same H H' → Q (.bl true) H'
theorem ok_is_table (T : Txt K mg A) (U : Funs K A fd) : FnOk P w K mg base CX0 10 A.is_table fd.is_table p_is_table (spTbl K) := by
  have b_is_weights := U.b_is_weights
  have G_is_weights := ok_is_weights (P := P) (w := w) (base := base) T U
  refine U.F_is_table.ok sc_is_table (fun vs H Q E h => ?_) (fun cdv A0 outer s H vs Q E hr h => ?_)
  · obtain ⟨v, l, n, rfl, _⟩ := h
    rfl
  · have hu := hu_of hr
    obtain ⟨v, l, n, rfl, hd, g, hn, q⟩ := h
    refine ⟨_, (pss_cons (ps_if (PW.pt (pw_or (pt_not (pt_val (pe_callB (w_isi (K := K)) (by rfl) T.b_isinstance (by decide +kernel) (pa_cons (pv 0) (pa_cons (pe_bltn (v := .ty "tuple") (u := .type "tuple") (by rfl) T.b_tuple (by decide +kernel) rfl) pa_nil))))) (pw_or1 (pt_cmpR op_ne (pe_callB (w_len (K := K)) (by rfl) T.b_len (by decide +kernel) (pa_cons (pv 0) pa_nil)) (pv 1) (nomark _))))) (pss_one (ps_ret pe_bl)) pss_nil)
       (pss_one (ps_ret (pe_callB (w_all (K := K) rfl) (by rfl) T.b_all (by decide +kernel) (pa_cons (pe_lc (own := [("row", 2)]) (g := gName 2) (tt := tYes) (by rfl) sc_is_table.nd (w_piT (K := K) (pv 0)) (blkOk_by (own := [("row", 2)]) (by rfl)) (fun _ _ _ _ _ => (pg_name (i := 2) sc_is_table.nd rfl (Or.inl rfl))) (fun _ _ _ _ _ => pts_nil) (fun _ _ _ _ _ => (pe_call G_is_weights (hr.mono (by decide)) (by rfl) T.m_is_weights T.k_is_weights b_is_weights .nil pass0 (pa_cons (pv 2) (pa_cons (pv 1) pa_nil))))) pa_nil))))), ?_⟩
    obtain ⟨a, xs, rfl, hx, hds⟩ := dp_tup hd
    have gl := g.len
    have hl : xs.length = l.length := by rw [dps_len hds, List.length_map]
    refine ⟨_, rfl, _, _, _, .type "tuple", true, rfl, .ty _, tupTy hx, kit_ty (by decide +kernel), true, rfl, ?_⟩
    refine iteF ?_
    refine ⟨_, rfl, _, _, rfl, .inr ⟨_, hx, rfl⟩, _, rfl, rfl, _, rfl, ?_⟩
    rw [hl, gl, decide_eq_true rfl]
    refine iteF (g_next ?_)
    dsimp only
    refine g_ret (g_cb (cT (xs := xs) (fun _ => [.bl true]) (fun R r => ?_) hx (fun _ => Nat.le_refl 1) (by omega) ?_ (fun i x hi => turn_yes fun H1 R s1 r => ?_) (fun D H1 _ s1 h1 => ?_)))
    · exact ⟨_, rfl, r⟩
    · exact fun _ => rfl
    · obtain ⟨row, hr1, hr2⟩ := tbl_in hds hi
      exact ⟨_, rfl, _, rfl, x, row, n, rfl, dp_mono s1 _ _ hr2, g.rows row (List.mem_of_getElem? hr1), hn, r⟩
    · rw [replicate_pre] at h1
      refine ⟨D, List.replicate xs.length true, rfl, lst_of (by rw [← bls]; exact h1), ?_⟩
      rw [all_true]
      exact q H1 s1
/-! ### weighers -/
theorem g_ifS {c : TT} {t u : TS} {D : Ends} {σ : L2.St} {H : Hp} (h : c σ H fun b H1 => if b = true then t D σ H1 else u D σ H1) : tIfS c t u D σ H := h
structure Wg where
  begins : Ws
  tables : List (List Ws)
  goals : Ws
structure GoodG (m : Nat) (S : Wg) : Prop where
  m1 : 1 ≤ m
  m8 : m ≤ 8
  n1 : 1 ≤ S.begins.length
  n6 : S.begins.length ≤ 6
  tl : S.tables.length = m
  b : GoodN S.begins.length S.begins
  t : ∀ t ∈ S.tables, GoodM S.begins.length t
  g : GoodN S.begins.length S.goals
theorem kg1 : ¬ (("_signs" : Str) = "_begins") := by decide +kernel
theorem kg2 : ¬ (("_signs" : Str) = "_tables") := by decide +kernel
theorem kg3 : ¬ (("_signs" : Str) = "_goals") := by decide +kernel
theorem kg4 : ¬ (("_begins" : Str) = "_tables") := by decide +kernel
theorem kg5 : ¬ (("_begins" : Str) = "_goals") := by decide +kernel
theorem kg6 : ¬ (("_tables" : Str) = "_goals") := by decide +kernel
def flds (w : Nat) (a t g : Addr) : List (Str × V) := putF "_goals" (.ref g) (putF "_tables" (.ref t) (putF "_begins" (.ref a) (putF "_signs" (.int (w : Int)) [])))
theorem putF_len (f : Str) (v : V) : ∀ fs : List (Str × V), (putF f v fs).length ≤ fs.length + 1
  | [] => Nat.le_refl _
  | (g, x) :: r => by
    unfold putF
    by_cases c : g = f
    · rw [if_pos c]
      exact Nat.le_succ _
    · rw [if_neg c]
      have := putF_len f v r
      simp only [List.length_cons]
      omega
section
variable (n : Nat) (a t g : Addr)
theorem fl_signs : (flds n a t g).lookup ("_signs" : Str) = some (.int (n : Int)) := by
  unfold flds
  rw [lookup_putF, if_neg kg3, lookup_putF, if_neg kg2, lookup_putF, if_neg kg1, lookup_putF, if_pos rfl]
theorem fl_begins : (flds n a t g).lookup ("_begins" : Str) = some (.ref a) := by
  unfold flds
  rw [lookup_putF, if_neg kg5, lookup_putF, if_neg kg4, lookup_putF, if_pos rfl]
theorem fl_tables : (flds n a t g).lookup ("_tables" : Str) = some (.ref t) := by
  unfold flds
  rw [lookup_putF, if_neg kg6, lookup_putF, if_pos rfl]
theorem fl_goals : (flds n a t g).lookup ("_goals" : Str) = some (.ref g) := by
  unfold flds
  rw [lookup_putF, if_pos rfl]
end
structure WgAt (K : PySem.W.Frag) (C : Addr) (H : Hp) (p : Addr) (n : Nat) (S : Wg) : Prop where
  ob : ∃ dx a t g, H p = some (.ins C dx (flds n a t g)) ∧ Dp K H (.ref a) (dWs S.begins) ∧ Dp K H (.ref t) (dTbs S.tables) ∧ Dp K H (.ref g) (dWs S.goals)
theorem WgAt.mono {H H' : Hp} {C p : Addr} {n : Nat} {S : Wg} (h : WgAt K C H p n S) (s : Same H H') : WgAt K C H' p n S := by
  obtain ⟨dx, a, t, g, h1, h2, h3, h4⟩ := h.ob
  exact ⟨dx, a, t, g, s _ _ h1, dp_mono s _ _ h2, dp_mono s _ _ h3, dp_mono s _ _ h4⟩
def spInit (K : PySem.W.Frag) (C : Addr) : Sp := fun vs H Q _ => ∃ (p dx a t g : Addr) (n : Nat) (S : Wg), vs = [.ref p, .int (n : Int), .ref a, .ref t, .ref g] ∧ H p = some (.ins C dx []) ∧
  Dp K H (.ref a) (dWs S.begins) ∧ Dp K H (.ref t) (dTbs S.tables) ∧ Dp K H (.ref g) (dWs S.goals) ∧ GoodG n S ∧
  ∀ H', (∀ b o, H b = some o → b ≠ p → H' b = some o) → H' p = some (.ins C dx (flds n a t g)) → Q .non H'
theorem ok_Weigher_init (T : Txt K mg A) (U : Funs K A fd) : FnOk P w K mg base CX0 13 A.Weigher_init fd.Weigher_init p_Weigher_init (spInit K A.C) := by
  have b_is_weights := U.b_is_weights
  have G_is_weights := ok_is_weights (P := P) (w := w) (base := base) T U
  have b_is_table := U.b_is_table
  have G_is_table := ok_is_table (P := P) (w := w) (base := base) T U
  have b_check_signs := U.b_check_signs
  have G_check_signs := ok_check_signs (P := P) (w := w) (base := base) T U
  refine U.F_Weigher_init.ok sc_Weigher_init (fun vs H Q E h => ?_) (fun cdv A0 outer s H vs Q E hr h => ?_)
  · obtain ⟨p, dx, a, t, g, n, S, rfl, _⟩ := h
    rfl
  · have hu := hu_of hr
    obtain ⟨p, dx, a, t, g, n, S, rfl, hp, ha, ht, hg, gg, q⟩ := h
    refine ⟨_, (pss_cons (ps_expr (pe_call G_check_signs (hr.mono (by decide)) (by rfl) T.m_check_signs T.k_check_signs b_check_signs .nil pass0 (pa_cons (pv 1) pa_nil)))
       (pss_cons (ps_if (PW.pt (pw_or (pt_not (pt_val (pe_callB (w_isi (K := K)) (by rfl) T.b_isinstance (by decide +kernel) (pa_cons (pv 2) (pa_cons (pe_bltn (v := .ty "tuple") (u := .type "tuple") (by rfl) T.b_tuple (by decide +kernel) rfl) pa_nil))))) (pw_or (pt_not (pt_chain op_le op_le pe_int (pe_callB (w_len (K := K)) (by rfl) T.b_len (by decide +kernel) (pa_cons (pv 2) pa_nil)) (pe_glob (v := .int 6) (by rfl) T.c_MOST_SIZE.choose_spec ⟨_, rfl⟩))) (pw_or1 (pt_not (pt_val (pe_call G_is_weights (hr.mono (by decide)) (by rfl) T.m_is_weights T.k_is_weights b_is_weights .nil pass0 (pa_cons (pv 2) (pa_cons (pe_callB (w_len (K := K)) (by rfl) T.b_len (by decide +kernel) (pa_cons (pv 2) pa_nil)) pa_nil))))))))) (pss_one ps_never) pss_nil)
       (pss_cons (ps_if (PW.pt (pw_or (pt_not (pt_val (pe_callB (w_isi (K := K)) (by rfl) T.b_isinstance (by decide +kernel) (pa_cons (pv 3) (pa_cons (pe_bltn (v := .ty "tuple") (u := .type "tuple") (by rfl) T.b_tuple (by decide +kernel) rfl) pa_nil))))) (pw_or1 (pt_cmpR op_ne (pe_callB (w_len (K := K)) (by rfl) T.b_len (by decide +kernel) (pa_cons (pv 3) pa_nil)) (pv 1) (nomark _))))) (pss_one ps_never) pss_nil)
       (pss_cons (ps_if (pt_not (pt_val (pe_callB (w_all (K := K) rfl) (by rfl) T.b_all (by decide +kernel) (pa_cons (pe_lc (own := [("table", 5)]) (g := gName 5) (tt := tYes) (by rfl) sc_Weigher_init.nd (w_piT (K := K) (pv 3)) (blkOk_by (own := [("table", 5)]) (by rfl)) (fun _ _ _ _ _ => (pg_name (i := 5) sc_Weigher_init.nd rfl (Or.inl rfl))) (fun _ _ _ _ _ => pts_nil) (fun _ _ _ _ _ => (pe_call G_is_table (hr.mono (by decide)) (by rfl) T.m_is_table T.k_is_table b_is_table .nil pass0 (pa_cons (pv 5) (pa_cons (pe_callB (w_len (K := K)) (by rfl) T.b_len (by decide +kernel) (pa_cons (pv 2) pa_nil)) pa_nil))))) pa_nil)))) (pss_one ps_never) pss_nil)
       (pss_cons (ps_if (pt_not (pt_val (pe_call G_is_weights (hr.mono (by decide)) (by rfl) T.m_is_weights T.k_is_weights b_is_weights .nil pass0 (pa_cons (pv 4) (pa_cons (pe_callB (w_len (K := K)) (by rfl) T.b_len (by decide +kernel) (pa_cons (pv 2) pa_nil)) pa_nil))))) (pss_one ps_never) pss_nil)
       (pss_cons (ps_fld (pv 0) (pv 1) rfl)
       (pss_cons (ps_fld (pv 0) (pv 2) rfl)
       (pss_cons (ps_fld (pv 0) (pv 3) rfl)
       (pss_one (ps_fld (pv 0) (pv 4) rfl)))))))))), ?_⟩
    have m1 := gg.m1
    have m8 := gg.m8
    have n1 := gg.n1
    have n6 := gg.n6
    have tl := gg.tl
    obtain ⟨xa, xs, e1, hx, hds⟩ := dp_tup ha
    obtain rfl := V.ref.inj e1
    obtain ⟨xt, ts, e2, hxt, hdt⟩ := dp_tup ht
    obtain rfl := V.ref.inj e2
    have hl : xs.length = S.begins.length := by rw [dps_len hds, List.length_map]
    have hlt : ts.length = n := by rw [dps_len hdt, List.length_map, tl]
    refine ⟨_, rfl, _, rfl, by omega, by omega, ?_⟩
    refine ⟨_, rfl, _, _, _, .type "tuple", true, rfl, .ty _, tupTy hx, kit_ty (by decide +kernel), true, rfl, ?_⟩
    refine iteF ?_
    refine ⟨_, rfl, _, _, rfl, .inr ⟨_, hx, rfl⟩, _, _, rfl, rfl, _, rfl, ?_⟩
    rw [decide_eq_true (show (1 : Int) ≤ (xs.length : Int) by omega)]
    refine iteT ?_
    refine ⟨_, _, rfl, rfl, _, rfl, ?_⟩
    rw [decide_eq_true (show (xs.length : Int) ≤ 6 by omega)]
    refine iteF ?_
    refine ⟨_, rfl, _, rfl, _, _, rfl, .inr ⟨_, hx, rfl⟩, ?_⟩
    refine ⟨_, S.begins, S.begins.length, by rw [hl] <;> rfl, ha, gg.b, by omega, fun H1 s1 => ⟨_, rfl, iteF (g_next ?_)⟩⟩
    have hxt1 := sqT_mono s1 hxt
    refine ⟨_, rfl, _, _, _, .type "tuple", true, rfl, .ty _, tupTy hxt1, kit_ty (by decide +kernel), true, rfl, ?_⟩
    refine iteF ?_
    refine ⟨_, rfl, _, _, rfl, .inr ⟨_, hxt1, rfl⟩, _, rfl, rfl, _, rfl, ?_⟩
    rw [hlt, decide_eq_true rfl]
    refine iteF (g_next ?_)
    dsimp only
    refine g_seq ?_
    refine g_ifS ?_
    refine g_cb (cT (xs := ts) (fun _ => [.bl true]) (fun R r => ?_) hxt1 (fun _ => Nat.le_refl 1) (by omega) ?_ (fun i x hi => turn_yes fun H2 R s2 r => ?_) (fun D H2 _ s2 h2 => ?_))
    · exact ⟨_, rfl, r⟩
    · exact fun _ => rfl
    · obtain ⟨row, hr1, hr2⟩ := tbl_in hdt hi
      refine ⟨_, rfl, _, rfl, _, _, rfl, .inr ⟨_, sqT_mono (s1.trans s2) hx, rfl⟩, ?_⟩
      exact ⟨x, row, S.begins.length, by rw [hl] <;> rfl, dp_mono (s1.trans s2) _ _ hr2, gg.t row (List.mem_of_getElem? hr1), by omega, r⟩
    · rw [replicate_pre] at h2
      refine ⟨D, List.replicate ts.length true, rfl, lst_of (by rw [← bls]; exact h2), ?_⟩
      rw [all_true]
      refine ⟨true, rfl, iteF (g_next ?_)⟩
      have s12 := s1.trans s2
      refine ⟨_, rfl, _, rfl, _, _, rfl, .inr ⟨_, sqT_mono s12 hx, rfl⟩, _, S.goals, S.begins.length, by rw [hl] <;> rfl, dp_mono s12 _ _ hg, gg.g, by omega, fun H3 s3 => ⟨_, rfl, iteF (g_next ?_)⟩⟩
      have hp2 := (s12.trans s3) _ _ hp
      have l0 : ∀ (x : V), (putF "_signs" x []).length ≤ 1 := fun x => putF_len _ _ _
      refine ⟨_, rfl, _, rfl, p, A.C, dx, _, rfl, hp2, T.cl, T.na_signs, (by show 0 < 1000; decide), ?_⟩
      refine ⟨_, rfl, _, rfl, p, A.C, dx, _, rfl, upd_same, T.cl, T.na_begins, (Nat.lt_of_le_of_lt (putF_len _ _ _) (by decide)), ?_⟩
      refine ⟨_, rfl, _, rfl, p, A.C, dx, _, rfl, upd_same, T.cl, T.na_tables, (Nat.lt_of_le_of_lt (Nat.le_trans (putF_len _ _ _) (Nat.succ_le_succ (putF_len _ _ _))) (by decide)), ?_⟩
      refine ⟨_, rfl, _, rfl, p, A.C, dx, _, rfl, upd_same, T.cl, T.na_goals, (Nat.lt_of_le_of_lt (Nat.le_trans (putF_len _ _ _) (Nat.succ_le_succ (Nat.le_trans (putF_len _ _ _) (Nat.succ_le_succ (putF_len _ _ _))))) (by decide)), ?_⟩
      refine q _ (fun b o hb hne => ?_) upd_same
      rw [upd_ne hne, upd_ne hne, upd_ne hne, upd_ne hne]
      exact (s12.trans s3) _ _ hb
def spGet (C : Addr) (f : Str) : Sp := fun vs H Q _ => ∃ a dx fs v, vs = [.ref a] ∧ H a = some (.ins C dx fs) ∧ fs.lookup f = some v ∧ Q v H
theorem ok_Weigher_signs (T : Txt K mg A) (U : Funs K A fd) : FnOk P w K mg base CX0 1 A.Weigher_signs fd.Weigher_signs p_Weigher_signs (spGet A.C "_signs") := by
  refine U.F_Weigher_signs.ok sc_Weigher_signs (fun vs H Q E h => ?_) (fun cdv A0 outer s H vs Q E hr h => ?_)
  · obtain ⟨a, dx, fs, v, rfl, _⟩ := h
    rfl
  · have hu := hu_of hr
    obtain ⟨a, dx, fs, v, rfl, ea, l, q⟩ := h
    refine ⟨_, (pss_one (ps_ret (pe_fld (pv 0) rfl))), ?_⟩
    exact ⟨_, rfl, a, A.C, dx, fs, v, rfl, ea, T.cl, T.na_signs, l, q⟩
theorem ok_Weigher_begins (T : Txt K mg A) (U : Funs K A fd) : FnOk P w K mg base CX0 1 A.Weigher_begins fd.Weigher_begins p_Weigher_begins (spGet A.C "_begins") := by
  refine U.F_Weigher_begins.ok sc_Weigher_begins (fun vs H Q E h => ?_) (fun cdv A0 outer s H vs Q E hr h => ?_)
  · obtain ⟨a, dx, fs, v, rfl, _⟩ := h
    rfl
  · have hu := hu_of hr
    obtain ⟨a, dx, fs, v, rfl, ea, l, q⟩ := h
    refine ⟨_, (pss_one (ps_ret (pe_fld (pv 0) rfl))), ?_⟩
    exact ⟨_, rfl, a, A.C, dx, fs, v, rfl, ea, T.cl, T.na_begins, l, q⟩
theorem ok_Weigher_tables (T : Txt K mg A) (U : Funs K A fd) : FnOk P w K mg base CX0 1 A.Weigher_tables fd.Weigher_tables p_Weigher_tables (spGet A.C "_tables") := by
  refine U.F_Weigher_tables.ok sc_Weigher_tables (fun vs H Q E h => ?_) (fun cdv A0 outer s H vs Q E hr h => ?_)
  · obtain ⟨a, dx, fs, v, rfl, _⟩ := h
    rfl
  · have hu := hu_of hr
    obtain ⟨a, dx, fs, v, rfl, ea, l, q⟩ := h
    refine ⟨_, (pss_one (ps_ret (pe_fld (pv 0) rfl))), ?_⟩
    exact ⟨_, rfl, a, A.C, dx, fs, v, rfl, ea, T.cl, T.na_tables, l, q⟩
theorem ok_Weigher_goals (T : Txt K mg A) (U : Funs K A fd) : FnOk P w K mg base CX0 1 A.Weigher_goals fd.Weigher_goals p_Weigher_goals (spGet A.C "_goals") := by
  refine U.F_Weigher_goals.ok sc_Weigher_goals (fun vs H Q E h => ?_) (fun cdv A0 outer s H vs Q E hr h => ?_)
  · obtain ⟨a, dx, fs, v, rfl, _⟩ := h
    rfl
  · have hu := hu_of hr
    obtain ⟨a, dx, fs, v, rfl, ea, l, q⟩ := h
    refine ⟨_, (pss_one (ps_ret (pe_fld (pv 0) rfl))), ?_⟩
    exact ⟨_, rfl, a, A.C, dx, fs, v, rfl, ea, T.cl, T.na_goals, l, q⟩
def spWg (K : PySem.W.Frag) (C : Addr) (f : Nat → Wg → V) : Sp := fun vs H Q _ => ∃ p n S, vs = [.ref p] ∧ WgAt K C H p n S ∧ Q (f n S) H
theorem ok_Weigher_size (T : Txt K mg A) (U : Funs K A fd) : FnOk P w K mg base CX0 1 A.Weigher_size fd.Weigher_size p_Weigher_size (spWg K A.C (fun _ S => .int (S.begins.length : Int))) := by
  refine U.F_Weigher_size.ok sc_Weigher_size (fun vs H Q E h => ?_) (fun cdv A0 outer s H vs Q E hr h => ?_)
  · obtain ⟨p, n, S, rfl, _⟩ := h
    rfl
  · have hu := hu_of hr
    obtain ⟨p, n, S, rfl, R, q⟩ := h
    refine ⟨_, (pss_one (ps_ret (pe_callB (w_len (K := K)) (by rfl) T.b_len (by decide +kernel) (pa_cons (pe_fld (pv 0) rfl) pa_nil)))), ?_⟩
    obtain ⟨dx, a, t, g, h1, h2, h3, h4⟩ := R.ob
    obtain ⟨xa, xs, e1, hx, hds⟩ := dp_tup h2
    obtain rfl := V.ref.inj e1
    have hl : xs.length = S.begins.length := by rw [dps_len hds, List.length_map]
    refine ⟨_, rfl, p, A.C, dx, _, _, rfl, h1, T.cl, T.na_begins, fl_begins _ _ _ _, _, S.begins.length, rfl, .inr ⟨_, hx, hl.symm⟩, q⟩
theorem insTy (T : Txt K mg A) {H : Hp} {p dx : Addr} {fs : List (Str × V)} (h : H p = some (.ins A.C dx fs)) : TyX K H (.ref p) (.ref A.C) := .base (.ins h T.cl T.t_ha T.t_hn T.t_tk T.t_mo)
theorem kit_self (a : Addr) : PySem.W.kitOne K (.ref a) (.ref a) = some true := by
  unfold PySem.W.kitOne
  simp
theorem ok_check_weigher (T : Txt K mg A) (U : Funs K A fd) : FnOk P w K mg base CX0 1 A.check_weigher fd.check_weigher p_check_weigher (spWg K A.C (fun _ _ => .non)) := by
  refine U.F_check_weigher.ok sc_check_weigher (fun vs H Q E h => ?_) (fun cdv A0 outer s H vs Q E hr h => ?_)
  · obtain ⟨p, n, S, rfl, _⟩ := h
    rfl
  · have hu := hu_of hr
    obtain ⟨p, n, S, rfl, R, q⟩ := h
    refine ⟨_, (pss_one (ps_if (pt_not (pt_val (pe_callB (w_isi (K := K)) (by rfl) T.b_isinstance (by decide +kernel) (pa_cons (pv 0) (pa_cons (pe_glob (v := .ref A.C) (by rfl) T.m_Weigher rfl) pa_nil))))) (pss_one ps_never) pss_nil)), ?_⟩
    obtain ⟨dx, a, t, g, h1, h2, h3, h4⟩ := R.ob
    exact ⟨_, rfl, .ref p, .ref A.C, .ref A.C, .ref A.C, true, rfl, .own _, insTy T h1, kit_self _, true, rfl, iteF (g_next q)⟩
end K6


set_option Elab.async false
set_option linter.all false
set_option maxRecDepth 100000
set_option maxHeartbeats 4000000
namespace K6
open PySem PySem.Spec PyProof.Rows L2 Rw
variable {P : Program} {w : World} {K : PySem.W.Frag} {mg : Str → Option Value} {base : Heap} {A : Ad} {fd : Fds}
/-! ### data that can be compared -/
theorem eqv_same {d : PyData} (h : SeqAt.shaped d = true) : PyData.eqv d d = true := SeqAt.eqv_refl d (SeqAt.canLay_of_shaped h)
theorem shaped_mk {d : PyData} (h : d.canLay0 = true) (h2 : d.depth ≤ 64) : SeqAt.shaped d = true := by
  unfold SeqAt.shaped
  rw [h, decide_eq_true h2]
  rfl
theorem lay_all {α : Type} (f : α → PyData) : ∀ l : List α, (∀ x ∈ l, (f x).canLay0 = true) → PyData.canLayAll0 (l.map f) = true
  | [], _ => rfl
  | x :: l, h => by
    show ((f x).canLay0 && PyData.canLayAll0 (l.map f)) = true
    rw [h x (List.mem_cons_self ..), lay_all f l fun y hy => h y (List.mem_cons_of_mem _ hy)]
    rfl
theorem dep_all {α : Type} (f : α → PyData) (n : Nat) : ∀ l : List α, (∀ x ∈ l, (f x).depth ≤ n) → PyData.depthAll (l.map f) ≤ n
  | [], _ => Nat.zero_le _
  | x :: l, h => by
    show max (f x).depth (PyData.depthAll (l.map f)) ≤ n
    exact Nat.max_le.mpr ⟨h x (List.mem_cons_self ..), dep_all f n l fun y hy => h y (List.mem_cons_of_mem _ hy)⟩
theorem ws_lay (l : Ws) : (dWs l).canLay0 = true := lay_all PyData.int l fun x _ => rfl
theorem ws_dep (l : Ws) : (dWs l).depth ≤ 1 := by
  show PyData.depthAll (l.map PyData.int) + 1 ≤ 1
  have := dep_all PyData.int 0 l fun x _ => Nat.le_refl 0
  omega
theorem tbl_lay (t : List Ws) : (dTbl t).canLay0 = true := lay_all dWs t fun r _ => ws_lay r
theorem tbl_dep (t : List Ws) : (dTbl t).depth ≤ 2 := by
  show PyData.depthAll (t.map dWs) + 1 ≤ 2
  have := dep_all dWs 1 t fun x _ => ws_dep x
  omega
theorem tbs_lay (t : List (List Ws)) : (dTbs t).canLay0 = true := lay_all dTbl t fun r _ => tbl_lay r
theorem tbs_dep (t : List (List Ws)) : (dTbs t).depth ≤ 3 := by
  show PyData.depthAll (t.map dTbl) + 1 ≤ 3
  have := dep_all dTbl 2 t fun x _ => tbl_dep x
  omega
theorem ws_shaped (l : Ws) : SeqAt.shaped (dWs l) = true := shaped_mk (ws_lay l) (by have := ws_dep l; omega)
theorem tbs_shaped (l : List (List Ws)) : SeqAt.shaped (dTbs l) = true := shaped_mk (tbs_lay l) (by have := tbs_dep l; omega)
/-- one more of a chain of ands -/
theorem and_go {b rest : Bool} {Q : VK} {H : Hp} {X : Prop} (h : Q (.bl (b && rest)) H) (t : b = true → Q (.bl rest) H → X) : if b = true then X else Q (.bl false) H := by
  cases b with
  | true => exact t rfl h
  | false => exact h
def eqG (n m : Nat) (S S' : Wg) : Bool := decide (V.int (n : Int) = V.int (m : Int)) && (PyData.eqv (dWs S.begins) (dWs S'.begins) && (PyData.eqv (dTbs S.tables) (dTbs S'.tables) && PyData.eqv (dWs S.goals) (dWs S'.goals)))
def spEqG (K : PySem.W.Frag) (A : Ad) : Sp := fun vs H Q _ => ∃ (p n : Nat) (S : Wg) (y : V), vs = [.ref p, y] ∧ WgAt K A.C H p n S ∧
  ((∃ (q m : Nat) (S' : Wg), y = .ref q ∧ WgAt K A.C H q m S' ∧ Q (.bl (eqG n m S S')) H) ∨ ∃ q xs, y = .ref q ∧ SqT K H q xs ∧ Q (.bl false) H)
theorem ok_Weigher_eq (T : Txt K mg A) (U : Funs K A fd) : FnOk P w K mg base CX0 1 A.Weigher_eq fd.Weigher_eq p_Weigher_eq (spEqG K A) := by
  refine U.F_Weigher_eq.ok sc_Weigher_eq (fun vs H Q E h => ?_) (fun cdv A0 outer s H vs Q E hr h => ?_)
  · obtain ⟨p, n, S, y, rfl, _⟩ := h
    rfl
  · have hu := hu_of hr
    obtain ⟨p, n, S, y, rfl, W, h⟩ := h
    refine ⟨_, (pss_one (ps_ret (pe_and (pe_callB (w_isi (K := K)) (by rfl) T.b_isinstance (by decide +kernel) (pa_cons (pv 1) (pa_cons (pe_glob (v := .ref A.C) (by rfl) T.m_Weigher rfl) pa_nil))) (pe_and (pe_cmpR op_eq (pe_fld (pv 0) rfl) (pe_fld (pv 1) rfl) (nomark _)) (pe_and (pe_cmpR (w_eqD (K := K) hr.units) (pe_fld (pv 0) rfl) (pe_fld (pv 1) rfl) (nomark _)) (pe_and (pe_cmpR (w_eqD (K := K) hr.units) (pe_fld (pv 0) rfl) (pe_fld (pv 1) rfl) (nomark _)) (pe_one (pe_cmpR (w_eqD (K := K) hr.units) (pe_fld (pv 0) rfl) (pe_fld (pv 1) rfl) (nomark _))))))))), ?_⟩
    obtain ⟨dx, a, t, g, h1, h2, h3, h4⟩ := W.ob
    rcases h with ⟨q, m, S', rfl, W', k⟩ | ⟨q, xs, rfl, hx, k⟩
    · obtain ⟨dy, a', t', g', h1', h2', h3', h4'⟩ := W'.ob
      unfold eqG at k
      refine ⟨_, rfl, .ref q, .ref A.C, .ref A.C, .ref A.C, true, rfl, .own _, insTy T h1', kit_self _, true, rfl, ?_⟩
      refine iteT ?_
      refine ⟨_, rfl, p, A.C, dx, _, _, rfl, h1, T.cl, T.na_signs, fl_signs _ _ _ _, _, rfl, q, A.C, dy, _, _, rfl, h1', T.cl, T.na_signs, fl_signs _ _ _ _, rfl, _, rfl, ?_⟩
      refine and_go k fun _ k => ?_
      refine ⟨_, rfl, p, A.C, dx, _, _, rfl, h1, T.cl, T.na_begins, fl_begins _ _ _ _, _, rfl, q, A.C, dy, _, _, rfl, h1', T.cl, T.na_begins, fl_begins _ _ _ _, _, _, h2, h2', ws_shaped _, ws_shaped _, _, rfl, ?_⟩
      refine and_go k fun _ k => ?_
      refine ⟨_, rfl, p, A.C, dx, _, _, rfl, h1, T.cl, T.na_tables, fl_tables _ _ _ _, _, rfl, q, A.C, dy, _, _, rfl, h1', T.cl, T.na_tables, fl_tables _ _ _ _, _, _, h3, h3', tbs_shaped _, tbs_shaped _, _, rfl, ?_⟩
      refine and_go k fun _ k => ?_
      exact ⟨_, rfl, p, A.C, dx, _, _, rfl, h1, T.cl, T.na_goals, fl_goals _ _ _ _, _, rfl, q, A.C, dy, _, _, rfl, h1', T.cl, T.na_goals, fl_goals _ _ _ _, _, _, h4, h4', ws_shaped _, ws_shaped _, k⟩
    · refine ⟨_, rfl, .ref q, .ref A.C, .type "tuple", .ref A.C, false, rfl, .own _, tupTy hx, T.kc_tuple, false, rfl, ?_⟩
      exact iteF k
/-! ### products -/
theorem sqB_mono {H H' : Hp} (s : Same H H') {t : Bool} {a : Addr} {xs : List V} (h : SqB K t H a xs) : SqB K t H' a xs := by
  cases t with
  | true => exact sqL_mono s h
  | false => exact sqT_mono s h
theorem lZ {H : Hp} {σ : L2.St} {tt : TT} {te : TE} {vs : List Nat} {i8 i9 : Nat} {Qd : Addr → Hp → Prop} {t1 t2 : Bool} {a b : Addr} {xs ys : List V} (st : Nat → List V) (hx : SqB K t1 H a xs) (hy : SqB K t2 H b ys) (hl : ys.length = xs.length) (hst : ∀ i, (st i).length ≤ 1) (hn : xs.length < 100000)
    (hw : ∀ x y, wipe (((wipe σ vs).set i8 (some x)).set i9 (some y)) vs = wipe σ vs) (turn : ∀ (i : Nat) (x y : V), xs[i]? = some x → ys[i]? = some y → Turn1 tt te (((wipe σ vs).set i8 (some x)).set i9 (some y)) H (st i))
    (fin : ∀ D H1, H D = none → Same H H1 → H1 D = some (.lst (pre st xs.length)) → Qd D H1) :
    ∀ D, H D = none → ∃ W : Nat → Nat → Hp → Prop, (∃ m, W 0 m (upd H D (.lst []))) ∧ ∀ i m H, W i m H →
      ((ItzM K t1 t2 a b).stop i H ∧ Qd D H) ∨ ((ItzM K t1 t2 a b).go i H ∧ ∃ Nx : Hp → Prop, (∀ H', Nx H' → ∃ m', m' < m ∧ W (i + 1) m' H') ∧ ∀ x H', (ItzM K t1 t2 a b).yld i H x H' → gTup K 2 (gCons (gName i8) (gCons (gName i9) gNil)) x (wipe σ vs) H' fun σ2 H2 => wipe σ2 vs = wipe σ vs ∧ tt σ2 H2 fun b H3 =>
        if b = true then te σ2 H3 fun y H4 => ∃ acc, H4 D = some (.lst acc) ∧ acc.length < sizeLine ∧ Nx (upd H4 D (.lst (acc ++ [y]))) else Nx H3) := by
  intro D hD
  refine ⟨fun i m H1 => m = xs.length - i ∧ i ≤ xs.length ∧ Same H H1 ∧ H1 D = some (.lst (pre st i)), ⟨xs.length, rfl, Nat.zero_le _, same_upd hD, upd_same⟩, ?_⟩
  rintro i m H1 ⟨rfl, hi, s1, h1⟩
  by_cases c : i < xs.length
  · have ex : xs[i]? = some xs[i] := List.getElem?_eq_getElem c
    have c2 : i < ys.length := by omega
    have ey : ys[i]? = some ys[i] := List.getElem?_eq_getElem c2
    refine .inr ⟨⟨xs, ys, xs[i], ys[i], sqB_mono s1 hx, sqB_mono s1 hy, ex, ey⟩, fun H2 => Same H H2 ∧ H2 D = some (.lst (pre st (i + 1))), fun H2 h2 => ⟨xs.length - (i + 1), by omega, rfl, c, h2.1, h2.2⟩, fun x H' hyy => ?_⟩
    obtain ⟨T, x', y', rfl, hT, rfl, hx', hy'⟩ := hyy
    have ex' := hx' xs (sqB_mono s1 hx)
    have ey' := hy' ys (sqB_mono s1 hy)
    have sT := same_upd (o := .tup [x', y']) hT
    refine ⟨T, _, rfl, tup_of upd_same, rfl, _, _, rfl, _, _, rfl, rfl, ?_⟩
    refine ⟨hw _ _, ?_⟩
    refine turn i x' y' ex' ey' _ _ _ (s1.trans sT) (fun y H2 hs s2 => ?_) (fun H2 hs s2 => ?_)
    · refine ⟨pre st i, s2 D _ (sT _ _ h1), szt (by have := pre_len hst i; omega), ?_, ?_⟩
      · exact same_put (s1.trans (sT.trans s2)) hD
      · rw [pre_succ, hs]
        exact upd_same
    · refine ⟨s1.trans (sT.trans s2), ?_⟩
      rw [pre_succ, hs, List.append_nil]
      exact s2 D _ (sT _ _ h1)
  · have e : i = xs.length := by omega
    subst e
    exact .inl ⟨⟨xs, ys, sqB_mono s1 hx, sqB_mono s1 hy, rfl, hl⟩, fin D H1 hD s1 h1⟩
/-! ### what is written, as data -/
def dotI (xs ys : Ws) : Int := (List.zipWith (· * ·) xs ys).sum
theorem pre_ints (g : Nat → Int) (n : Nat) : pre (fun i => [V.int (g i)]) n = ((List.range n).map g).map V.int := by
  rw [pre_map (f := fun i => V.int (g i)), List.map_map]
  rfl
theorem dot_range {xs ys : Ws} (h : ys.length = xs.length) : ((List.range xs.length).map fun i => xs.getD i 0 * ys.getD i 0).sum = dotI xs ys := by
  unfold dotI
  congr 1
  apply List.ext_getElem
  · simp [h]
  · intro i h1 h2
    simp at h1
    simp [h1, show i < ys.length by omega]
def Small (l : Ws) : Prop := ∀ x ∈ l, -(2 ^ 64) < x ∧ x < 2 ^ 64
def spDot (K : PySem.W.Frag) : Sp := fun vs H Q _ => ∃ (a b : Addr) (t1 t2 : Bool) (xs ys : Ws), vs = [.ref a, .ref b] ∧ SqB K t1 H a (xs.map V.int) ∧ SqB K t2 H b (ys.map V.int) ∧ ys.length = xs.length ∧ xs.length ≤ 100 ∧ Small ys ∧
  ∀ H', Same H H' → Q (.int (dotI xs ys)) H'
theorem ok_dot (T : Txt K mg A) (U : Funs K A fd) : FnOk P w K mg base CX0 1 A.dot fd.dot p_dot (spDot K) := by
  refine U.F_dot.ok sc_dot (fun vs H Q E h => ?_) (fun cdv A0 outer s H vs Q E hr h => ?_)
  · obtain ⟨a, b, t1, t2, xs, ys, rfl, _⟩ := h
    rfl
  · have hu := hu_of hr
    obtain ⟨a, b, t1, t2, xs, ys, rfl, hx, hy, hl, hn, sm, k⟩ := h
    refine ⟨_, (pss_one (ps_ret (pe_callB (w_sum (K := K) rfl) (by rfl) T.b_sum (by decide +kernel) (pa_cons (pe_lc (own := [("one", 2), ("other", 3)]) (tt := tYes) (by rfl) sc_dot.nd (pi_zipM (K := K) rfl (by rfl) T.b_zip (pa_cons (pv 0) (pa_cons (pv 1) pa_nil))) (blkOk_by (own := [("one", 2), ("other", 3)]) (by rfl)) (fun _ _ _ _ _ => (w_tup (K := K) (n := 2) rfl (pgs_cons (pg_name (i := 2) sc_dot.nd rfl (Or.inl rfl)) (pgs_cons (pg_name (i := 3) sc_dot.nd rfl (Or.inl rfl)) pgs_nil)))) (fun _ _ _ _ _ => pts_nil) (fun _ _ _ _ _ => (pe_op op_mul (pv 2) (pv 3)))) pa_nil)))), ?_⟩
    refine g_ret (g_cb ?_)
    refine ⟨_, rfl, _, rfl, t1, t2, a, b, xs.map V.int, ys.map V.int, rfl, hx, hy, ?_⟩
    refine lZ (xs := xs.map V.int) (ys := ys.map V.int) (fun i => [.int (xs.getD i 0 * ys.getD i 0)]) hx hy (by rw [List.length_map, List.length_map, hl]) (fun _ => Nat.le_refl 1) (by rw [List.length_map]; omega) (fun _ _ => rfl) (fun i x y hi hj => turn_yes fun H1 R s1 q => ?_) (fun D H1 hD s1 h1 => ?_)
    · rw [List.getElem?_map] at hi hj
      have hi' : i < xs.length := by
        have := (List.getElem?_eq_some_iff.mp (by rw [List.getElem?_map]; exact hi : (xs.map V.int)[i]? = some x)).1
        simpa using this
      have hj' : i < ys.length := by omega
      rw [List.getElem?_eq_getElem hi'] at hi
      rw [List.getElem?_eq_getElem hj'] at hj
      obtain rfl := Option.some.inj hi
      obtain rfl := Option.some.inj hj
      have e1 : xs.getD i 0 = xs[i] := by simp [hi']
      have e2 : ys.getD i 0 = ys[i] := by simp [hj']
      rw [e1, e2] at q
      exact ⟨_, rfl, _, rfl, _, _, rfl, rfl, .inr (sm _ (List.getElem_mem hj')), q H1 (Same.refl _)⟩
    · rw [List.length_map, pre_ints] at h1
      refine ⟨D, _, rfl, lst_of h1, ?_⟩
      rw [dot_range hl]
      exact k H1 s1
end K6


set_option Elab.async false
set_option linter.all false
set_option maxRecDepth 100000
set_option maxHeartbeats 4000000
namespace K6
open PySem PySem.Spec PyProof.Rows L2 Rw
variable {P : Program} {w : World} {K : PySem.W.Frag} {mg : Str → Option Value} {base : Heap} {A : Ad} {fd : Fds}
theorem index_at : ∀ g : Nat, g < 8 → ∃ rest, Builtin.Str.occurrences ("abcdefgh" : Str) ⟨#[97 + g]⟩ 0 ("abcdefgh" : Str).length 1 = g :: rest
  | 0, _ => ⟨[], by decide +kernel⟩
  | 1, _ => ⟨[], by decide +kernel⟩
  | 2, _ => ⟨[], by decide +kernel⟩
  | 3, _ => ⟨[], by decide +kernel⟩
  | 4, _ => ⟨[], by decide +kernel⟩
  | 5, _ => ⟨[], by decide +kernel⟩
  | 6, _ => ⟨[], by decide +kernel⟩
  | 7, _ => ⟨[], by decide +kernel⟩
  | n + 8, h => by omega
theorem for_str {z : Str} {g : TG} {tb : TS} {D : Ends} {σ : L2.St} {H : Hp} (Pv : Nat → L2.St → Hp → Prop) (h0 : Pv 0 σ H)
    (hs : ∀ i c σ H, z.cps[i]? = some c → Pv i σ H → g (.str ⟨#[c]⟩) σ H fun σ2 H2 => tb { D with nx := Pv (i + 1), ct := Pv (i + 1), bk := D.nx } σ2 H2) (hd : ∀ σ H, Pv z.cps.size σ H → D.nx σ H) :
    ∃ W : Nat → Nat → L2.St → Hp → Prop, (∃ m, W 0 m σ H) ∧ ∀ i m σ H, W i m σ H →
      ((Its z).stop i H ∧ D.nx σ H) ∨ ((Its z).go i H ∧ ∃ N : L2.St → Hp → Prop, (∀ σ' H', N σ' H' → ∃ m', m' < m ∧ W (i + 1) m' σ' H') ∧ ∀ x H', (Its z).yld i H x H' → g x σ H' fun σ2 H2 => tb { D with nx := N, ct := N, bk := D.nx } σ2 H2) := by
  refine ⟨fun i m σ H => m = z.cps.size - i ∧ i ≤ z.cps.size ∧ Pv i σ H, ⟨z.cps.size, by simp, Nat.zero_le _, h0⟩, ?_⟩
  rintro i m σ H ⟨rfl, hi, p⟩
  by_cases hlt : i < z.cps.size
  · refine .inr ⟨hlt, Pv (i + 1), fun σ' H' p' => ⟨z.cps.size - (i + 1), by omega, rfl, hlt, p'⟩, fun x H' y => ?_⟩
    obtain ⟨e, c, hc, rfl⟩ := y
    subst e
    exact hs i c σ _ hc p
  · have e : i = z.cps.size := by omega
    subst e
    exact .inl ⟨Nat.le_refl _, hd σ H p⟩
/-! ### columns -/
def colI (t : List Ws) (j : Nat) : Ws := t.map (·.getD j 0)
def ColsAt (H : Hp) (q : Addr) (cs : List Ws) : Prop := ∃ ps : List Addr, H q = some (.lst (ps.map V.ref)) ∧ ps.length = cs.length ∧ ∀ (j : Nat) (c : Ws), cs[j]? = some c → ∃ p, ps[j]? = some p ∧ H p = some (.tup (c.map V.int))
theorem ColsAt.mono {H H' : Hp} {q : Addr} {cs : List Ws} (h : ColsAt H q cs) (s : Same H H') : ColsAt H' q cs := by
  obtain ⟨ps, h1, h2, h3⟩ := h
  refine ⟨ps, s _ _ h1, h2, fun j c e => ?_⟩
  obtain ⟨p, e1, e2⟩ := h3 j c e
  exact ⟨p, e1, s _ _ e2⟩
def cols (n : Nat) (t : List Ws) : List Ws := (List.range n).map fun j => colI t j
theorem rows_split {H : Hp} : ∀ {xs : List V} {t : List Ws}, DpAll K H xs (t.map dWs) → ∃ rs : List (Addr × List V), xs = (rs.map fun r => V.ref r.1) ∧ (∀ r ∈ rs, SqT K H r.1 r.2) ∧ rs.map (·.2) = t.map fun l => l.map V.int
  | [], [], _ => ⟨[], rfl, fun r m => (by cases m), rfl⟩
  | x :: xs, l :: t, h => by
    cases h with
    | cons h1 h2 =>
      obtain ⟨rs, e1, e2, e3⟩ := rows_split h2
      obtain ⟨a, ys, rfl, hy, hds⟩ := dp_tup h1
      obtain rfl := dps_ints hds
      refine ⟨(a, l.map V.int) :: rs, by rw [e1]; rfl, fun r m => ?_, by rw [List.map_cons, e3]; rfl⟩
      rcases List.mem_cons.mp m with q | q
      · subst q
        exact hy
      · exact e2 r q
  | [], _ :: _, h => by cases h
  | _ :: _, [], h => by cases h
def spTurned (K : PySem.W.Frag) : Sp := fun vs H Q _ => ∃ (a : V) (t : List Ws) (n : Nat), vs = [a] ∧ Dp K H a (dTbl t) ∧ GoodM n t ∧ 1 ≤ n ∧ n ≤ 3 ∧
  ∀ q H', H q = none → Same H H' → (∀ D, H D ≠ none → ColsAt (del D H') q (cols n t)) → Q (.ref q) H'
theorem ok_turned_table (T : Txt K mg A) (U : Funs K A fd) : FnOk P w K mg base CX0 1 A.turned_table fd.turned_table p_turned_table (spTurned K) := by
  refine U.F_turned_table.ok sc_turned_table (fun vs H Q E h => ?_) (fun cdv A0 outer s H vs Q E hr h => ?_)
  · obtain ⟨a, t, n, rfl, _⟩ := h
    rfl
  · have hu := hu_of hr
    obtain ⟨v, t, n, rfl, hd, g, n1, n3, k⟩ := h
    refine ⟨_, (pss_one (ps_ret (pe_listZip rfl rfl (by rfl) T.b_list (by rfl) T.b_zip (pv 0)))), ?_⟩
    obtain ⟨a, xs, rfl, hx, hds⟩ := dp_tup hd
    obtain ⟨rs, rfl, hrs, hmap⟩ := rows_split hds
    have hlen : rs.length = n := by
      have := congrArg List.length hmap
      rw [List.length_map, List.length_map] at this
      rw [this, g.len]
    have hrl : ∀ r ∈ rs, r.2.length = n := fun r m => by
      have : r.2 ∈ rs.map (·.2) := List.mem_map.mpr ⟨r, m, rfl⟩
      rw [hmap] at this
      obtain ⟨l, hl, e⟩ := List.mem_map.mp this
      rw [← e, List.length_map, (g.rows l hl).len]
    refine ⟨_, rfl, a, rs, n, rfl, .inl hx, fun r m => ⟨hrs r m, hrl r m⟩, by omega, by omega, by omega, fun S base H2 hS hT s2 hl ht => ?_⟩
    refine k S H2 hS s2 fun D hD => ?_
    have neS : S ≠ D := fun e => hD (by rw [← e]; exact hS)
    refine ⟨(List.range n).map fun j => base + j, ?_, by simp [cols], fun j c e => ?_⟩
    · rw [del_ne neS, hl, List.map_map]
      rfl
    · have hj : j < n := by
        have := (List.getElem?_eq_some_iff.mp e).1
        simpa [cols] using this
      have e2 : c = colI t j := by
        simp [cols, hj] at e
        exact e.symm
      subst e2
      refine ⟨base + j, by simp [hj], ?_⟩
      rw [del_ne (fun z => hD (by rw [← z]; exact hT j hj)), ht j hj]
      congr 2
      have := congrArg (fun l : List (List V) => l.map (·.getD j .non)) hmap
      simp only [List.map_map] at this
      have e3 : (rs.map fun r => r.2.getD j V.non) = List.map ((fun x => x.getD j V.non) ∘ fun x => x.2) rs := rfl
      rw [e3, this]
      unfold colI
      rw [List.map_map]
      refine List.map_congr_left fun l hl => ?_
      have : j < l.length := by rw [(g.rows l hl).len]; exact hj
      simp [this]
/-! ### values -/
def stepI (t : List Ws) (v : Ws) : Ws := (List.range v.length).map fun j => dotI v (colI t j)
def runI (S : Wg) (l : List Nat) : Ws := l.foldl (fun v g => stepI (S.tables.getD g []) v) S.begins
def valI (S : Wg) (l : List Nat) : Int := dotI (runI S l) S.goals
theorem step_len (t : List Ws) (v : Ws) : (stepI t v).length = v.length := by simp [stepI]
theorem run_len (S : Wg) (l : List Nat) : (runI S l).length = S.begins.length := by
  unfold runI
  have : ∀ (l : List Nat) (v : Ws), (l.foldl (fun v g => stepI (S.tables.getD g []) v) v).length = v.length := by
    intro l
    induction l with
    | nil => intro v; rfl
    | cons g l ih =>
      intro v
      rw [List.foldl_cons, ih, step_len]
  exact this l _
theorem run_take {S : Wg} {l : List Nat} {i g : Nat} (h : l[i]? = some g) : runI S (l.take (i + 1)) = stepI (S.tables.getD g []) (runI S (l.take i)) := by
  unfold runI
  rw [List.take_add_one, h, List.foldl_append]
  rfl
theorem good_small {n : Nat} {l : Ws} (g : GoodN n l) : Small l := fun x hx => by
  have h1 := g.lo x hx
  have h2 := g.hi x hx
  omega
theorem col_small {n : Nat} {t : List Ws} (g : GoodM n t) (j : Nat) : Small (colI t j) := fun x hx => by
  obtain ⟨l, hl, e⟩ := List.mem_map.mp hx
  have gl := g.rows l hl
  by_cases hj : j < l.length
  · have e2 : l.getD j 0 = l[j] := by simp [hj]
    have h1 := gl.lo _ (List.getElem_mem hj)
    have h2 := gl.hi _ (List.getElem_mem hj)
    rw [e2] at e
    omega
  · have e2 : l.getD j 0 = 0 := by simp [hj]
    rw [e2] at e
    omega
def spValue (K : PySem.W.Frag) (C : Addr) : Sp := fun vs H Q _ => ∃ (p n : Nat) (S : Wg) (l : List Nat), vs = [.ref p, .str (rowS l)] ∧ WgAt K C H p n S ∧ GoodG n S ∧ S.begins.length ≤ 3 ∧ l.length ≤ 200 ∧ (∀ g ∈ l, g < n) ∧ ∀ H', Same H H' → Q (.int (valI S l)) H'
theorem ok_value (T : Txt K mg A) (U : Funs K A fd) : FnOk P w K mg base CX0 7 A.value fd.value p_value (spValue K A.C) := by
  have b_dot := U.b_dot
  have G_dot := ok_dot (P := P) (w := w) (base := base) T U
  have b_Weigher_goals := U.b_Weigher_goals
  have G_Weigher_goals := ok_Weigher_goals (P := P) (w := w) (base := base) T U
  have b_Weigher_begins := U.b_Weigher_begins
  have G_Weigher_begins := ok_Weigher_begins (P := P) (w := w) (base := base) T U
  have b_Weigher_tables := U.b_Weigher_tables
  have G_Weigher_tables := ok_Weigher_tables (P := P) (w := w) (base := base) T U
  have b_turned_table := U.b_turned_table
  have G_turned_table := ok_turned_table (P := P) (w := w) (base := base) T U
  have b_check_row := U.b_check_row
  have G_check_row := ok_check_row (P := P) (w := w) (base := base) T U
  have b_Weigher_signs := U.b_Weigher_signs
  have G_Weigher_signs := ok_Weigher_signs (P := P) (w := w) (base := base) T U
  have b_check_weigher := U.b_check_weigher
  have G_check_weigher := ok_check_weigher (P := P) (w := w) (base := base) T U
  refine U.F_value.ok sc_value (fun vs H Q E h => ?_) (fun cdv A0 outer s H vs Q E hr h => ?_)
  · obtain ⟨p, n, S, l, rfl, _⟩ := h
    rfl
  · have hu := hu_of hr
    obtain ⟨p, n, S, l, rfl, W, gg, h3, hl, hlt, k⟩ := h
    refine ⟨_, (pss_cons (ps_expr (pe_call G_check_weigher (hr.mono (by decide)) (by rfl) T.m_check_weigher T.k_check_weigher b_check_weigher .nil pass0 (pa_cons (pv 0) pa_nil)))
       (pss_cons (ps_expr (pe_call G_check_row (hr.mono (by decide)) (by rfl) T.m_check_row T.k_check_row b_check_row .nil pass0 (pa_cons (pe_prop (pv 0) T.cl T.p_Weigher_signs G_Weigher_signs (hr.mono (by decide)) b_Weigher_signs .nil pass0 rfl) (pa_cons (pv 1) pa_nil))))
       (pss_cons (ps_setLc (i := 2) (own := [("table", 5)]) (g := gName 5) (tt := tYes) (by rfl) sc_value.nd rfl rfl (sw_true rfl rfl rfl (by decide +kernel)) (w_piT (K := K) (pe_prop (pv 0) T.cl T.p_Weigher_tables G_Weigher_tables (hr.mono (by decide)) b_Weigher_tables .nil pass0 rfl)) (blkOk_by (own := [("table", 5)]) (by rfl)) (fun _ _ _ _ _ => (pg_name (i := 5) sc_value.nd rfl (Or.inl rfl))) (fun _ _ _ _ _ => pts_nil) (fun _ _ _ _ _ => (pe_call G_turned_table (hr.mono (by decide)) (by rfl) T.m_turned_table T.k_turned_table b_turned_table .nil pass0 (pa_cons (pv 5) pa_nil))))
       (pss_cons (ps_set (i := 3) sc_value.nd rfl (Or.inr rfl) (pe_prop (pv 0) T.cl T.p_Weigher_begins G_Weigher_begins (hr.mono (by decide)) b_Weigher_begins .nil pass0 rfl))
       (pss_cons (ps_for PassesOwn.never rfl (pi_str (pv 1)) (pg_name (i := 4) sc_value.nd rfl (Or.inl rfl))
       (pss_one (ps_set (i := 3) sc_value.nd rfl (Or.inr rfl) (pe_lc (own := [("column", 6)]) (g := gName 6) (tt := tYes) (by rfl) sc_value.nd (w_piL (K := K) (pe_ix (w_ixL (K := K)) (pv 2) (w_bm (K := K) PySem.F.plainAttrs_str PySem.F.slot_str_index PySem.F.type_str_index mt_sindex (pe_glob (v := .str "abcdefgh") (by rfl) T.c_ALPHABET.choose_spec ⟨_, rfl⟩) (pa_cons (pv 4) pa_nil)) (fun _ _ => rfl))) (blkOk_by (own := [("column", 6)]) (by rfl)) (fun _ _ _ _ _ => (pg_name (i := 6) sc_value.nd rfl (Or.inl rfl))) (fun _ _ _ _ _ => pts_nil) (fun _ _ _ _ _ => (pe_call G_dot (hr.mono (by decide)) (by rfl) T.m_dot T.k_dot b_dot .nil pass0 (pa_cons (pv 3) (pa_cons (pv 6) pa_nil))))))))
       (pss_one (ps_ret (pe_call G_dot (hr.mono (by decide)) (by rfl) T.m_dot T.k_dot b_dot .nil pass0 (pa_cons (pv 3) (pa_cons (pe_prop (pv 0) T.cl T.p_Weigher_goals G_Weigher_goals (hr.mono (by decide)) b_Weigher_goals .nil pass0 rfl) pa_nil)))))))))), ?_⟩
    have n1 := gg.n1
    have m8 := gg.m8
    have tl := gg.tl
    refine ⟨_, rfl, p, n, S, rfl, W, ?_⟩
    obtain ⟨dx, a, t, g, h1, ha, ht, hg⟩ := W.ob
    refine ⟨_, rfl, p, dx, _, rfl, h1, p, dx, _, _, rfl, h1, fl_signs _ _ _ _, _, rfl, l, n, rfl, m8, hl, hlt, fun H1 s1 => ?_⟩
    have h1 := s1 _ _ h1
    have ha := dp_mono s1 _ _ ha
    have ht := dp_mono s1 _ _ ht
    have hg := dp_mono s1 _ _ hg
    obtain ⟨xt, ts, e2, hxt, hdt⟩ := dp_tup ht
    obtain rfl := V.ref.inj e2
    have hlt' : ts.length = n := by rw [dps_len hdt, List.length_map, tl]
    refine ⟨_, rfl, p, dx, _, rfl, h1, p, dx, _, _, rfl, h1, fl_tables _ _ _ _, _, rfl, ⟨_, hxt⟩, fun D hD => ?_⟩
    refine lc_tup (K := K) (xs := ts) (fun i H' => Same H1 H' ∧ ∃ acc, H' D = some (.lst acc) ∧ acc.length = i ∧ ∀ (j : Nat) (t : List Ws), j < i → S.tables[j]? = some t → ∃ q, acc[j]? = some (.ref q) ∧ ColsAt (del D H') q (cols S.begins.length t)) ?_ ?_ ?_ ?_
    · exact ⟨same_upd hD, [], upd_same, rfl, fun j t hj => absurd hj (Nat.not_lt_zero j)⟩
    · rintro i H' _ ⟨s2, _⟩
      exact sqT_mono s2 hxt
    · rintro i x H' hi ⟨s2, acc, hac, hal, hold⟩
      refine ⟨rfl, yes_go ?_⟩
      obtain ⟨tb, hr1, hr2⟩ := tbl_in hdt hi
      refine ⟨_, rfl, x, tb, S.begins.length, rfl, dp_mono s2 _ _ hr2, gg.t tb (List.mem_of_getElem? hr1), n1, h3, fun q H2 hq s3 hc => ?_⟩
      have hac2 := s3 _ _ hac
      have neq : q ≠ D := fun e => by
        rw [e, hac] at hq
        cases hq
      refine ⟨acc, hac2, szt (by have := lt_of_get hi; omega), same_put (s2.trans s3) hD, acc ++ [.ref q], upd_same, by rw [List.length_append, hal]; rfl, fun j t hj ht => ?_⟩
      have hdel : Same (del D H2) (del D (upd H2 D (.lst (acc ++ [.ref q])))) := keep_upd
      by_cases c : j < i
      · obtain ⟨q', e1, e2⟩ := hold j t c ht
        exact ⟨q', by rw [List.getElem?_append_left (by rw [hal]; exact c)]; exact e1, (e2.mono (del_mono s3)).mono hdel⟩
      · have e : j = i := by omega
        subst e
        rw [hr1] at ht
        cases ht
        refine ⟨q, ?_, (hc D (by rw [hac]; exact fun z => nomatch z)).mono hdel⟩
        rw [List.getElem?_append_right (by rw [hal]; exact Nat.le_refl _), hal, Nat.sub_self]
        rfl
    · rintro H2 ⟨s2, acc, hac, hal, hold⟩
      have h1 := s2 _ _ h1
      have ha := dp_mono s2 _ _ ha
      have hg := dp_mono s2 _ _ hg
      obtain ⟨xa, xs, e1, hx, hds⟩ := dp_tup ha
      obtain rfl := V.ref.inj e1
      obtain rfl := dps_ints hds
      refine ⟨_, rfl, p, dx, _, rfl, h1, p, dx, _, _, rfl, h1, fl_begins _ _ _ _, ?_⟩
      refine ⟨_, rfl, rowS l, rfl, ?_⟩
      refine for_str (z := rowS l) (fun i σ H' => ∃ (y4 y5 y6 : Option V) (b : Addr) (k : Bool), σ = [some (.ref p), some (.str (rowS l)), some (.ref D), some (.ref b), y4, y5, y6] ∧ Same H2 H' ∧ SqB K k H' b ((runI S (l.take i)).map V.int)) ?_ ?_ ?_
      · exact ⟨none, none, none, a, false, rfl, Same.refl _, hx⟩
      · rintro i ch σ H3 hi ⟨y4, y5, y6, b, kb, rfl, s3, hb⟩
        obtain ⟨g0, hg0, rfl⟩ := rowS_at hi
        have gm : g0 < n := hlt g0 (List.mem_of_getElem? hg0)
        obtain ⟨rest, hrest⟩ := index_at g0 (by omega)
        have gt : g0 < S.tables.length := by omega
        have etb : S.tables[g0]? = some S.tables[g0] := List.getElem?_eq_getElem gt
        obtain ⟨q, eq1, hq⟩ := hold g0 _ (by rw [hlt']; exact gm) etb
        have etd : S.tables.getD g0 [] = S.tables[g0] := by simp [gt]
        have hq3 := (hq.mono (del_same D)).mono s3
        obtain ⟨ps, hps, hpl, hpc⟩ := hq3
        have hcl : (cols S.begins.length S.tables[g0]).length = S.begins.length := by simp [cols]
        have next := run_take (S := S) hg0
        rw [etd] at next
        have rl := run_len S (l.take i)
        have gtm := gg.t _ (List.getElem_mem gt)
        have hac3 := s3 _ _ hac
        refine g_asg (cL (xs := ps.map V.ref) (fun j => [.int (dotI (runI S (l.take i)) (colI S.tables[g0] j))]) (fun R r => ?_) (lst_of hps) (fun _ => Nat.le_refl 1) (by rw [List.length_map]; omega) (fun _ => rfl) (fun j x hj => turn_yes fun H4 R s4 r => ?_) (fun D2 H4 _ s4 h4 => ?_))
        · exact ⟨_, rfl, rfl, _, rfl, _, _, g0, rest, rfl, rfl, hrest, _, _, _, _, rfl, rfl, lst_of hac3, atI_nat eq1, r⟩
        · have hj' : j < ps.length := by simpa using lt_of_get hj
          have hj3 : j < S.begins.length := by omega
          obtain ⟨pc, e1, e2⟩ := hpc j (colI S.tables[g0] j) (by simp [cols, hj3])
          rw [List.getElem?_map, e1] at hj
          obtain rfl := Option.some.inj hj
          refine ⟨_, rfl, _, rfl, b, pc, kb, false, _, _, rfl, sqB_mono s4 hb, tup_of (s4 _ _ e2), ?_, by omega, col_small gtm j, r⟩
          rw [rl, colI, List.length_map, gtm.len]
        · rw [List.length_map, pre_ints] at h4
          refine ⟨_, _, _, D2, true, rfl, s3.trans s4, ?_⟩
          rw [next]
          refine lst_of (h4.trans ?_)
          rw [stepI, rl, hpl, hcl]
      · rintro σ H3 ⟨y4, y5, y6, b, kb, rfl, s3, hb⟩
        rw [rowS_size, List.take_length] at hb
        have h1 := s3 _ _ h1
        have hg := dp_mono s3 _ _ hg
        obtain ⟨xg, xs, e1, hx, hds⟩ := dp_tup hg
        obtain rfl := V.ref.inj e1
        obtain rfl := dps_ints hds
        refine ⟨_, rfl, _, rfl, p, dx, _, rfl, h1, p, dx, _, _, rfl, h1, fl_goals _ _ _ _, b, g, kb, false, _, _, rfl, hb, hx, ?_, ?_, good_small gg.g, fun H4 s4 => k H4 (((s1.trans s2).trans s3).trans s4)⟩
        · rw [run_len, gg.g.len]
        · rw [run_len]; omega
end K6


set_option Elab.async false
set_option linter.all false
set_option maxRecDepth 100000
set_option maxHeartbeats 4000000
namespace K6
open PySem PySem.Spec PyProof.Rows L2 Rw
variable {P : Program} {w : World} {K : PySem.W.Frag} {mg : Str → Option Value} {base : Heap} {A : Ad} {fd : Fds}
section
variable {H : Hp} {σ : L2.St} {tt : TT} {te te0 : TE} {vs : List Nat} {j n : Nat} {Q : VK}
/-- over a range kept as a value -/
theorem cRV {p : Addr} (st : Nat → List V) (hte : ∀ R : VK, R (.ref p) H → te0 σ H R) (hp : H p = some (.rng 0 (n : Int))) (hst : ∀ i, (st i).length ≤ 1) (hn : n < 100000)
    (hw : ∀ x, wipe ((wipe σ vs).set j (some x)) vs = wipe σ vs) (turn : ∀ i : Nat, i < n → Turn1 tt te ((wipe σ vs).set j (some (.int (i : Int)))) H (st i))
    (fin : ∀ D H1, H D = none → Same H H1 → H1 D = some (.lst (pre st n)) → Q (.ref D) H1) : tLc (iRngV te0) (gName j) tt te vs σ H Q := by
  refine hte _ ⟨p, 0, (n : Int), rfl, hp, ⟨by omega, by omega, by omega, by omega⟩, ?_⟩
  rw [show ((n : Int) - 0).toNat = n by omega]
  refine lcG (Itr 0 n) n (fun i => .int (i : Int)) st hst hn (fun i H1 hi s => hi) (fun H1 s => Nat.le_refl _) (fun i H1 x H' hi s hy => ?_) hw turn fin
  obtain ⟨e, y⟩ := hy
  refine ⟨e, ?_⟩
  rw [y, Int.zero_add]
theorem cRVN {p : Addr} (ys : Nat → List V) (hte : ∀ R : VK, R (.ref p) H → te0 σ H R) (hp : H p = some (.rng 0 (n : Int))) (hn : n < 100000)
    (hw : ∀ x, wipe ((wipe σ vs).set j (some x)) vs = wipe σ vs) (turn : ∀ i : Nat, i < n → TurnN te ((wipe σ vs).set j (some (.int (i : Int)))) H (ys i))
    (fin : ∀ D acc H1, H D = none → Same H H1 → H1 D = some (.lst acc) → Hold (del D H1) acc n ys → Q (.ref D) H1) : tLc (iRngV te0) (gName j) tYes te vs σ H Q := by
  refine hte _ ⟨p, 0, (n : Int), rfl, hp, ⟨by omega, by omega, by omega, by omega⟩, ?_⟩
  rw [show ((n : Int) - 0).toNat = n by omega]
  refine lcN (Itr 0 n) n (fun i => .int (i : Int)) ys hn (fun i H1 hi s => hi) (fun H1 s => Nat.le_refl _) (fun i H1 x H' hi s hy => ?_) hw turn fin
  obtain ⟨e, y⟩ := hy
  refine ⟨e, ?_⟩
  rw [y, Int.zero_add]
end
def sumC (S : Wg) (two : Nat) : Ws := (List.range S.begins.length).map fun one => (S.tables.map fun t => (t.getD one []).getD two 0).sum
def totI (S : Wg) : Nat → Ws
  | 0 => S.begins
  | k + 1 => (List.range S.begins.length).map fun two => dotI (totI S k) (sumC S two)
theorem tot_len (S : Wg) (k : Nat) : (totI S k).length = S.begins.length := by
  cases k with
  | zero => rfl
  | succ k => simp [totI]
theorem sumC_len (S : Wg) (k : Nat) : (sumC S k).length = S.begins.length := by simp [sumC]
theorem sum_bound (c : Int) (hc : 0 ≤ c) : ∀ l : List Int, (∀ x ∈ l, -c ≤ x ∧ x ≤ c) → -(c * l.length) ≤ l.sum ∧ l.sum ≤ c * l.length
  | [], _ => by simp
  | x :: l, h => by
    obtain ⟨h1, h2⟩ := sum_bound c hc l fun y hy => h y (List.mem_cons_of_mem _ hy)
    obtain ⟨h3, h4⟩ := h x (List.mem_cons_self ..)
    rw [List.sum_cons, List.length_cons, Int.natCast_succ, Int.mul_add, Int.mul_one]
    constructor <;> omega
theorem ent_bound {n : Nat} {t : List Ws} (g : GoodM n t) (one two : Nat) : -1000 ≤ (t.getD one []).getD two 0 ∧ (t.getD one []).getD two 0 ≤ 1000 := by
  by_cases h1 : one < t.length
  · have e1 : t.getD one [] = t[one] := by simp [h1]
    rw [e1]
    have gr := g.rows _ (List.getElem_mem h1)
    by_cases h2 : two < t[one].length
    · have e2 : t[one].getD two 0 = t[one][two] := by simp [h2]
      rw [e2]
      exact ⟨gr.lo _ (List.getElem_mem h2), gr.hi _ (List.getElem_mem h2)⟩
    · have e2 : t[one].getD two 0 = 0 := by simp [h2]
      rw [e2]
      omega
  · have e1 : t.getD one [] = [] := by simp [h1]
    rw [e1]
    simp
theorem sumC_small {n : Nat} {S : Wg} (gg : GoodG n S) (two : Nat) : Small (sumC S two) := fun x hx => by
  obtain ⟨one, _, e⟩ := List.mem_map.mp hx
  have := sum_bound 1000 (by decide) (S.tables.map fun t => (t.getD one []).getD two 0) fun y hy => by
    obtain ⟨t, ht, e2⟩ := List.mem_map.mp hy
    have := ent_bound (gg.t t ht) one two
    omega
  rw [List.length_map, gg.tl] at this
  have h8 := gg.m8
  omega
theorem range_getD {α β : Type} (f : α → β) (d : α) (l : List α) : (List.range l.length).map (fun i => f (l.getD i d)) = l.map f := by
  apply List.ext_getElem
  · simp
  · intro i h1 h2
    simp at h1
    simp [h1]
def spTotal (K : PySem.W.Frag) (C : Addr) : Sp := fun vs H Q _ => ∃ (p n : Nat) (S : Wg) (k : Nat), vs = [.ref p, .int (k : Int)] ∧ WgAt K C H p n S ∧ GoodG n S ∧ k ≤ 200 ∧ ∀ H', Same H H' → Q (.int (dotI (totI S k) S.goals)) H'
theorem ok_total (T : Txt K mg A) (U : Funs K A fd) : FnOk P w K mg base CX0 10 A.total fd.total p_total (spTotal K A.C) := by
  have b_dot := U.b_dot
  have G_dot := ok_dot (P := P) (w := w) (base := base) T U
  have b_Weigher_goals := U.b_Weigher_goals
  have G_Weigher_goals := ok_Weigher_goals (P := P) (w := w) (base := base) T U
  have b_Weigher_begins := U.b_Weigher_begins
  have G_Weigher_begins := ok_Weigher_begins (P := P) (w := w) (base := base) T U
  have b_Weigher_tables := U.b_Weigher_tables
  have G_Weigher_tables := ok_Weigher_tables (P := P) (w := w) (base := base) T U
  have b_Weigher_size := U.b_Weigher_size
  have G_Weigher_size := ok_Weigher_size (P := P) (w := w) (base := base) T U
  have b_check_length := U.b_check_length
  have G_check_length := ok_check_length (P := P) (w := w) (base := base) T U
  have b_check_weigher := U.b_check_weigher
  have G_check_weigher := ok_check_weigher (P := P) (w := w) (base := base) T U
  refine U.F_total.ok sc_total (fun vs H Q E h => ?_) (fun cdv A0 outer s H vs Q E hr h => ?_)
  · obtain ⟨p, n, S, l, rfl, _⟩ := h
    rfl
  · have hu := hu_of hr
    obtain ⟨p, n, S, m, rfl, W, gg, hm, k⟩ := h
    refine ⟨_, (pss_cons (ps_expr (pe_call G_check_weigher (hr.mono (by decide)) (by rfl) T.m_check_weigher T.k_check_weigher b_check_weigher .nil pass0 (pa_cons (pv 0) pa_nil)))
       (pss_cons (ps_expr (pe_call G_check_length (hr.mono (by decide)) (by rfl) T.m_check_length T.k_check_length b_check_length .nil pass0 (pa_cons (pv 1) pa_nil)))
       (pss_cons (ps_set (i := 2) sc_total.nd rfl (Or.inr rfl) (pe_callTy cr_range1 (by rfl) T.b_range (by decide +kernel) (pa_cons (pe_prop (pv 0) T.cl T.p_Weigher_size G_Weigher_size (hr.mono (by decide)) b_Weigher_size .nil pass0 rfl) pa_nil)))
       (pss_cons (ps_setLc (i := 3) (own := [("two", 6)]) (g := gName 6) (tt := tYes) (by rfl) sc_total.nd rfl rfl (sw_true rfl rfl rfl (by decide +kernel)) (pi_rng (pv 2)) (blkOk_by (own := [("two", 6)]) (by rfl)) (fun _ _ _ _ _ => (pg_name (i := 6) sc_total.nd rfl (Or.inr rfl))) (fun _ _ _ _ _ => pts_nil) (fun _ _ _ _ _ => (pe_lc (own := [("one", 7)]) (g := gName 7) (tt := tYes) (by rfl) sc_total.nd (pi_rng (pv 2)) (blkOk_by (own := [("one", 7)]) (by rfl)) (fun _ _ _ _ _ => (pg_name (i := 7) sc_total.nd rfl (Or.inr rfl))) (fun _ _ _ _ _ => pts_nil) (fun _ _ _ _ _ => (pe_callB (w_sum (K := K) rfl) (by rfl) T.b_sum (by decide +kernel) (pa_cons (pe_lc (own := [("table", 8)]) (g := gName 8) (tt := tYes) (by rfl) sc_total.nd (w_piT (K := K) (pe_prop (pv 0) T.cl T.p_Weigher_tables G_Weigher_tables (hr.mono (by decide)) b_Weigher_tables .nil pass0 rfl)) (blkOk_by (own := [("table", 8)]) (by rfl)) (fun _ _ _ _ _ => (pg_name (i := 8) sc_total.nd rfl (Or.inl rfl))) (fun _ _ _ _ _ => pts_nil) (fun _ _ _ _ _ => (pe_ix (w_ixT (K := K)) (pe_ix (w_ixT (K := K)) (pv 8) (pv 7) (fun _ _ => rfl)) (pv 6) (fun _ _ => rfl)))) pa_nil))))))
       (pss_cons (ps_set (i := 4) sc_total.nd rfl (Or.inr rfl) (pe_prop (pv 0) T.cl T.p_Weigher_begins G_Weigher_begins (hr.mono (by decide)) b_Weigher_begins .nil pass0 rfl))
       (pss_cons (ps_for PassesOwn.never rfl (pi_range1 (by rfl) T.b_range (pa_cons (pv 1) pa_nil)) (pg_name (i := 5) sc_total.nd rfl (Or.inl rfl))
       (pss_one (ps_set (i := 4) sc_total.nd rfl (Or.inr rfl) (pe_lc (own := [("column", 9)]) (g := gName 9) (tt := tYes) (by rfl) sc_total.nd (w_piL (K := K) (pv 3)) (blkOk_by (own := [("column", 9)]) (by rfl)) (fun _ _ _ _ _ => (pg_name (i := 9) sc_total.nd rfl (Or.inl rfl))) (fun _ _ _ _ _ => pts_nil) (fun _ _ _ _ _ => (pe_call G_dot (hr.mono (by decide)) (by rfl) T.m_dot T.k_dot b_dot .nil pass0 (pa_cons (pv 4) (pa_cons (pv 9) pa_nil))))))))
       (pss_one (ps_ret (pe_call G_dot (hr.mono (by decide)) (by rfl) T.m_dot T.k_dot b_dot .nil pass0 (pa_cons (pv 4) (pa_cons (pe_prop (pv 0) T.cl T.p_Weigher_goals G_Weigher_goals (hr.mono (by decide)) b_Weigher_goals .nil pass0 rfl) pa_nil))))))))))), ?_⟩
    have n1 := gg.n1
    have n6 := gg.n6
    have m8 := gg.m8
    have tl := gg.tl
    refine ⟨_, rfl, p, n, S, rfl, W, ?_⟩
    refine ⟨_, rfl, m, rfl, hm, ?_⟩
    have W0 := W
    obtain ⟨dx, a, t, g, h1, ha, ht, hg⟩ := W.ob
    refine ⟨_, rfl, p, dx, _, rfl, h1, p, n, S, rfl, W0, (S.begins.length : Int), rfl, fun pl hpl => ?_⟩
    have s0 := same_upd (o := .rng 0 (S.begins.length : Int)) hpl
    have hp0 : (upd H pl (.rng 0 (S.begins.length : Int))) pl = some (.rng 0 (S.begins.length : Int)) := upd_same
    generalize upd H pl (.rng 0 (S.begins.length : Int)) = H1 at s0 hp0
    have h1 := s0 _ _ h1
    have ha := dp_mono s0 _ _ ha
    have ht := dp_mono s0 _ _ ht
    have hg := dp_mono s0 _ _ hg
    obtain ⟨xt, ts, e2, hxt, hdt⟩ := dp_tup ht
    obtain rfl := V.ref.inj e2
    have hlt' : ts.length = n := by rw [dps_len hdt, List.length_map, tl]
    dsimp only
    refine g_seq (g_asg (cRVN (fun two => (sumC S two).map V.int) (fun R r => ⟨_, rfl, r⟩) hp0 (by omega) (fun _ => rfl) (fun two hi_two => ?_) (fun D acc H2 hD s1 hac hold => ?_)))
    · intro H2 R s2 r
      refine cRV (fun one => [.int ((S.tables.map fun t => (t.getD one []).getD two 0).sum)]) (fun R r => ⟨_, rfl, r⟩) (s2 _ _ hp0) (fun _ => Nat.le_refl 1) (by omega) (fun _ => rfl) (fun one ho => turn_yes fun H3 R s3 r3 => ?_) (fun D2 H3 hD2 s3 h3 => ?_)
      · have h1 := (s2.trans s3) _ _ h1
        have hxt := sqT_mono (s2.trans s3) hxt
        have hdt := dps_mono (s2.trans s3) _ _ hdt
        refine g_cb (cT (xs := ts) (fun i => [.int (((S.tables.getD i []).getD one []).getD two 0)]) (fun R r => ?_) hxt (fun _ => Nat.le_refl 1) (by omega) (fun _ => rfl) (fun i x hi => turn_yes fun H4 R s4 r4 => ?_) (fun D3 H4 _ s4 h4 => ?_))
        · exact ⟨_, rfl, p, dx, _, rfl, h1, p, dx, _, _, rfl, h1, fl_tables _ _ _ _, r⟩
        · obtain ⟨tb, hr1, hr2⟩ := tbl_in hdt hi
          have gt := gg.t tb (List.mem_of_getElem? hr1)
          obtain ⟨at_, rows, rfl, hrows, hdr⟩ := dp_tup (dp_mono s4 _ _ hr2)
          have o1 : one < tb.length := by rw [gt.len]; exact ho
          obtain ⟨rv, er, hrv⟩ := dps_get hdr (show (tb.map dWs)[one]? = some (dWs tb[one]) by simp [o1])
          obtain ⟨ar, ys, rfl, hy, hds⟩ := dp_tup hrv
          obtain rfl := dps_ints hds
          have gr := gt.rows _ (List.getElem_mem o1)
          have o2 : two < (tb[one] : Ws).length := by rw [gr.len]; exact hi_two
          have e1 : S.tables.getD i [] = tb := by rw [List.getD_eq_getElem?_getD, hr1]; rfl
          have e2 : tb.getD one [] = tb[one] := by simp [o1]
          have e3 : (tb[one] : Ws).getD two 0 = (tb[one] : Ws)[two] := by simp [o2]
          rw [e1, e2, e3] at r4
          exact ⟨_, rfl, _, rfl, _, _, _, _, rfl, rfl, hrows, atI_nat er, _, rfl, _, _, _, _, rfl, rfl, hy, atI_nat (show ((tb[one] : Ws).map V.int)[two]? = some (.int (tb[one] : Ws)[two]) by simp [o2]), r4 _ (Same.refl _)⟩
        · rw [pre_ints] at h4
          refine ⟨D3, _, rfl, lst_of h4, ?_⟩
          rw [hlt', ← tl, range_getD (fun t : List Ws => (t.getD one []).getD two 0)]
          exact r3 _ s4
      · rw [pre_ints] at h3
        exact r D2 H3 hD2 s3 h3
    · have h1 := s1 _ _ h1
      have ha := dp_mono s1 _ _ ha
      have hg := dp_mono s1 _ _ hg
      obtain ⟨xa, xs, e1, hx, hds⟩ := dp_tup ha
      obtain rfl := V.ref.inj e1
      obtain rfl := dps_ints hds
      refine ⟨_, rfl, p, dx, _, rfl, h1, p, dx, _, _, rfl, h1, fl_begins _ _ _ _, ?_⟩
      refine ⟨_, rfl, (m : Int), rfl, by omega, by omega, ?_⟩
      rw [Int.toNat_natCast]
      refine for_range (lo := 0) (n := m) (fun i σ H' => ∃ (y5 y6 y7 y8 y9 : Option V) (b : Addr) (kb : Bool), σ = [some (.ref p), some (.int (m : Int)), some (.ref pl), some (.ref D), some (.ref b), y5, y6, y7, y8, y9] ∧ Same H2 H' ∧ SqB K kb H' b ((totI S i).map V.int)) ?_ ?_ ?_
      · exact ⟨none, none, none, none, none, a, false, rfl, Same.refl _, hx⟩
      · rintro i σ H3 hi ⟨y5, y6, y7, y8, y9, b, kb, rfl, s3, hb⟩
        refine g_asg (cL (xs := acc) (fun two => [.int (dotI (totI S i) (sumC S two))]) (fun R r => ?_) (lst_of (s3 _ _ hac)) (fun _ => Nat.le_refl 1) (by rw [hold.1]; omega) (fun _ => rfl) (fun j x hj => turn_yes fun H4 R s4 r => ?_) (fun D2 H4 _ s4 h4 => ?_))
        · exact ⟨_, rfl, r⟩
        · have hj' : j < S.begins.length := by rw [← hold.1]; exact lt_of_get hj
          obtain ⟨pc, e1, e2⟩ := hold.2 j hj'
          rw [e1] at hj
          obtain rfl := Option.some.inj hj
          exact ⟨_, rfl, _, rfl, b, pc, kb, true, _, _, rfl, sqB_mono s4 hb, lst_of (s4 _ _ (s3 _ _ (del_same D _ _ e2))), by rw [tot_len, sumC_len], by rw [tot_len]; omega, sumC_small gg j, r⟩
        · rw [pre_ints, hold.1] at h4
          exact ⟨_, _, _, _, _, D2, true, rfl, s3.trans s4, lst_of h4⟩
      · rintro σ H3 ⟨y5, y6, y7, y8, y9, b, kb, rfl, s3, hb⟩
        have h1 := s3 _ _ h1
        have hg := dp_mono s3 _ _ hg
        obtain ⟨xg, xs, e1, hx, hds⟩ := dp_tup hg
        obtain rfl := V.ref.inj e1
        obtain rfl := dps_ints hds
        refine ⟨_, rfl, _, rfl, p, dx, _, rfl, h1, p, dx, _, _, rfl, h1, fl_goals _ _ _ _, b, g, kb, false, _, _, rfl, hb, hx, ?_, ?_, good_small gg.g, fun H4 s4 => k H4 (((s0.trans s1).trans s3).trans s4)⟩
        · rw [tot_len, gg.g.len]
        · rw [tot_len]; omega
end K6


set_option Elab.async false
set_option linter.all false
set_option maxRecDepth 100000
set_option maxHeartbeats 4000000
namespace K6
open PySem PySem.Spec PyProof.Rows L2 Rw
variable {P : Program} {w : World} {K : PySem.W.Frag} {mg : Str → Option Value} {base : Heap} {A : Ad} {fd : Fds}
/-! ### draws -/
structure BarAt (H : Hp) (b : Addr) : Prop where
  ob : ∃ s c f : Int, H b = some (.lst [.int s, .int c, .int f]) ∧ 0 ≤ f
theorem g_viaP {te : TE} {σ : L2.St} {H : Hp} {Q : VK} (Pp : V → Hp → Prop) (h : ∀ Q' : VK, (∀ v H2, Pp v H2 → Q' v H2) → te σ H Q') (rest : ∀ v H2, Pp v H2 → Q v H2) : te σ H Q := h Q rest
theorem g_lst {te : TE} {tr : TA} {σ : L2.St} {H : Hp} {Q : VK} (h : te σ H fun x H1 => tr σ H1 fun xs H2 => (x :: xs).length ≤ sizeLine ∧ ∀ p, H2 p = none → Q (.ref p) (upd H2 p (.lst (x :: xs)))) : tLst (tCons te tr) σ H Q := h
theorem g_cons {te : TE} {tr : TA} {σ : L2.St} {H : Hp} {Q : List V → Hp → Prop} (h : te σ H fun x H1 => tr σ H1 fun xs H2 => Q (x :: xs) H2) : tCons te tr σ H Q := h
theorem g_c {v : V} {σ : L2.St} {H : Hp} {Q : VK} (h : Q v H) : tC v σ H Q := h
theorem fmod_nn (x : Int) {m : Int} (h : 0 < m) : 0 ≤ x.fmod m := by
  rw [Int.fmod_eq_emod_of_nonneg x (by omega)]
  exact Int.emod_nonneg x (by omega)
theorem fmod_lt (x : Int) {m : Int} (h : 0 < m) : x.fmod m < m := by
  rw [Int.fmod_eq_emod_of_nonneg x (by omega)]
  exact Int.emod_lt_of_pos x h
theorem ints_getV {ns : List Int} {t : Nat} (h : t < ns.length) : (ns.map V.int)[t]? = some (.int ns[t]) := by simp [h]
def spFlask (K : PySem.W.Frag) : Sp := fun vs H Q _ => ∃ (a : Addr) (ns : List Int) (t : Nat), vs = [.ref a, .int (t : Int)] ∧ SqL K H a (ns.map V.int) ∧ ns.length ≤ 63 ∧ t ≤ 5 ∧
  ∀ b H', H b = none → Same H H' → BarAt H' b → Q (.ref b) H'
theorem cut_ints {ns : List Int} {k : Int} {x : V} (h : x ∈ cutV (ns.map V.int) none (some k)) : ∃ z : Int, x = .int z := by
  unfold cutV at h
  obtain ⟨z, _, rfl⟩ := List.mem_map.mp (List.mem_of_mem_drop (List.mem_of_mem_take h))
  exact ⟨z, rfl⟩
theorem ok_l_flask (T : Txt K mg A) (U : Funs K A fd) : FnOk P w K mg base CX0 1 A.l_flask fd.l_flask p_l_flask (spFlask K) := by
  refine U.F_l_flask.ok sc_l_flask (fun vs H Q E h => ?_) (fun cdv A0 outer s H vs Q E hr h => ?_)
  · obtain ⟨a, ns, t, rfl, _⟩ := h
    rfl
  · have hu := hu_of hr
    obtain ⟨a, ns, t, rfl, hS, hn, ht, k⟩ := h
    refine ⟨_, (pss_cons (ps_set (i := 2) sc_l_flask.nd rfl (Or.inl rfl) (pe_ifExp (pt_cmpR op_lt (pv 1) (pe_callB (w_len (K := K)) (by rfl) T.b_len (by decide +kernel) (pa_cons (pv 0) pa_nil)) (nomark _)) (pe_callTy call_int1 (by rfl) T.b_int (by decide +kernel) (pa_cons (pe_ix (w_ixL (K := K)) (pv 0) (pv 1) (fun _ _ => rfl)) pa_nil)) (pe_op op_add (pe_op op_mul pe_int (pv 1)) pe_int)))
       (pss_cons (ps_set (i := 3) sc_l_flask.nd rfl (Or.inl rfl) (pe_op op_add pe_int (pe_op op_mul pe_int (pv 1))))
       (pss_cons (ps_for PassesOwn.never rfl (w_piL (K := K) (pe_slice (w_slL (K := K)) (pv 0) po_none (po_some pe_int))) (pg_name (i := 4) sc_l_flask.nd rfl (Or.inl rfl))
       (pss_one (ps_set (i := 3) sc_l_flask.nd rfl (Or.inl rfl) (pe_op op_modN (pe_callTy call_int1 (by rfl) T.b_int (by decide +kernel) (pa_cons (pe_op op_add (pe_op op_mul (pv 3) pe_int) (pe_callTy call_int1 (by rfl) T.b_int (by decide +kernel) (pa_cons (pv 4) pa_nil))) pa_nil)) pe_int))))
       (pss_one (ps_ret (pe_lst (pa_cons (pe_op op_modN (pe_callTy call_int1 (by rfl) T.b_int (by decide +kernel) (pa_cons (pe_op op_add (pv 3) (pe_op op_mul (pv 2) pe_int)) pa_nil)) pe_int) (pa_cons pe_int (pa_cons (pe_ifExp (PW.pt (pw_or (pt_cmpR op_lt (pv 2) pe_int (nomark _)) (pw_or1 (pt_cmpR op_ge (pv 2) (pe_op op_pow pe_int pe_int) (nomark _))))) (pe_callB call_abs (by rfl) T.b_abs (by decide +kernel) (pa_cons (pv 2) pa_nil)) pe_int) pa_nil))))))))), ?_⟩
    refine g_seq (g_asg (g_viaP (fun v H2 => H2 = H ∧ ∃ o : Int, v = .int o) (fun Q' rest => ?_) ?_))
    · refine ⟨_, rfl, _, rfl, _, _, rfl, .inl ⟨_, hS, rfl⟩, _, _, rfl, rfl, _, rfl, ?_⟩
      by_cases c : t < ns.length
      · rw [decide_eq_true (show (t : Int) < ((ns.map V.int).length : Int) by rw [List.length_map]; omega)]
        refine iteT ?_
        refine ⟨_, rfl, _, rfl, a, _, _, _, rfl, rfl, hS, atI_nat (ints_getV c), .inl ⟨_, rfl, rest _ H ⟨rfl, _, rfl⟩⟩⟩
      · rw [decide_eq_false (show ¬ ((t : Int) < ((ns.map V.int).length : Int)) by rw [List.length_map]; omega)]
        refine iteF ?_
        refine ⟨_, rfl, _, _, rfl, rfl, .inl ⟨by decide, by decide⟩, _, _, rfl, rfl, rest _ H ⟨rfl, _, rfl⟩⟩
    · rintro v H2 ⟨rfl, o, rfl⟩
      refine ⟨_, rfl, _, _, rfl, rfl, .inl ⟨by decide, by decide⟩, _, _, rfl, rfl, ?_⟩
      refine ⟨_, rfl, 6, rfl, a, _, rfl, hS, fun p hp => ⟨p, rfl, ⟨_, lst_of upd_same⟩, ?_⟩⟩
      have s3 : Same H2 (upd H2 p (.lst (cutV (ns.map V.int) none (some 6)))) := same_upd hp
      have h3 : (upd H2 p (.lst (cutV (ns.map V.int) none (some 6)))) p = some (.lst (cutV (ns.map V.int) none (some 6))) := upd_same
      generalize upd H2 p (.lst (cutV (ns.map V.int) none (some 6))) = H3 at s3 h3
      refine for_list (xs := cutV (ns.map V.int) none (some 6)) (fun i σ H' => ∃ (st : Int) (y4 : Option V), σ = [some (.ref a), some (.int (t : Int)), some (.int o), some (.int st), y4] ∧ H' = H3) ?_ ?_ ?_ ?_
      · exact ⟨_, none, rfl, rfl⟩
      · rintro i σ H' _ ⟨_, _, _, rfl⟩
        exact lst_of h3
      · rintro i x σ H' hi ⟨st, y4, rfl, rfl⟩
        obtain ⟨z, rfl⟩ : ∃ z : Int, x = .int z := cut_ints (List.mem_of_getElem? hi)
        refine ⟨_, rfl, _, _, rfl, rfl, .inr ⟨by decide, by decide⟩, _, rfl, .inl ⟨_, rfl, _, _, rfl, rfl, .inl ⟨_, rfl, _, _, rfl, rfl, (by show (2147482811 : Int) ≠ 0; decide), ?_⟩⟩⟩
        exact ⟨_, _, rfl, rfl⟩
      · rintro σ H' ⟨st, y4, rfl, rfl⟩
        dsimp only
        refine g_ret (g_lst ?_)
        refine ⟨_, rfl, _, rfl, _, _, rfl, rfl, .inr ⟨by decide, by decide⟩, _, _, rfl, rfl, .inl ⟨_, rfl, _, _, rfl, rfl, (by show (2147482811 : Int) ≠ 0; decide), ?_⟩⟩
        refine g_c (g_cons (g_viaP (fun v H2' => H2' = H' ∧ ∃ f : Int, 0 ≤ f ∧ v = .int f) (fun Q' rest => ?_) ?_))
        · refine ⟨_, rfl, _, _, rfl, rfl, _, rfl, ?_⟩
          have absR : Q' (.int (if o < 0 then -o else o)) H' := rest _ H' ⟨rfl, _, by split <;> omega, rfl⟩
          by_cases c : o < 0
          · rw [decide_eq_true c]
            refine iteT (iteT ?_)
            exact ⟨_, rfl, _, rfl, absR⟩
          · rw [decide_eq_false c]
            refine iteF ?_
            refine ⟨_, rfl, _, _, rfl, rfl, ⟨by decide, by decide, by decide⟩, _, _, rfl, rfl, _, rfl, ?_⟩
            by_cases c2 : (10 : Int) ^ (18 : Int).toNat ≤ o
            · rw [decide_eq_true c2]
              refine iteT ?_
              exact ⟨_, rfl, _, rfl, absR⟩
            · rw [decide_eq_false c2]
              exact iteF (rest _ _ ⟨rfl, 0, by omega, rfl⟩)
        · rintro v H4 ⟨rfl, f, hf, rfl⟩
          refine ⟨by show 3 ≤ sizeLine; decide, fun b hb => ?_⟩
          exact k b _ (Same.free s3 hb) (s3.trans (same_upd hb)) ⟨_, 0, f, upd_same, hf⟩
def spPour : Sp := fun vs H Q _ => ∃ (b : Addr) (top : Nat), vs = [.ref b, .int (top : Int)] ∧ BarAt H b ∧ 1 ≤ top ∧ top ≤ 1000000 ∧ ∀ (r : Nat) H', r < top → Keep b H H' → BarAt H' b → Q (.int (r : Int)) H'
theorem nat_of {z : Int} (h : 0 ≤ z) : ∃ r : Nat, z = (r : Int) := ⟨z.toNat, by omega⟩
theorem ok_l_pour (T : Txt K mg A) (U : Funs K A fd) : FnOk P w K mg base CX0 1 A.l_pour fd.l_pour p_l_pour (spPour) := by
  refine U.F_l_pour.ok sc_l_pour (fun vs H Q E h => ?_) (fun cdv A0 outer s H vs Q E hr h => ?_)
  · obtain ⟨b, top, rfl, _⟩ := h
    rfl
  · have hu := hu_of hr
    obtain ⟨b, top, rfl, B, h1, h2, k⟩ := h
    refine ⟨_, (pss_cons (ps_asg (pe_op op_add (pe_ix (w_ixL (K := K)) (pv 0) pe_int (fun _ _ => rfl)) pe_int) (pg_sub (pv 0) pe_int set_list))
       (pss_cons (ps_if (pt_cmpR op_gt (pe_ix (w_ixL (K := K)) (pv 0) pe_int (fun _ _ => rfl)) pe_int (nomark _)) (pss_cons (ps_asg (pe_callB call_divmod (by rfl) T.b_divmod (by decide +kernel) (pa_cons (pe_callTy call_int1 (by rfl) T.b_int (by decide +kernel) (pa_cons (pe_ix (w_ixL (K := K)) (pv 0) pe_int (fun _ _ => rfl)) pa_nil)) (pa_cons (pv 1) pa_nil))) (w_tup (K := K) (n := 2) rfl (pgs_cons (pg_sub (pv 0) pe_int set_list) (pgs_cons (pg_name (i := 2) sc_l_pour.nd rfl (Or.inl rfl)) pgs_nil))))
       (pss_one (ps_ret (pv 2)))) pss_nil)
       (pss_cons (ps_set (i := 3) sc_l_pour.nd rfl (Or.inl rfl) (pe_callTy call_int1 (by rfl) T.b_int (by decide +kernel) (pa_cons (pe_ix (w_ixL (K := K)) (pv 0) pe_int (fun _ _ => rfl)) pa_nil)))
       (pss_cons (ps_set (i := 4) sc_l_pour.nd rfl (Or.inl rfl) (pe_op op_add (pe_op op_modN (pe_callTy call_int1 (by rfl) T.b_int (by decide +kernel) (pa_cons (pv 3) pa_nil)) pe_int) pe_int))
       (pss_cons (ps_asg (pe_op op_modN (pe_callTy call_int1 (by rfl) T.b_int (by decide +kernel) (pa_cons (pe_op op_add (pe_op op_add (pe_op op_mul (pv 3) (pv 4)) (pe_op op_mul pe_int (pe_ix (w_ixL (K := K)) (pv 0) pe_int (fun _ _ => rfl)))) pe_int) pa_nil)) pe_int) (pg_sub (pv 0) pe_int set_list))
       (pss_one (ps_ret (pe_op op_modN (pe_callTy call_int1 (by rfl) T.b_int (by decide +kernel) (pa_cons (pe_op op_fdivN (pe_ix (w_ixL (K := K)) (pv 0) pe_int (fun _ _ => rfl)) pe_int) pa_nil)) (pv 1))))))))), ?_⟩
    obtain ⟨s0, c, f, hb, hf⟩ := B.ob
    have fin : ∀ (x : Int) (H2 : Hp), Keep b H H2 → BarAt H2 b → Q (.int (x.fmod (top : Int))) H2 := by
      intro x H2 kp B2
      have hr0 := fmod_nn x (m := (top : Int)) (by omega)
      have hr1 := fmod_lt x (m := (top : Int)) (by omega)
      obtain ⟨r, er⟩ := nat_of hr0
      rw [er] at hr1 ⊢
      exact k r H2 (by omega) kp B2
    have fin2 : ∀ (H2 : Hp), Keep b H H2 → BarAt H2 b → Q (.int (f % (top : Int))) H2 := by
      intro H2 kp B2
      have hr0 : 0 ≤ f % (top : Int) := Int.emod_nonneg _ (by omega)
      have hr1 : f % (top : Int) < top := Int.emod_lt_of_pos _ (by omega)
      obtain ⟨r, er⟩ := nat_of hr0
      rw [er] at hr1 ⊢
      exact k r H2 (by omega) kp B2
    refine ⟨_, rfl, b, _, _, _, rfl, rfl, lst_of hb, rfl, _, _, rfl, rfl, _, rfl, b, _, _, 1, rfl, rfl, hb, rfl, ?_⟩
    have b1 : (upd H b (.lst [.int s0, .int (c + 1), .int f])) b = some (.lst [.int s0, .int (c + 1), .int f]) := upd_same
    have kp1 : Keep b H (upd H b (.lst [.int s0, .int (c + 1), .int f])) := keep_upd
    dsimp only
    refine g_seq ?_
    refine ⟨_, rfl, b, _, _, _, rfl, rfl, lst_of b1, rfl, _, _, rfl, rfl, _, rfl, ?_⟩
    by_cases cf : 0 < f
    · rw [decide_eq_true cf]
      refine iteT ?_
      refine ⟨_, rfl, b, _, _, _, rfl, rfl, lst_of b1, rfl, .inl ⟨_, rfl, _, rfl, _, _, rfl, ⟨by omega, by omega⟩, fun T hT => ?_⟩⟩
      have ne : b ≠ T := ne_of_none b1 hT
      refine ⟨T, _, rfl, tup_of upd_same, rfl, _, _, rfl, _, rfl, b, _, _, 2, rfl, rfl, (by rw [upd_ne ne]; exact b1), rfl, _, _, rfl, rfl, ?_⟩
      have hq : 0 ≤ f / (top : Int) := Int.ediv_nonneg (by omega) (by omega)
      exact ⟨_, rfl, fin2 _ (kp1.trans (Keep.trans (Keep.of (same_upd hT)) keep_upd)) ⟨s0, _, f / (top : Int), upd_same, hq⟩⟩
    · rw [decide_eq_false cf]
      refine iteF (g_next ?_)
      refine ⟨_, rfl, b, _, _, _, rfl, rfl, lst_of b1, rfl, .inl ⟨_, rfl, ?_⟩⟩
      refine ⟨_, rfl, .inl ⟨_, rfl, _, _, rfl, rfl, (by show (17011 : Int) ≠ 0; decide), _, _, rfl, rfl, ?_⟩⟩
      have m0 := fmod_nn s0 (m := 17011) (by decide)
      have m1 := fmod_lt s0 (m := 17011) (by decide)
      refine ⟨_, rfl, _, rfl, _, _, rfl, rfl, .inr ⟨by omega, by omega⟩, _, rfl, b, _, _, _, rfl, rfl, lst_of b1, rfl, _, _, rfl, rfl, .inl ⟨by decide, by decide⟩, _, _, rfl, rfl, _, _, rfl, rfl, .inl ⟨_, rfl, _, _, rfl, rfl, (by show (2147482811 : Int) ≠ 0; decide), ?_⟩⟩
      refine ⟨_, rfl, b, _, _, 0, rfl, rfl, b1, rfl, ?_⟩
      refine ⟨_, rfl, b, _, _, _, rfl, rfl, lst_of upd_same, rfl, _, _, rfl, rfl, ⟨by decide, by decide⟩, .inl ⟨_, rfl, _, rfl, _, _, rfl, rfl, (by show (top : Int) ≠ 0; omega), ?_⟩⟩
      exact fin _ _ (kp1.trans keep_upd) ⟨_, c + 1, f, upd_same, hf⟩
/-- one of a list, or of a text -/
def rOne (K : PySem.W.Frag) (b : Addr) (v : V) (H : Hp) (Q : VK) : Prop :=
  (∃ (a : Addr) (xs : List V), v = .ref a ∧ SqL K (del b H) a xs ∧ 0 < xs.length ∧ xs.length ≤ 1000 ∧ ∀ x H', x ∈ xs → Keep b H H' → BarAt H' b → Q x H') ∨
  ∃ l : List Nat, v = .str (rowS l) ∧ 0 < l.length ∧ l.length ≤ 8 ∧ ∀ g H', g ∈ l → Keep b H H' → BarAt H' b → Q (.str (sgn g)) H'
def spOne (K : PySem.W.Frag) : Sp := fun vs H Q _ => ∃ (b : Addr) (v : V), vs = [.ref b, v] ∧ BarAt H b ∧ rOne K b v H Q
theorem row_sign {l : List Nat} {i : Nat} (h : i < l.length) : (rowS l).cps.toList[i]? = some (97 + l[i]) := by
  unfold rowS
  simp [h]
theorem ok_l_pick (T : Txt K mg A) (U : Funs K A fd) : FnOk P w K mg base CX0 4 A.l_pick fd.l_pick p_l_pick (spOne K) := by
  have b_l_pour := U.b_l_pour
  have G_l_pour := ok_l_pour (P := P) (w := w) (base := base) T U
  refine U.F_l_pick.ok sc_l_pick (fun vs H Q E h => ?_) (fun cdv A0 outer s H vs Q E hr h => ?_)
  · obtain ⟨b, v, rfl, _⟩ := h
    rfl
  · have hu := hu_of hr
    obtain ⟨b, v, rfl, B, h⟩ := h
    refine ⟨_, (pss_one (ps_ret (pe_ix (w_ixA (K := K)) (pv 1) (pe_call G_l_pour (hr.mono (by decide)) (by rfl) T.m_l_pour T.k_l_pour b_l_pour .nil pass0 (pa_cons (pv 0) (pa_cons (pe_callB (w_len (K := K)) (by rfl) T.b_len (by decide +kernel) (pa_cons (pv 1) pa_nil)) pa_nil))) (fun _ _ => rfl)))), ?_⟩
    rcases h with ⟨a, xs, rfl, hx, h1, h2, k⟩ | ⟨l, rfl, h1, h2, k⟩
    · refine ⟨_, rfl, _, rfl, _, rfl, _, _, rfl, .inl ⟨_, sqL_mono (del_same b) hx, rfl⟩, b, xs.length, rfl, B, by omega, by omega, fun r H1 hrr kp B1 => ?_⟩
      have e : xs[r]? = some xs[r] := List.getElem?_eq_getElem hrr
      exact .inl ⟨a, xs, _, _, rfl, rfl, sqL_mono (del_same b) (sqL_mono kp hx), atI_nat e, k _ H1 (List.getElem_mem hrr) kp B1⟩
    · refine ⟨_, rfl, _, rfl, _, rfl, _, _, rfl, ⟨szl (by rw [rowS_len]; omega), rfl⟩, b, l.length, by rw [rowS_len] <;> rfl, B, h1, by omega, fun r H1 hrr kp B1 => ?_⟩
      exact .inr (.inr ⟨_, _, _, rfl, rfl, szl (by rw [rowS_len]; omega), atI_nat (row_sign hrr), k l[r] H1 (List.getElem_mem hrr) kp B1⟩)
/-- a new object beside the flask, changed -/
theorem keep_put {b p : Addr} {o : HO} {H H1 : Hp} (k : Keep b H H1) (h : H p = none) : Keep b H (upd H1 p o) := by
  by_cases e : p = b
  · subst e
    exact k.trans keep_upd
  · intro x u hx
    have hxb : x ≠ b := by
      intro z
      rw [z, del_none] at hx
      cases hx
    have z := k x u hx
    rw [del_ne hxb] at hx z ⊢
    rw [upd_ne (ne_of_none hx h)]
    exact z
theorem bar_ne {H : Hp} {b p : Addr} (B : BarAt H b) (h : H p = none) : p ≠ b := by
  obtain ⟨f, s, c, hb, _⟩ := B.ob
  intro z
  rw [z, hb] at h
  cases h
theorem bar_upd {H : Hp} {b p : Addr} {o : HO} (B : BarAt H b) (h : p ≠ b) : BarAt (upd H p o) b := by
  obtain ⟨f, s, c, hb, h1⟩ := B.ob
  exact ⟨f, s, c, by rw [upd_ne (fun z => h z.symm)]; exact hb, h1⟩
theorem bar_same {H H' : Hp} {b : Addr} (B : BarAt H b) (s : Same H H') : BarAt H' b := by
  obtain ⟨f, s0, c, hb, h1⟩ := B.ob
  exact ⟨f, s0, c, s _ _ hb, h1⟩
end K6


set_option Elab.async false
set_option linter.all false
set_option maxRecDepth 100000
set_option maxHeartbeats 4000000
namespace K6
open PySem PySem.Spec PyProof.Rows L2 Rw
variable {P : Program} {w : World} {K : PySem.W.Frag} {mg : Str → Option Value} {base : Heap} {A : Ad} {fd : Fds}
theorem del_upd {b p : Addr} {o : HO} {H : Hp} (h : p ≠ b) : del b (upd H p o) = upd (del b H) p o := by
  funext x
  show (if x = b then none else if x = p then some o else H x) = (if x = p then some o else if x = b then none else H x)
  by_cases e : x = b
  · subst e
    rw [if_pos rfl, if_neg (fun z => h z.symm), if_pos rfl]
  · rw [if_neg e, if_neg e]
section
variable {H : Hp} {σ : L2.St} {te : TE} {ta : TA} {vs : List Nat} {j n : Nat} {Q : VK}
/-- a list of drawn ints -/
theorem cDraw {b : Addr} (lo hi : Int) (B : BarAt H b) (hta : ∀ R : List V → Hp → Prop, R [.int (n : Int)] H → ta σ H R) (hn : n < 100000)
    (hw : ∀ x, wipe ((wipe σ vs).set j (some x)) vs = wipe σ vs)
    (turn : ∀ (i : Nat) (H1 : Hp) (R : VK), i < n → Keep b H H1 → BarAt H1 b → (∀ (z : Int) H2, lo ≤ z → z ≤ hi → Keep b H1 H2 → BarAt H2 b → R (.int z) H2) → te ((wipe σ vs).set j (some (.int (i : Int)))) H1 R)
    (fin : ∀ (D : Addr) (l : Ws) H1, H D = none → D ≠ b → Keep b H H1 → BarAt H1 b → H1 D = some (.lst (l.map V.int)) → l.length = n → (∀ x ∈ l, lo ≤ x ∧ x ≤ hi) → Q (.ref D) H1) : tLc (iRng1 ta) (gName j) tYes te vs σ H Q := by
  refine hta _ ⟨(n : Int), rfl, by omega, by omega, fun D hD => ?_⟩
  rw [Int.toNat_natCast]
  have neD : D ≠ b := bar_ne B hD
  refine lc_range (lo := 0) (n := n) (fun i H' => Keep b H H' ∧ BarAt H' b ∧ ∃ l : Ws, H' D = some (.lst (l.map V.int)) ∧ l.length = i ∧ ∀ x ∈ l, lo ≤ x ∧ x ≤ hi) ?_ ?_ ?_
  · exact ⟨Keep.of (same_upd hD), bar_upd B neD, [], upd_same, rfl, fun g h => by simp at h⟩
  · rintro i H1 hi1 ⟨k1, B1, l, hl, hlen, hb⟩
    refine ⟨hw _, yes_go ?_⟩
    rw [show (0 : Int) + (i : Int) = (i : Int) by omega]
    refine turn i H1 _ hi1 k1 B1 fun z H2 z1 z2 k2 B2 => ?_
    have hl2 := k2.get neD hl
    refine ⟨_, hl2, szt (by rw [List.length_map]; omega), keep_put (k1.trans k2) hD, bar_upd B2 neD, l ++ [z], ?_, by rw [List.length_append, hlen]; rfl, fun x hx => ?_⟩
    · rw [upd_same, List.map_append]
      rfl
    · rcases List.mem_append.mp hx with h | h
      · exact hb x h
      · rw [List.mem_singleton.mp h]
        exact ⟨z1, z2⟩
  · rintro H1 ⟨k1, B1, l, hl, hlen, hb⟩
    exact fin D l H1 hD neD k1 B1 hl hlen hb
end
/-! ### data of tuples alone -/
mutual
def tups : PyData → Bool
  | .tuple xs => tupsAll xs
  | .list _ => false
  | .dict _ => false
  | .none => true
  | .bool _ => true
  | .int _ => true
  | .str _ => true
def tupsAll : List PyData → Bool
  | [] => true
  | x :: xs => tups x && tupsAll xs
end
mutual
theorem dp_del {b : Addr} {H : Hp} {L : List V} (hb : H b = some (.lst L)) : ∀ (d : PyData) (v : V), tups d = true → Dp K H v d → Dp K (del b H) v d
  | .none, _, _, h => by cases h; exact .non
  | .bool c, _, _, h => by cases h; exact .bl c
  | .int i, _, _, h => by cases h; exact .int i
  | .str x, _, _, h => by cases h; exact .str x
  | .list ds, _, t, h => by simp [tups] at t
  | .tuple ds, _, t, h => by
    cases h with
    | tup a b1 =>
      refine .tup ?_ (dps_del hb ds _ (by simpa [tups] using t) b1)
      rcases a with (a | ⟨o, a⟩) | a
      · refine .inl (.inl ?_)
        rw [del_ne (fun z => by rw [z, hb] at a; cases a)]
        exact a
      · refine .inl (.inr ⟨o, ?_⟩)
        rw [del_ne (fun z => by rw [z, hb] at a; cases a)]
        exact a
      · exact .inr a
  | .dict _, _, t, h => by simp [tups] at t
theorem dps_del {b : Addr} {H : Hp} {L : List V} (hb : H b = some (.lst L)) : ∀ (ds : List PyData) (vs : List V), tupsAll ds = true → DpAll K H vs ds → DpAll K (del b H) vs ds
  | [], _, _, h => by cases h; exact .nil
  | d :: ds, _, t, h => by
    rw [tupsAll, Bool.and_eq_true] at t
    cases h with
    | cons a b1 => exact .cons (dp_del hb d _ t.1 a) (dps_del hb ds _ t.2 b1)
end
theorem tups_map {α : Type} (f : α → PyData) : ∀ l : List α, (∀ x, tups (f x) = true) → tupsAll (l.map f) = true
  | [], _ => by rw [List.map_nil, tupsAll]
  | x :: l, h => by rw [List.map_cons, tupsAll, h x, tups_map f l h]; rfl
theorem tups_ws (l : Ws) : tups (dWs l) = true := by
  unfold dWs
  rw [tups]
  exact tups_map _ l fun _ => by rw [tups]
theorem tups_tbl (t : List Ws) : tups (dTbl t) = true := by
  unfold dTbl
  rw [tups]
  exact tups_map _ t tups_ws
theorem tups_tbs (t : List (List Ws)) : tups (dTbs t) = true := by
  unfold dTbs
  rw [tups]
  exact tups_map _ t tups_tbl
def dWg (S : Wg) : PyData := .tuple [dWs S.begins, dTbs S.tables, dWs S.goals]
def spParts (K : PySem.W.Frag) : Sp := fun vs H Q _ => ∃ (b : Addr) (m : Nat), vs = [.ref b, .int (m : Int), .int 3] ∧ BarAt H b ∧ 1 ≤ m ∧ m ≤ 8 ∧
  ∀ p S H', Dp K (del b H') (.ref p) (dWg S) → GoodG m S → S.begins.length ≤ 3 → (∀ x ∈ S.goals, -3 ≤ x) → Keep b H H' → BarAt H' b → Q (.ref p) H'
def menu : Ws := [0, 0, 0, 1, 1, -1, 2, -3]
theorem ok_l_parts (T : Txt K mg A) (U : Funs K A fd) : FnOk P w K mg base CX0 7 A.l_parts fd.l_parts p_l_parts (spParts K) := by
  have b_l_pick := U.b_l_pick
  have G_l_pick := ok_l_pick (P := P) (w := w) (base := base) T U
  have b_l_pour := U.b_l_pour
  have G_l_pour := ok_l_pour (P := P) (w := w) (base := base) T U
  refine U.F_l_parts.ok sc_l_parts (fun vs H Q E h => ?_) (fun cdv A0 outer s H vs Q E hr h => ?_)
  · obtain ⟨b, m, rfl, _⟩ := h
    rfl
  · have hu := hu_of hr
    obtain ⟨b, m, rfl, B, m1, m8, k⟩ := h
    refine ⟨_, (pss_cons (ps_asg (pe_tup (pa_cons (pe_op op_add pe_int (pe_call G_l_pour (hr.mono (by decide)) (by rfl) T.m_l_pour T.k_l_pour b_l_pour .nil pass0 (pa_cons (pv 0) (pa_cons (pv 2) pa_nil)))) (pa_cons (pe_lst (pa_cons pe_int (pa_cons pe_int (pa_cons pe_int (pa_cons pe_int (pa_cons pe_int (pa_cons (pe_un un_neg pe_int) (pa_cons pe_int (pa_cons (pe_un un_neg pe_int) pa_nil))))))))) pa_nil))) (w_tup (K := K) (n := 2) rfl (pgs_cons (pg_name (i := 3) sc_l_parts.nd rfl (Or.inr rfl)) (pgs_cons (pg_name (i := 4) sc_l_parts.nd rfl (Or.inr rfl)) pgs_nil))))
       (pss_cons (ps_set (i := 5) sc_l_parts.nd rfl (Or.inl rfl) (pe_lst pa_nil))
       (pss_cons (ps_for PassesOwn.never rfl (pi_range1 (by rfl) T.b_range (pa_cons (pv 1) pa_nil)) (pg_name (i := 6) sc_l_parts.nd rfl (Or.inl rfl))
       (pss_one (ps_expr (w_bm (K := K) PySem.F.plainAttrs_list PySem.F.slot_list_append PySem.F.type_list_append mt_append (pv 5) (pa_cons (pe_callTy (w_tuple (K := K)) (by rfl) T.b_tuple (by decide +kernel) (pa_cons (pe_lc (own := [("_law_j", 8)]) (g := gName 8) (tt := tYes) (by rfl) sc_l_parts.nd (pi_range1 (by rfl) T.b_range (pa_cons (pv 3) pa_nil)) (blkOk_by (own := [("_law_j", 8)]) (by rfl)) (fun _ _ _ _ _ => (pg_name (i := 8) sc_l_parts.nd rfl (Or.inl rfl))) (fun _ _ _ _ _ => pts_nil) (fun _ _ _ _ _ => (pe_callTy (w_tuple (K := K)) (by rfl) T.b_tuple (by decide +kernel) (pa_cons (pe_lc (own := [("_law_k", 9)]) (g := gName 9) (tt := tYes) (by rfl) sc_l_parts.nd (pi_range1 (by rfl) T.b_range (pa_cons (pv 3) pa_nil)) (blkOk_by (own := [("_law_k", 9)]) (by rfl)) (fun _ _ _ _ _ => (pg_name (i := 9) sc_l_parts.nd rfl (Or.inl rfl))) (fun _ _ _ _ _ => pts_nil) (fun _ _ _ _ _ => (pe_call G_l_pick (hr.mono (by decide)) (by rfl) T.m_l_pick T.k_l_pick b_l_pick .nil pass0 (pa_cons (pv 0) (pa_cons (pv 4) pa_nil))))) pa_nil)))) pa_nil)) pa_nil)))))
       (pss_cons (ps_set (i := 7) sc_l_parts.nd rfl (Or.inl rfl) (pe_callTy (w_tuple (K := K)) (by rfl) T.b_tuple (by decide +kernel) (pa_cons (pe_lc (own := [("_law_k", 9)]) (g := gName 9) (tt := tYes) (by rfl) sc_l_parts.nd (pi_range1 (by rfl) T.b_range (pa_cons (pv 3) pa_nil)) (blkOk_by (own := [("_law_k", 9)]) (by rfl)) (fun _ _ _ _ _ => (pg_name (i := 9) sc_l_parts.nd rfl (Or.inl rfl))) (fun _ _ _ _ _ => pts_nil) (fun _ _ _ _ _ => (pe_call G_l_pick (hr.mono (by decide)) (by rfl) T.m_l_pick T.k_l_pick b_l_pick .nil pass0 (pa_cons (pv 0) (pa_cons (pv 4) pa_nil))))) pa_nil)))
       (pss_one (ps_ret (pe_tup (pa_cons (pv 7) (pa_cons (pe_callTy (w_tuple (K := K)) (by rfl) T.b_tuple (by decide +kernel) (pa_cons (pv 5) pa_nil)) (pa_cons (pe_callTy (w_tuple (K := K)) (by rfl) T.b_tuple (by decide +kernel) (pa_cons (pe_lc (own := [("_law_k", 9)]) (g := gName 9) (tt := tYes) (by rfl) sc_l_parts.nd (pi_range1 (by rfl) T.b_range (pa_cons (pv 3) pa_nil)) (blkOk_by (own := [("_law_k", 9)]) (by rfl)) (fun _ _ _ _ _ => (pg_name (i := 9) sc_l_parts.nd rfl (Or.inl rfl))) (fun _ _ _ _ _ => pts_nil) (fun _ _ _ _ _ => (pe_call G_l_pick (hr.mono (by decide)) (by rfl) T.m_l_pick T.k_l_pick b_l_pick .nil pass0 (pa_cons (pv 0) (pa_cons (pe_op op_cat (pv 4) (pe_lst (pa_cons pe_int pa_nil))) pa_nil))))) pa_nil)) pa_nil)))))))))), ?_⟩
    refine ⟨_, rfl, _, rfl, b, 3, rfl, B, by decide, by decide, fun r0 H1 hr0 k1 B1 => ⟨_, _, rfl, rfl, ?_⟩⟩
    refine ⟨_, rfl, _, rfl, (by show 8 ≤ sizeLine; decide), fun c hc => ?_⟩
    have el : (1 : Int) + (r0 : Int) = ((r0 + 1 : Nat) : Int) := by omega
    have nec : c ≠ b := bar_ne B1 hc
    refine ⟨by show 2 ≤ sizeLine; decide, fun T hT => ⟨T, _, rfl, tup_of upd_same, rfl, _, _, rfl, _, _, rfl, rfl, ?_⟩⟩
    have neT : c ≠ T := ne_of_none upd_same hT
    have neTb : T ≠ b := bar_ne (bar_upd B1 nec) hT
    have k2 : Keep b H1 (upd (upd H1 c (.lst (menu.map V.int))) T (.tup [.int ((1 : Int) + (r0 : Int)), .ref c])) := (Keep.of (same_upd hc)).trans (Keep.of (same_upd hT))
    have B2 : BarAt (upd (upd H1 c (.lst (menu.map V.int))) T (.tup [.int ((1 : Int) + (r0 : Int)), .ref c])) b := bar_upd (bar_upd B1 nec) neTb
    have hc2 : (upd (upd H1 c (.lst (menu.map V.int))) T (.tup [.int ((1 : Int) + (r0 : Int)), .ref c])) c = some (.lst (menu.map V.int)) := by rw [upd_ne neT]; exact upd_same
    dsimp only
    rw [el] at k2 B2 hc2 ⊢
    generalize hn : r0 + 1 = n at k2 B2 hc2
    have hn1 : 1 ≤ n := by omega
    have hn3 : n ≤ 3 := by omega
    show tSeq _ _ _ _ (upd (upd H1 c (.lst (menu.map V.int))) T (.tup [.int (n : Int), .ref c]))
    generalize upd (upd H1 c (.lst (menu.map V.int))) T (.tup [.int (n : Int), .ref c]) = H2 at k2 B2 hc2
    refine ⟨Nat.zero_le _, fun e he => ?_⟩
    have neb : e ≠ b := bar_ne B2 he
    have nce : c ≠ e := ne_of_none hc2 he
    have pickM : ∀ (H4 H5 : Hp) (R : VK), Keep b H2 H4 → BarAt H4 b → (∀ (z : Int) H2, -3 ≤ z → z ≤ 2 → Keep b H4 H2 → BarAt H2 b → R (.int z) H2) → rOne K b (.ref c) H4 R := fun H4 _ R k4 B4 r => by
      refine .inl ⟨c, menu.map V.int, rfl, lst_of (by rw [del_ne nec]; exact k4.get nec hc2), by decide, by decide, fun x H' hx kx Bx => ?_⟩
      obtain ⟨z, hz, rfl⟩ := List.mem_map.mp hx
      have : -3 ≤ z ∧ z ≤ 2 := by
        have : ∀ z ∈ menu, -3 ≤ z ∧ z ≤ 2 := by decide
        exact this z hz
      exact r z H' this.1 this.2 kx Bx
    refine ⟨_, rfl, (m : Int), rfl, by omega, by omega, ?_⟩
    rw [Int.toNat_natCast]
    refine for_range (lo := 0) (n := m) (fun i σ H' => ∃ y6, σ = [some (.ref b), some (.int (m : Int)), some (.int 3), some (.int (n : Int)), some (.ref c), some (.ref e), y6, none, none, none] ∧ Keep b H2 H' ∧ BarAt H' b ∧
      ∃ (acc : List V) (ts : List (List Ws)), H' e = some (.lst acc) ∧ DpAll K (del e (del b H')) acc (ts.map dTbl) ∧ ts.length = i ∧ ∀ t ∈ ts, GoodM n t) ?_ ?_ ?_
    · exact ⟨none, rfl, Keep.of (same_upd he), bar_upd B2 neb, [], [], upd_same, .nil, rfl, fun t h => by simp at h⟩
    · rintro i σ H4 hi ⟨y6, rfl, k4, B4, acc, ts, hacc, dacc, hlen, hgt⟩
      have lacc : acc.length ≤ 8 := by
        have := dps_len dacc
        rw [List.length_map] at this
        omega
      refine ⟨_, rfl, .inl ⟨rfl, _, lst_of hacc⟩, ?_⟩
      refine g_arg (g_cb ?_)
      refine ⟨_, rfl, (n : Int), rfl, by omega, by omega, fun D hD => ?_⟩
      rw [Int.toNat_natCast]
      have neD : D ≠ b := bar_ne B4 hD
      have neDe : e ≠ D := ne_of_none hacc hD
      refine lc_range (lo := 0) (n := n) (fun j H' => Keep b H4 H' ∧ BarAt H' b ∧ ∃ (racc : List V) (t : List Ws), H' D = some (.lst racc) ∧ DpAll K (del D (del b H')) racc (t.map dWs) ∧ t.length = j ∧ ∀ r ∈ t, GoodN n r) ?_ ?_ ?_
      · exact ⟨Keep.of (same_upd hD), bar_upd B4 neD, [], [], upd_same, .nil, rfl, fun r h => by simp at h⟩
      · rintro j H5 hj ⟨k5, B5, racc, t, hracc, dr, htl, hgr⟩
        refine ⟨rfl, yes_go ?_⟩
        have lracc : racc.length ≤ 8 := by
          have := dps_len dr
          rw [List.length_map] at this
          omega
        refine g_cb (cDraw (n := n) (-3) 2 B5 (fun R r => ⟨_, rfl, r⟩) (by omega) (fun _ => rfl) (fun i2 H6 R hi2 k6 B6 r => ⟨_, rfl, _, rfl, b, _, rfl, B6, pickM H6 H6 R (k4.trans (k5.trans k6)) B6 r⟩) (fun D2 l H6 hD2 neD2 k6 B6 hl hll hlb => ?_))
        refine ⟨D2, _, rfl, .inl ⟨lst_of hl, fun p hp => ?_⟩⟩
        have h6 : H6 D = some (.lst racc) := k6.get neD hracc
        have npD : D ≠ p := ne_of_none h6 hp
        have npb : p ≠ b := bar_ne B6 hp
        have kA : Keep b H5 (upd H6 p (.tup (l.map V.int))) := k6.trans (Keep.of (same_upd hp))
        refine ⟨racc, by rw [upd_ne npD]; exact h6, szt (by omega), keep_put (k5.trans kA) hD, bar_upd (bar_upd B6 npb) neD, racc ++ [.ref p], t ++ [l], upd_same, ?_, by rw [List.length_append, htl]; rfl, fun r h => ?_⟩
        · have m1 : Same (del D (del b H5)) (del D (del b (upd H6 p (.tup (l.map V.int))))) := del_mono kA
          have m2 : Same (del D (del b (upd H6 p (.tup (l.map V.int))))) (del D (del b (upd (upd H6 p (.tup (l.map V.int))) D (.lst (racc ++ [.ref p]))))) := by
            rw [del_upd neD]
            exact keep_upd
          rw [List.map_append]
          refine dps_mono m2 _ _ (dps_snoc (dps_mono m1 _ _ dr) (.tup (tup_of ?_) (ints_dps l)))
          rw [del_ne (fun z => npD z.symm), del_ne npb]
          exact upd_same
        · rcases List.mem_append.mp h with h | h
          · exact hgr r h
          · rw [List.mem_singleton.mp h]
            exact ⟨hll, fun x hx => by have := (hlb x hx).1; omega, fun x hx => by have := (hlb x hx).2; omega⟩
      · rintro H5 ⟨k5, B5, racc, t, hracc, dr, htl, hgr⟩
        have he5 : H5 e = some (.lst acc) := k5.get neb hacc
        refine ⟨D, _, rfl, .inl ⟨lst_of hracc, fun q hq => ?_⟩⟩
        have nqe : e ≠ q := ne_of_none he5 hq
        have nqD : D ≠ q := ne_of_none hracc hq
        have nqb : q ≠ b := bar_ne B5 hq
        refine ⟨e, acc, _, rfl, rfl, by rw [upd_ne nqe]; exact he5, szt (by omega), ?_⟩
        have kA : Keep b H4 (upd H5 q (.tup racc)) := k5.trans (Keep.of (same_upd hq))
        refine ⟨_, rfl, keep_put (k4.trans kA) he, bar_upd (bar_upd B5 nqb) neb, acc ++ [.ref q], ts ++ [t], upd_same, ?_, by rw [List.length_append, hlen]; rfl, fun x h => ?_⟩
        · have m1 : Same (del e (del b H4)) (del e (del b (upd H5 q (.tup racc)))) := del_mono kA
          have m2 : Same (del e (del b (upd H5 q (.tup racc)))) (del e (del b (upd (upd H5 q (.tup racc)) e (.lst (acc ++ [.ref q]))))) := by
            rw [del_upd neb]
            exact keep_upd
          have m3 : DpAll K (del e (del b (upd H5 q (.tup racc)))) racc (t.map dWs) :=
            dps_del (L := acc) (by rw [del_ne neb, upd_ne nqe]; exact he5) _ _ (tups_map _ t tups_ws) (dps_mono ((del_same D).trans (del_mono (same_upd hq))) _ _ dr)
          rw [List.map_append]
          refine dps_mono m2 _ _ (dps_snoc (dps_mono m1 _ _ dacc) (.tup (tup_of ?_) m3))
          rw [del_ne (fun z => nqe z.symm), del_ne nqb]
          exact upd_same
        · rcases List.mem_append.mp h with h | h
          · exact hgt x h
          · rw [List.mem_singleton.mp h]
            exact ⟨htl, hgr⟩
    · rintro σ H4 ⟨y6, rfl, k4, B4, acc, ts, hacc, dacc, hlen, hgt⟩
      have lacc : acc.length ≤ 8 := by
        have := dps_len dacc
        rw [List.length_map] at this
        omega
      have dacc : DpAll K (del b H4) acc (ts.map dTbl) := dps_mono (del_same e) _ _ dacc
      dsimp only
      refine g_seq (g_asg (g_cb (cDraw (n := n) (-3) 2 B4 (fun R r => ⟨_, rfl, r⟩) (by omega) (fun _ => rfl) (fun i2 H6 R hi2 k6 B6 r => ⟨_, rfl, _, rfl, b, _, rfl, B6, pickM H6 H6 R (k4.trans k6) B6 r⟩) (fun D2 l H5 hD2 neD2 k5 B5 hl hll hlb => ?_))))
      refine ⟨D2, _, rfl, .inl ⟨lst_of hl, fun p hp => ?_⟩⟩
      have npb : p ≠ b := bar_ne B5 hp
      have he5 : H5 e = some (.lst acc) := k5.get neb hacc
      have npe : e ≠ p := ne_of_none he5 hp
      have dp1 : Dp K (del b (upd H5 p (.tup (l.map V.int)))) (.ref p) (dWs l) := .tup (tup_of (by rw [del_ne npb]; exact upd_same)) (ints_dps l)
      have k6 : Keep b H4 (upd H5 p (.tup (l.map V.int))) := k5.trans (Keep.of (same_upd hp))
      have B6 := bar_upd (o := .tup (l.map V.int)) B5 npb
      have he6 : (upd H5 p (.tup (l.map V.int))) e = some (.lst acc) := by rw [upd_ne npe]; exact he5
      generalize upd H5 p (.tup (l.map V.int)) = H6 at dp1 k6 B6 he6
      refine ⟨_, rfl, _, rfl, e, _, rfl, .inl ⟨lst_of he6, fun q hq => ?_⟩⟩
      have nqb : q ≠ b := bar_ne B6 hq
      have dq1 : Dp K (del b (upd H6 q (.tup acc))) (.ref q) (dTbs ts) := .tup (tup_of (by rw [del_ne nqb]; exact upd_same)) (dps_mono (k6.trans (Keep.of (same_upd hq))) _ _ dacc)
      have dp2 := dp_mono (Keep.of (same_upd (o := .tup acc) hq) : Same (del b H6) _) _ _ dp1
      have k7 : Keep b H4 (upd H6 q (.tup acc)) := k6.trans (Keep.of (same_upd hq))
      have B7 := bar_upd (o := .tup acc) B6 nqb
      generalize upd H6 q (.tup acc) = H7 at dq1 dp2 k7 B7
      refine g_cons (g_cb (cDraw (n := n) (-3) 1000 B7 (fun R r => ⟨_, rfl, r⟩) (by omega) (fun _ => rfl) (fun i2 H8 R hi2 k8 B8 r => ?_) (fun D3 gl H8 hD3 neD3 k8 B8 hgl hgll hglb => ?_)))
      · have hc8 : H8 c = some (.lst (menu.map V.int)) := (k4.trans (k7.trans k8)).get nec hc2
        refine ⟨_, rfl, _, rfl, by show 1 ≤ sizeLine; decide, fun o ho => ?_⟩
        have neo : o ≠ b := bar_ne B8 ho
        have s8 := same_upd (o := .lst [.int 1000]) ho
        refine ⟨c, o, _, _, rfl, rfl, s8 _ _ hc8, upd_same, by decide, fun u hu => ?_⟩
        have neu : u ≠ b := bar_ne (bar_upd B8 neo) hu
        refine ⟨b, _, rfl, bar_upd (bar_upd B8 neo) neu, .inl ⟨u, (menu ++ [1000]).map V.int, rfl, lst_of (by rw [del_ne neu]; exact upd_same), by decide, by decide, fun x H' hx kx Bx => ?_⟩⟩
        obtain ⟨z, hz, rfl⟩ := List.mem_map.mp hx
        have hzb : -3 ≤ z ∧ z ≤ 1000 := by
          have : ∀ z ∈ menu ++ [1000], -3 ≤ z ∧ z ≤ 1000 := by decide
          exact this z hz
        exact r z H' hzb.1 hzb.2 ((Keep.of (s8.trans (same_upd hu))).trans kx) Bx
      · refine ⟨D3, _, rfl, .inl ⟨lst_of hgl, fun g hg => ?_⟩⟩
        have ngb : g ≠ b := bar_ne B8 hg
        have kg : Keep b H7 (upd H8 g (.tup (gl.map V.int))) := k8.trans (Keep.of (same_upd hg))
        have dg : Dp K (del b (upd H8 g (.tup (gl.map V.int)))) (.ref g) (dWs gl) := .tup (tup_of (by rw [del_ne ngb]; exact upd_same)) (ints_dps gl)
        have dq3 := dp_mono kg _ _ dq1
        have dp3 := dp_mono kg _ _ dp2
        have k9 : Keep b H4 (upd H8 g (.tup (gl.map V.int))) := k7.trans kg
        have B9 := bar_upd (o := .tup (gl.map V.int)) B8 ngb
        generalize upd H8 g (.tup (gl.map V.int)) = H9 at dg dq3 dp3 k9 B9
        refine ⟨by show 3 ≤ sizeLine; decide, fun r hr_ => ?_⟩
        have nrb : r ≠ b := bar_ne B9 hr_
        have kr : Keep b H9 (upd H9 r (.tup [.ref p, .ref q, .ref g])) := Keep.of (same_upd hr_)
        refine k r ⟨l, ts, gl⟩ _ (.tup (tup_of (by rw [del_ne nrb]; exact upd_same)) (.cons (dp_mono kr _ _ dp3) (.cons (dp_mono kr _ _ dq3) (.cons (dp_mono kr _ _ dg) .nil)))) ?_ ?_ (fun x hx => (hglb x hx).1) (k1.trans (k2.trans (k4.trans (k9.trans kr)))) (bar_upd B9 nrb)
        · refine ⟨m1, m8, ?_, ?_, hlen, ?_, ?_, ?_⟩
          · show 1 ≤ l.length; omega
          · show l.length ≤ 6; omega
          · exact ⟨rfl, fun x hx => by have := (hlb x hx).1; omega, fun x hx => by have := (hlb x hx).2; omega⟩
          · show ∀ t ∈ ts, GoodM l.length t
            rw [hll]
            exact hgt
          · show GoodN l.length gl
            rw [hll]
            exact ⟨hgll, fun x hx => by have := (hglb x hx).1; omega, fun x hx => (hglb x hx).2⟩
        · show l.length ≤ 3; omega
end K6


set_option Elab.async false
set_option linter.all false
set_option maxRecDepth 100000
set_option maxHeartbeats 4000000
namespace K6
open PySem PySem.Spec PyProof.Rows L2 Rw
variable {P : Program} {w : World} {K : PySem.W.Frag} {mg : Str → Option Value} {base : Heap} {A : Ad} {fd : Fds}
theorem same_made {H H2 : Hp} {x dx : Addr} {o1 o2 : HO} (hx : H x = none) (hdx : H dx = none) (h : ∀ b o, (upd (upd H dx o1) x o2) b = some o → b ≠ x → H2 b = some o) : Same H H2 := fun b o e => by
  have n1 : b ≠ x := fun z => by rw [z, hx] at e; cases e
  have n2 : b ≠ dx := fun z => by rw [z, hdx] at e; cases e
  exact h b o (by rw [upd_ne n1, upd_ne n2]; exact e) n1
theorem same_new2 {H : Hp} {x dx : Addr} {o1 o2 : HO} (hx : H x = none) (hdx : H dx = none) : Same H (upd (upd H dx o1) x o2) := fun b o e => by
  have n1 : b ≠ x := fun z => by rw [z, hx] at e; cases e
  have n2 : b ≠ dx := fun z => by rw [z, hdx] at e; cases e
  rw [upd_ne n1, upd_ne n2]
  exact e
/-- the parts of a drawn weigher -/
theorem wg_at {H : Hp} {v : V} {S : Wg} (h : Dp K H v (dWg S)) : ∃ a xa xt xg, v = .ref a ∧ SqT K H a [.ref xa, .ref xt, .ref xg] ∧ Dp K H (.ref xa) (dWs S.begins) ∧ Dp K H (.ref xt) (dTbs S.tables) ∧ Dp K H (.ref xg) (dWs S.goals) := by
  obtain ⟨a, xs, rfl, hx, hds⟩ := dp_tup h
  cases hds with
  | cons h1 r1 =>
    cases r1 with
    | cons h2 r2 =>
      cases r2 with
      | cons h3 r3 =>
        cases r3
        obtain ⟨xa, _, rfl, _⟩ := dp_tup h1
        obtain ⟨xt, _, rfl, _⟩ := dp_tup h2
        obtain ⟨xg, _, rfl, _⟩ := dp_tup h3
        exact ⟨a, xa, xt, xg, rfl, hx, h1, h2, h3⟩
def spMade (K : PySem.W.Frag) (A : Ad) : Sp := fun vs H Q _ => ∃ (v : V) (m : Nat) (S : Wg), vs = [.int (m : Int), v] ∧ Dp K H v (dWg S) ∧ GoodG m S ∧ ∀ q H', H q = none → Same H H' → WgAt K A.C H' q m S → Q (.ref q) H'
theorem ok_l_made (T : Txt K mg A) (U : Funs K A fd) : FnOk P w K mg base CX0 16 A.l_made fd.l_made p_l_made (spMade K A) := by
  have b_Weigher_init := U.b_Weigher_init
  have G_Weigher_init := ok_Weigher_init (P := P) (w := w) (base := base) T U
  refine U.F_l_made.ok sc_l_made (fun vs H Q E h => ?_) (fun cdv A0 outer s H vs Q E hr h => ?_)
  · obtain ⟨v, m, S, rfl, _⟩ := h
    rfl
  · have hu := hu_of hr
    obtain ⟨v, m, S, rfl, hd, gg, k⟩ := h
    refine ⟨_, (pss_one (ps_ret (pe_make T.mk_Weigher G_Weigher_init (hr.mono (by decide)) (by rfl) T.m_Weigher b_Weigher_init .nil pass0 (pa_cons (pv 0) (pa_cons (pe_ix (w_ixT (K := K)) (pv 1) pe_int (fun _ _ => rfl)) (pa_cons (pe_ix (w_ixT (K := K)) (pv 1) pe_int (fun _ _ => rfl)) (pa_cons (pe_ix (w_ixT (K := K)) (pv 1) pe_int (fun _ _ => rfl)) pa_nil))))))), ?_⟩
    obtain ⟨a, xa, xt, xg, rfl, hx, h1, h2, h3⟩ := wg_at hd
    refine ⟨_, rfl, _, rfl, a, _, _, _, rfl, rfl, hx, rfl, _, rfl, a, _, _, _, rfl, rfl, hx, rfl, _, rfl, a, _, _, _, rfl, rfl, hx, rfl, fun x dx hxn hdn hne => ?_⟩
    have s0 : Same H (upd (upd H dx (.own x)) x (.ins A.C dx [])) := same_new2 hxn hdn
    refine ⟨x, dx, xa, xt, xg, m, S, rfl, upd_same, dp_mono s0 _ _ h1, dp_mono s0 _ _ h2, dp_mono s0 _ _ h3, gg, fun H2 hk hx2 => ⟨rfl, ?_⟩⟩
    have s2 : Same H H2 := same_made hxn hdn hk
    exact k x H2 hxn s2 ⟨dx, xa, xt, xg, hx2, dp_mono s2 _ _ h1, dp_mono s2 _ _ h2, dp_mono s2 _ _ h3⟩
def spLVal (K : PySem.W.Frag) : Sp := fun vs H Q _ => ∃ (v : V) (n : Nat) (S : Wg) (l : List Nat), vs = [v, .str (rowS l)] ∧ Dp K H v (dWg S) ∧ GoodG n S ∧ S.begins.length ≤ 3 ∧ l.length ≤ 200 ∧ (∀ g ∈ l, g < n) ∧ ∀ H', Same H H' → Q (.int (valI S l)) H'
theorem ok_l_value (T : Txt K mg A) (U : Funs K A fd) : FnOk P w K mg base CX0 1 A.l_value fd.l_value p_l_value (spLVal K) := by
  refine U.F_l_value.ok sc_l_value (fun vs H Q E h => ?_) (fun cdv A0 outer s H vs Q E hr h => ?_)
  · obtain ⟨v, n, S, l, rfl, _⟩ := h
    rfl
  · have hu := hu_of hr
    obtain ⟨v, n, S, l, rfl, hd, gg, h3, hl, hlt, k⟩ := h
    refine ⟨_, (pss_cons (ps_set (i := 2) sc_l_value.nd rfl (Or.inr rfl) (pe_callTy (w_list (K := K)) (by rfl) T.b_list (by decide +kernel) (pa_cons (pe_ix (w_ixT (K := K)) (pv 0) pe_int (fun _ _ => rfl)) pa_nil)))
       (pss_cons (ps_for PassesOwn.never rfl (pi_str (pv 1)) (pg_name (i := 3) sc_l_value.nd rfl (Or.inl rfl))
       (pss_cons (ps_set (i := 4) sc_l_value.nd rfl (Or.inr rfl) (pe_ix (w_ixT (K := K)) (pe_ix (w_ixT (K := K)) (pv 0) pe_int (fun _ _ => rfl)) (w_bm (K := K) PySem.F.plainAttrs_str PySem.F.slot_str_index PySem.F.type_str_index mt_sindex pe_str (pa_cons (pv 3) pa_nil)) (fun _ _ => rfl)))
       (pss_one (ps_set (i := 2) sc_l_value.nd rfl (Or.inr rfl) (pe_lc (own := [("_law_k", 5)]) (g := gName 5) (tt := tYes) (by rfl) sc_l_value.nd (pi_range1 (by rfl) T.b_range (pa_cons (pe_callB (w_len (K := K)) (by rfl) T.b_len (by decide +kernel) (pa_cons (pv 2) pa_nil)) pa_nil)) (blkOk_by (own := [("_law_k", 5)]) (by rfl)) (fun _ _ _ _ _ => (pg_name (i := 5) sc_l_value.nd rfl (Or.inr rfl))) (fun _ _ _ _ _ => pts_nil) (fun _ _ _ _ _ => (pe_callB (w_sum (K := K) rfl) (by rfl) T.b_sum (by decide +kernel) (pa_cons (pe_lc (own := [("_law_j", 6)]) (g := gName 6) (tt := tYes) (by rfl) sc_l_value.nd (pi_range1 (by rfl) T.b_range (pa_cons (pe_callB (w_len (K := K)) (by rfl) T.b_len (by decide +kernel) (pa_cons (pv 2) pa_nil)) pa_nil)) (blkOk_by (own := [("_law_j", 6)]) (by rfl)) (fun _ _ _ _ _ => (pg_name (i := 6) sc_l_value.nd rfl (Or.inl rfl))) (fun _ _ _ _ _ => pts_nil) (fun _ _ _ _ _ => (pe_op op_mul (pe_ix (w_ixL (K := K)) (pv 2) (pv 6) (fun _ _ => rfl)) (pe_ix (w_ixT (K := K)) (pe_ix (w_ixT (K := K)) (pv 4) (pv 6) (fun _ _ => rfl)) (pv 5) (fun _ _ => rfl))))) pa_nil))))))))
       (pss_one (ps_ret (pe_callB (w_sum (K := K) rfl) (by rfl) T.b_sum (by decide +kernel) (pa_cons (pe_lc (own := [("_law_k", 5)]) (g := gName 5) (tt := tYes) (by rfl) sc_l_value.nd (pi_range1 (by rfl) T.b_range (pa_cons (pe_callB (w_len (K := K)) (by rfl) T.b_len (by decide +kernel) (pa_cons (pv 2) pa_nil)) pa_nil)) (blkOk_by (own := [("_law_k", 5)]) (by rfl)) (fun _ _ _ _ _ => (pg_name (i := 5) sc_l_value.nd rfl (Or.inl rfl))) (fun _ _ _ _ _ => pts_nil) (fun _ _ _ _ _ => (pe_op op_mul (pe_ix (w_ixL (K := K)) (pv 2) (pv 5) (fun _ _ => rfl)) (pe_ix (w_ixT (K := K)) (pe_ix (w_ixT (K := K)) (pv 0) pe_int (fun _ _ => rfl)) (pv 5) (fun _ _ => rfl))))) pa_nil)))))), ?_⟩
    have n1 := gg.n1
    have m8 := gg.m8
    have tl := gg.tl
    obtain ⟨a, xa, xt, xg, rfl, hx, ha, ht, hg⟩ := wg_at hd
    obtain ⟨_, xs, e1, hxa, hds⟩ := dp_tup ha
    obtain rfl := V.ref.inj e1
    obtain rfl := dps_ints hds
    refine ⟨_, rfl, a, _, _, _, rfl, rfl, hx, rfl, xa, _, rfl, .inr hxa, fun c hc => ?_⟩
    have s0 := same_upd (o := .lst (S.begins.map V.int)) hc
    refine ⟨_, rfl, rowS l, rfl, ?_⟩
    refine for_str (z := rowS l) (fun i σ H' => ∃ (y3 y4 y5 y6 : Option V) (b : Addr), σ = [some (.ref a), some (.str (rowS l)), some (.ref b), y3, y4, y5, y6] ∧ Same H H' ∧ H' b = some (.lst ((runI S (l.take i)).map V.int))) ?_ ?_ ?_
    · exact ⟨none, none, none, none, c, rfl, s0, upd_same⟩
    · rintro i ch σ H2 hi ⟨y3, y4, y5, y6, b, rfl, s2, hb⟩
      obtain ⟨g0, hg0, rfl⟩ := rowS_at hi
      have gm : g0 < n := hlt g0 (List.mem_of_getElem? hg0)
      obtain ⟨rest, hrest⟩ := index_at g0 (by omega)
      have gt : g0 < S.tables.length := by omega
      have etd : S.tables.getD g0 [] = S.tables[g0] := by simp [gt]
      have next := run_take (S := S) hg0
      rw [etd] at next
      have rl := run_len S (l.take i)
      have gtm := gg.t _ (List.getElem_mem gt)
      obtain ⟨_, ts, e2, hxt, hdt⟩ := dp_tup (dp_mono s2 _ _ ht)
      obtain rfl := V.ref.inj e2
      obtain ⟨tv, et, htv⟩ := dps_get hdt (show (S.tables.map dTbl)[g0]? = some (dTbl S.tables[g0]) by simp [gt])
      obtain ⟨at_, rows, rfl, hrows, hdr⟩ := dp_tup htv
      refine ⟨_, rfl, a, _, _, _, rfl, rfl, sqT_mono s2 hx, rfl, rfl, _, rfl, _, _, g0, rest, rfl, rfl, hrest, _, _, _, _, rfl, rfl, hxt, atI_nat et, ?_⟩
      have hlen : ((runI S (l.take i)).map V.int).length = S.begins.length := by rw [List.length_map, rl]
      dsimp only
      refine g_asg (cR (n := S.begins.length) (m := ((((runI S (l.take i)).map V.int).length : Nat) : Int)) (fun kk => [.int (dotI (runI S (l.take i)) (colI S.tables[g0] kk))]) (by omega) (by omega) (fun R r => ?_) (fun _ => Nat.le_refl 1) (by omega) ?_ (fun kk hkk => turn_yes fun H3 R s3 r3 => ?_) (fun D2 H3 _ s3 h3_ => ?_))
      · exact ⟨_, rfl, _, _, rfl, .inl ⟨_, lst_of hb, rfl⟩, r⟩
      · exact fun _ => rfl
      · have hb3 := s3 _ _ hb
        have hrows := sqT_mono s3 hrows
        have hdr := dps_mono s3 _ _ hdr
        refine g_cb (cR (n := S.begins.length) (m := ((((runI S (l.take i)).map V.int).length : Nat) : Int)) (fun j => [.int ((runI S (l.take i)).getD j 0 * (colI S.tables[g0] kk).getD j 0)]) (by omega) (by omega) (fun R r => ?_) (fun _ => Nat.le_refl 1) (by omega) ?_ (fun j hj => turn_yes fun H4 R s4 r4 => ?_) (fun D3 H4 _ s4 h4 => ?_))
        · exact ⟨_, rfl, _, _, rfl, .inl ⟨_, lst_of hb3, rfl⟩, r⟩
        · exact fun _ => rfl
        · have o1 : j < S.tables[g0].length := by rw [gtm.len]; exact hj
          obtain ⟨rv, er, hrv⟩ := dps_get (dps_mono s4 _ _ hdr) (show (S.tables[g0].map dWs)[j]? = some (dWs S.tables[g0][j]) by simp [o1])
          obtain ⟨ar, ys, rfl, hy, hds⟩ := dp_tup hrv
          obtain rfl := dps_ints hds
          have gr := gtm.rows _ (List.getElem_mem o1)
          have o2 : kk < (S.tables[g0][j] : Ws).length := by rw [gr.len]; exact hkk
          have o3 : j < (runI S (l.take i)).length := by rw [rl]; exact hj
          have e1 : (runI S (l.take i)).getD j 0 = (runI S (l.take i))[j] := by simp [o3]
          have e2 : (colI S.tables[g0] kk).getD j 0 = (S.tables[g0][j] : Ws)[kk] := by simp [colI, o1, o2]
          have l1 := gr.lo _ (List.getElem_mem o2)
          have l2 := gr.hi _ (List.getElem_mem o2)
          rw [e1, e2] at r4
          exact ⟨_, rfl, _, rfl, b, _, _, _, rfl, rfl, lst_of (s4 _ _ hb3), atI_nat (show ((runI S (l.take i)).map V.int)[j]? = some (.int (runI S (l.take i))[j]) by simp [o3]),
            _, rfl, _, rfl, at_, _, _, _, rfl, rfl, sqT_mono s4 hrows, atI_nat er, _, rfl, ar, _, _, _, rfl, rfl, hy, atI_nat (show ((S.tables[g0][j] : Ws).map V.int)[kk]? = some (.int (S.tables[g0][j] : Ws)[kk]) by simp [o2]),
            _, _, rfl, rfl, .inr ⟨by omega, by omega⟩, r4 _ (Same.refl _)⟩
        · rw [pre_ints] at h4
          refine ⟨D3, _, rfl, lst_of h4, ?_⟩
          rw [← rl, dot_range (by rw [colI, List.length_map, gtm.len, rl])]
          exact r3 _ s4
      · rw [pre_ints] at h3_
        refine ⟨_, _, _, _, D2, rfl, s2.trans s3, ?_⟩
        rw [h3_, next, stepI, rl]
    · rintro σ H2 ⟨y3, y4, y5, y6, b, rfl, s2, hb⟩
      rw [rowS_size, List.take_length] at hb
      have rl := run_len S l
      have hlen : ((runI S l).map V.int).length = S.begins.length := by rw [List.length_map, rl]
      have hg2 := dp_mono s2 _ _ hg
      obtain ⟨_, xs, e1, hxg, hds⟩ := dp_tup hg2
      obtain rfl := V.ref.inj e1
      obtain rfl := dps_ints hds
      dsimp only
      refine g_ret (g_cb (cR (n := S.begins.length) (m := ((((runI S l).map V.int).length : Nat) : Int)) (fun j => [.int ((runI S l).getD j 0 * S.goals.getD j 0)]) (by omega) (by omega) (fun R r => ?_) (fun _ => Nat.le_refl 1) (by omega) ?_ (fun j hj => turn_yes fun H4 R s4 r4 => ?_) (fun D3 H4 _ s4 h4 => ?_)))
      · exact ⟨_, rfl, _, _, rfl, .inl ⟨_, lst_of hb, rfl⟩, r⟩
      · exact fun _ => rfl
      · have o3 : j < (runI S l).length := by rw [rl]; exact hj
        have o4 : j < S.goals.length := by rw [gg.g.len]; exact hj
        have e1 : (runI S l).getD j 0 = (runI S l)[j] := by simp [o3]
        have e2 : S.goals.getD j 0 = S.goals[j] := by simp [o4]
        have l1 := gg.g.lo _ (List.getElem_mem o4)
        have l2 := gg.g.hi _ (List.getElem_mem o4)
        rw [e1, e2] at r4
        exact ⟨_, rfl, _, rfl, b, _, _, _, rfl, rfl, lst_of (s4 _ _ hb), atI_nat (show ((runI S l).map V.int)[j]? = some (.int (runI S l)[j]) by simp [o3]),
          _, rfl, a, _, _, _, rfl, rfl, sqT_mono (s2.trans s4) hx, rfl, _, rfl, xg, _, _, _, rfl, rfl, sqT_mono s4 hxg, atI_nat (show (S.goals.map V.int)[j]? = some (.int S.goals[j]) by simp [o4]),
          _, _, rfl, rfl, .inr ⟨by omega, by omega⟩, r4 _ (Same.refl _)⟩
      · rw [pre_ints] at h4
        refine ⟨D3, _, rfl, lst_of h4, ?_⟩
        rw [← rl, dot_range (by rw [gg.g.len, rl])]
        exact k _ (s2.trans s4)
end K6


set_option Elab.async false
set_option linter.all false
set_option maxRecDepth 100000
set_option maxHeartbeats 4000000
namespace K6
open PySem PySem.Spec PyProof.Rows L2 Rw
variable {P : Program} {w : World} {K : PySem.W.Frag} {mg : Str → Option Value} {base : Heap} {A : Ad} {fd : Fds}
abbrev Wd := List Nat
/-! ### all rows up to a length -/
def vRows (f : List Wd) : List V := f.map fun l => .str (rowS l)
theorem vRows_app (f g : List Wd) : vRows (f ++ g) = vRows f ++ vRows g := List.map_append
theorem vRows_get {f : List Wd} {i : Nat} {x : V} (h : (vRows f)[i]? = some x) : ∃ l, f[i]? = some l ∧ x = .str (rowS l) := by
  unfold vRows at h
  rw [List.getElem?_map] at h
  cases e : f[i]? with
  | none => rw [e] at h; cases h
  | some l =>
    rw [e] at h
    exact ⟨l, rfl, (Option.some.inj h).symm⟩
theorem pow34 : ∀ i : Nat, i ≤ 3 → 3 ^ i ≤ 27 ∧ 4 ^ i ≤ 64 ∧ 4 ^ i + 3 * 3 ^ i ≤ 4 ^ (i + 1) := by decide
def Rws (m t : Nat) (f : List Wd) : Prop := ∀ l ∈ f, l.length ≤ t ∧ ∀ g ∈ l, g < m
def exts (m : Nat) (l : Wd) : List Wd := (List.range m).map fun g => l ++ [g]
def lay (m : Nat) : Nat → List Wd
  | 0 => [[]]
  | t + 1 => (lay m t).flatMap (exts m)
def alls (m : Nat) : Nat → List Wd
  | 0 => [[]]
  | t + 1 => alls m t ++ lay m (t + 1)
theorem exts_eq (m : Nat) (line : Wd) : ((List.range m).map fun g => line ++ [(List.range m).getD g 0]) = exts m line := by
  unfold exts
  refine List.map_congr_left fun g hg => ?_
  rw [List.getD_eq_getElem?_getD, List.getElem?_range (List.mem_range.mp hg)]
  rfl
theorem flat_take {m : Nat} {ll : List Wd} {a : Nat} {line : Wd} (h : ll[a]? = some line) : (ll.take (a + 1)).flatMap (exts m) = (ll.take a).flatMap (exts m) ++ exts m line := by
  rw [List.take_add_one, h, List.flatMap_append]
  simp
def spRows : Sp := fun vs H Q _ => ∃ m : Nat, vs = [.int (m : Int), .int 3] ∧ m ≤ 3 ∧ ∀ q H', H q = none → Same H H' → H' q = some (.lst (vRows (alls m 3))) → Rws m 3 (alls m 3) → (alls m 3).length ≤ 64 → Q (.ref q) H'
theorem ok_l_words (T : Txt K mg A) (U : Funs K A fd) : FnOk P w K mg base CX0 1 A.l_words fd.l_words p_l_words (spRows) := by
  refine U.F_l_words.ok sc_l_words (fun vs H Q E h => ?_) (fun cdv A0 outer s H vs Q E hr h => ?_)
  · obtain ⟨m, rfl, _⟩ := h
    rfl
  · have hu := hu_of hr
    obtain ⟨m, rfl, hm, k⟩ := h
    refine ⟨_, (pss_cons (ps_par (i := 2) (j := 3) (by rfl) sc_l_words.nd rfl rfl (by decide) rfl rfl (pa_cons (pe_lst (pa_cons pe_str pa_nil)) (pa_cons (pe_lst (pa_cons pe_str pa_nil)) pa_nil)) (by rfl))
       (pss_cons (ps_for PassesOwn.never rfl (pi_range1 (by rfl) T.b_range (pa_cons (pv 1) pa_nil)) (pg_name (i := 4) sc_l_words.nd rfl (Or.inl rfl))
       (pss_cons (ps_set (i := 5) sc_l_words.nd rfl (Or.inl rfl) (pe_lst pa_nil))
       (pss_cons (ps_for PassesOwn.never rfl (w_piL (K := K) (pv 3)) (pg_name (i := 6) sc_l_words.nd rfl (Or.inr rfl))
       (pss_one (ps_set (i := 5) sc_l_words.nd rfl (Or.inl rfl) (pe_op op_cat (pv 5) (pe_lc (own := [("_law_letter", 7)]) (g := gName 7) (tt := tYes) (by rfl) sc_l_words.nd (pi_str (pe_slice sl_str pe_str po_none (po_some (pv 0)))) (blkOk_by (own := [("_law_letter", 7)]) (by rfl)) (fun _ _ _ _ _ => (pg_name (i := 7) sc_l_words.nd rfl (Or.inl rfl))) (fun _ _ _ _ _ => pts_nil) (fun _ _ _ _ _ => (pe_op op_add_str (pv 6) (pv 7))))))))
       (pss_one (ps_par (i := 2) (j := 3) (by rfl) sc_l_words.nd rfl rfl (by decide) rfl rfl (pa_cons (pe_op op_cat (pv 2) (pv 5)) (pa_cons (pv 5) pa_nil)) (by rfl))))))
       (pss_one (ps_ret (pv 2))))), ?_⟩
    refine ⟨by show 1 ≤ sizeLine; decide, fun q1 h1 => ⟨by show 1 ≤ sizeLine; decide, fun q2 h2 => ⟨_, _, rfl, ?_⟩⟩⟩
    refine ⟨_, rfl, 3, rfl, by omega, by omega, ?_⟩
    have s12 : Same H (upd (upd H q1 (.lst [.str ""])) q2 (.lst [.str ""])) := (same_upd h1).trans (same_upd h2)
    have ne : q1 ≠ q2 := ne_of_none upd_same h2
    refine for_range (lo := 0) (n := 3) (fun t σ H' => ∃ f l y4 y5 y6 fl ll, σ = [some (.int (m : Int)), some (.int 3), some (.ref f), some (.ref l), y4, y5, y6, none] ∧ H f = none ∧ Same H H' ∧
      H' f = some (.lst (vRows fl)) ∧ H' l = some (.lst (vRows ll)) ∧ Rws m t fl ∧ Rws m t ll ∧ fl.length ≤ 4 ^ t ∧ ll.length ≤ 3 ^ t ∧ fl = alls m t ∧ ll = lay m t) ?_ ?_ ?_
    · refine ⟨q1, q2, none, none, none, [[]], [[]], rfl, h1, s12, by rw [upd_ne ne]; exact upd_same, upd_same, ?_, ?_, Nat.le_refl _, Nat.le_refl _, rfl, rfl⟩
      · intro l hl
        rw [List.mem_singleton.mp hl]
        exact ⟨Nat.le_refl _, fun g hg => by simp at hg⟩
      · intro l hl
        rw [List.mem_singleton.mp hl]
        exact ⟨Nat.le_refl _, fun g hg => by simp at hg⟩
    · rintro t σ H3 ht ⟨f, l, y4, y5, y6, fl, ll, rfl, hf, s3, h3f, h3l, rf, rl, lf, lll, efl, ell⟩
      obtain ⟨p27, p64, pst⟩ := pow34 t (by omega)
      refine ⟨Nat.zero_le _, fun c hc => ?_⟩
      have nel : l ≠ c := ne_of_none h3l hc
      have nef : f ≠ c := ne_of_none h3f hc
      have sc := same_upd (o := .lst []) hc
      refine ⟨_, rfl, l, rfl, ⟨_, lst_of (sc _ _ h3l)⟩, ?_⟩
      have lx : (vRows ll).length = ll.length := List.length_map _
      refine for_list (xs := vRows ll) (fun a σ H' => ∃ y4 y6 L gl, σ = [some (.int (m : Int)), some (.int 3), some (.ref f), some (.ref l), y4, some (.ref L), y6, none] ∧ Same H3 H' ∧
        H' L = some (.lst (vRows gl)) ∧ Rws m (t + 1) gl ∧ gl.length ≤ 3 * a ∧ gl = (ll.take a).flatMap (exts m)) ?_ ?_ ?_ ?_
      · exact ⟨_, _, c, [], rfl, sc, upd_same, fun l h => by simp at h, Nat.le_refl _, by simp⟩
      · rintro a σ H' _ ⟨_, _, _, _, _, s4, _⟩
        exact lst_of (s4 _ _ h3l)
      · rintro a x σ H4 hx ⟨y4, y6, L, gl, rfl, s4, h4, rg, lg, egl⟩
        obtain ⟨line, el, rfl⟩ := vRows_get hx
        obtain ⟨hline, hlt⟩ := rl line (List.mem_of_getElem? el)
        have ha : a < ll.length := lt_of_get el
        refine ⟨_, rfl, ?_⟩
        refine cS (z := rowS (List.range m)) (fun i => [.str (rowS (line ++ [(List.range m).getD i 0]))]) (fun R r => ?_) (fun _ => Nat.le_refl 1) (by rw [rowS_size, List.length_range]; omega) (fun _ => rfl) (fun i c5 hi => turn_yes fun H5 R5 s5 r5 => ?_) (fun D H5 hD s5 h5 => ?_)
        · rw [← cut_at m (by omega)] at r
          exact ⟨_, rfl, (m : Int), rfl, _, rfl, szl (by decide +kernel), r⟩
        · obtain ⟨g, hg, rfl⟩ := rowS_at hi
          have gd : (List.range m).getD i 0 = g := by rw [List.getD_eq_getElem?_getD, hg]; rfl
          rw [gd, ← rowS_snoc] at r5
          exact ⟨_, rfl, _, rfl, _, _, rfl, rfl, szl (by rw [rowS_len]; show line.length + 1 ≤ 100000; omega), r5 H5 (Same.refl _)⟩
        · have e5 : pre (fun i => [V.str (rowS (line ++ [(List.range m).getD i 0]))]) (rowS (List.range m)).cps.size = vRows ((List.range m).map fun g => line ++ [(List.range m).getD g 0]) := by
            rw [rowS_size, List.length_range, pre_map]
            unfold vRows
            rw [List.map_map]
            rfl
          rw [e5] at h5
          have lnew : ((List.range m).map fun g => line ++ [(List.range m).getD g 0]).length = m := by simp
          refine ⟨L, D, _, _, rfl, rfl, s5 _ _ h4, h5, szl (by rw [vRows, vRows, List.length_map, List.length_map, lnew]; omega), fun E hE => ?_⟩
          refine ⟨_, _, E, gl ++ ((List.range m).map fun g => line ++ [(List.range m).getD g 0]), rfl, (s4.trans s5).trans (same_upd hE), by rw [upd_same, vRows_app], ?_, ?_, by rw [flat_take el, egl, exts_eq]⟩
          · intro r hr1
            rcases List.mem_append.mp hr1 with h | h
            · exact rg r h
            · obtain ⟨g, hg, rfl⟩ := List.mem_map.mp h
              have gm := List.mem_range.mp hg
              have e1 : (List.range m).getD g 0 = g := by rw [List.getD_eq_getElem?_getD, List.getElem?_range gm]; rfl
              rw [e1]
              refine ⟨by rw [List.length_append]; show line.length + 1 ≤ t + 1; omega, fun x hx => ?_⟩
              rcases List.mem_append.mp hx with h | h
              · exact hlt x h
              · rw [List.mem_singleton.mp h]
                exact gm
          · rw [List.length_append, lnew]
            omega
      · rintro σ H4 ⟨y4, y6, L, gl, rfl, s4, h4, rg, lg, egl⟩
        rw [lx] at lg egl
        rw [List.take_length] at egl
        have h4f := s4 _ _ h3f
        refine ⟨_, rfl, _, rfl, f, L, _, _, rfl, rfl, h4f, h4, szl (by rw [vRows, vRows, List.length_map, List.length_map]; omega), fun E hE => ?_⟩
        have nE : L ≠ E := ne_of_none h4 hE
        refine ⟨_, rfl, _, _, rfl, ?_⟩
        refine ⟨E, L, _, _, _, fl ++ gl, gl, rfl, Same.free (s3.trans s4) hE, (s3.trans s4).trans (same_upd hE), by rw [upd_same, vRows_app], by rw [upd_ne nE]; exact h4, ?_, rg, ?_, ?_, by rw [efl, egl, ell]; rfl, by rw [egl, ell]; rfl⟩
        · intro r hr1
          rcases List.mem_append.mp hr1 with h | h
          · obtain ⟨a1, a2⟩ := rf r h
            exact ⟨by omega, a2⟩
          · exact rg r h
        · rw [List.length_append]
          omega
        · rw [Nat.pow_succ]
          omega
    · rintro σ H3 ⟨f, l, y4, y5, y6, fl, ll, rfl, hf, s3, h3f, h3l, rf, rl, lf, lll, efl, ell⟩
      rw [efl] at h3f rf lf
      exact ⟨_, rfl, k f H3 hf s3 h3f rf lf⟩
/-! ### the sum of the values of all rows of a length -/
theorem sum_map_add {α : Type} (f g : α → Int) : ∀ l : List α, (l.map fun x => f x + g x).sum = (l.map f).sum + (l.map g).sum
  | [] => rfl
  | x :: l => by
    rw [List.map_cons, List.sum_cons, sum_map_add f g l, List.map_cons, List.sum_cons, List.map_cons, List.sum_cons]
    omega
theorem sum_map_zero {α : Type} : ∀ l : List α, (l.map fun _ => (0 : Int)).sum = 0
  | [] => rfl
  | x :: l => by rw [List.map_cons, List.sum_cons, sum_map_zero l]; rfl
theorem sum_swap {α β : Type} (f : α → β → Int) (m : List β) : ∀ l : List α, (l.map fun x => (m.map fun y => f x y).sum).sum = (m.map fun y => (l.map fun x => f x y).sum).sum
  | [] => (sum_map_zero m).symm
  | x :: l => by
    rw [List.map_cons, List.sum_cons, sum_swap f m l, ← sum_map_add]
    refine congrArg List.sum (List.map_congr_left fun y _ => ?_)
    rw [List.map_cons, List.sum_cons]
theorem sum_mul {α : Type} (f : α → Int) (c : Int) : ∀ l : List α, (l.map fun x => f x * c).sum = (l.map f).sum * c
  | [] => by simp
  | x :: l => by rw [List.map_cons, List.sum_cons, sum_mul f c l, List.map_cons, List.sum_cons, Int.add_mul]
theorem sum_mul2 {α : Type} (f : α → Int) (c : Int) : ∀ l : List α, (l.map fun x => c * f x).sum = c * (l.map f).sum
  | [] => by simp
  | x :: l => by rw [List.map_cons, List.sum_cons, sum_mul2 f c l, List.map_cons, List.sum_cons, Int.mul_add]
theorem sum_flat {α β : Type} (f : β → Int) (g : α → List β) : ∀ l : List α, ((l.flatMap g).map f).sum = (l.map fun x => ((g x).map f).sum).sum
  | [] => rfl
  | x :: l => by
    rw [List.flatMap_cons, List.map_append, List.sum_append, sum_flat f g l, List.map_cons, List.sum_cons]
/-- the place k of the numbers behind a row -/
def at_ (v : Ws) (k : Nat) : Int := v.getD k 0
theorem dot_at {xs ys : Ws} {n : Nat} (hx : xs.length = n) (hy : ys.length = n) : dotI xs ys = ((List.range n).map fun j => at_ xs j * at_ ys j).sum := by
  subst hx
  exact (dot_range hy).symm
theorem step_at {t : List Ws} {v : Ws} {n k : Nat} (g : GoodM n t) (hv : v.length = n) (hk : k < n) : at_ (stepI t v) k = ((List.range n).map fun j => at_ v j * (t.getD j []).getD k 0).sum := by
  unfold at_ stepI
  rw [hv, List.getD_eq_getElem?_getD, List.getElem?_map, List.getElem?_range hk]
  show dotI v (colI t k) = _
  rw [dot_at hv (by rw [colI, List.length_map, g.len])]
  refine congrArg List.sum (List.map_congr_left fun j hj => ?_)
  have hj := List.mem_range.mp hj
  have : j < t.length := by rw [g.len]; exact hj
  unfold at_ colI
  simp [this]
theorem run_snoc (S : Wg) (l : Wd) (g : Nat) : runI S (l ++ [g]) = stepI (S.tables.getD g []) (runI S l) := by
  unfold runI
  rw [List.foldl_append]
  rfl
theorem tot_lay {m : Nat} {S : Wg} (gg : GoodG m S) : ∀ (t k : Nat), k < S.begins.length → at_ (totI S t) k = ((lay m t).map fun l => at_ (runI S l) k).sum
  | 0, k, hk => by
    show at_ S.begins k = at_ S.begins k + 0
    omega
  | t + 1, k, hk => by
    have hs := sumC_len S k
    show at_ ((List.range S.begins.length).map fun two => dotI (totI S t) (sumC S two)) k = _
    have e0 : at_ ((List.range S.begins.length).map fun two => dotI (totI S t) (sumC S two)) k = dotI (totI S t) (sumC S k) := by
      unfold at_
      rw [List.getD_eq_getElem?_getD, List.getElem?_map, List.getElem?_range hk]
      rfl
    rw [e0, dot_at (tot_len S t) hs]
    show _ = (((lay m t).flatMap (exts m)).map _).sum
    rw [sum_flat]
    have e1 : ∀ l ∈ lay m t, ((exts m l).map fun l => at_ (runI S l) k).sum = ((List.range S.begins.length).map fun j => at_ (runI S l) j * at_ (sumC S k) j).sum := by
      intro l _
      unfold exts
      rw [List.map_map]
      have e2 : ((List.range m).map ((fun l => at_ (runI S l) k) ∘ fun g => l ++ [g])) = (List.range m).map fun g => ((List.range S.begins.length).map fun j => at_ (runI S l) j * ((S.tables.getD g []).getD j []).getD k 0).sum := by
        refine List.map_congr_left fun g hg => ?_
        have hg := List.mem_range.mp hg
        have gt : g < S.tables.length := by rw [gg.tl]; exact hg
        have etd : S.tables.getD g [] = S.tables[g] := by simp [gt]
        show at_ (runI S (l ++ [g])) k = _
        rw [run_snoc, etd]
        exact step_at (gg.t _ (List.getElem_mem gt)) (run_len S l) hk
      rw [e2, sum_swap]
      refine congrArg List.sum (List.map_congr_left fun j hj => ?_)
      have hj := List.mem_range.mp hj
      rw [sum_mul2]
      congr 1
      unfold at_ sumC
      rw [List.getD_eq_getElem?_getD, List.getElem?_map, List.getElem?_range hj]
      show _ = (S.tables.map fun t => (t.getD j []).getD k 0).sum
      rw [← range_getD (fun t : List Ws => (t.getD j []).getD k 0) [] S.tables, gg.tl]
    rw [List.map_congr_left e1, sum_swap]
    refine congrArg List.sum (List.map_congr_left fun j hj => ?_)
    rw [sum_mul, tot_lay gg t j (List.mem_range.mp hj)]
theorem total_sum {m : Nat} {S : Wg} (gg : GoodG m S) (t : Nat) : dotI (totI S t) S.goals = ((lay m t).map fun l => valI S l).sum := by
  rw [dot_at (tot_len S t) gg.g.len]
  have e1 : ∀ l ∈ lay m t, valI S l = ((List.range S.begins.length).map fun j => at_ (runI S l) j * at_ S.goals j).sum := fun l _ => by
    unfold valI
    exact dot_at (run_len S l) gg.g.len
  rw [List.map_congr_left e1, sum_swap]
  refine congrArg List.sum (List.map_congr_left fun j hj => ?_)
  rw [sum_mul, tot_lay gg t j (List.mem_range.mp hj)]
theorem lay_len (m : Nat) : ∀ (t : Nat) (l : Wd), l ∈ lay m t → l.length = t
  | 0, l, h => by rw [List.mem_singleton.mp h]; rfl
  | t + 1, l, h => by
    obtain ⟨l0, h0, h1⟩ := List.mem_flatMap.mp h
    obtain ⟨g, _, rfl⟩ := List.mem_map.mp h1
    rw [List.length_append, lay_len m t l0 h0]
    rfl
theorem filter_lay (m t u : Nat) : (lay m u).filter (fun l => decide (l.length = t)) = if u = t then lay m u else [] := by
  by_cases c : u = t
  · subst c
    rw [if_pos rfl]
    exact List.filter_eq_self.mpr fun l hl => decide_eq_true (lay_len m u l hl)
  · rw [if_neg c]
    exact List.filter_eq_nil_iff.mpr fun l hl => by
      have := lay_len m u l hl
      simp
      omega
theorem filter_alls (m : Nat) {t : Nat} (h : t < 4) : (alls m 3).filter (fun l => decide (l.length = t)) = lay m t := by
  show (((lay m 0 ++ lay m 1) ++ lay m 2) ++ lay m 3).filter _ = _
  rw [List.filter_append, List.filter_append, List.filter_append, filter_lay, filter_lay, filter_lay, filter_lay]
  match t, h with
  | 0, _ => simp
  | 1, _ => simp
  | 2, _ => simp
  | 3, _ => simp
end K6


set_option Elab.async false
set_option linter.all false
set_option maxRecDepth 100000
set_option maxHeartbeats 4000000
namespace K6
open PySem PySem.Spec PyProof.Rows L2 Rw
variable {P : Program} {w : World} {K : PySem.W.Frag} {mg : Str → Option Value} {base : Heap} {A : Ad} {fd : Fds}
/-! ### calls by name -/
def gK {α : Type} : List α → List α → List α
  | [], [a, b] => [b, a]
  | _, _ => []
theorem gK_rel {vs : List V} {us : List Value} {zs : List V} {ws : List Value} (r : Vals vs us) (q : Vals zs ws) : Vals (gK vs zs) (gK us ws) := by
  cases r with
  | cons a b => exact .nil
  | nil =>
    cases q with
    | nil => exact .nil
    | cons a b =>
      cases b with
      | nil => exact .nil
      | cons c d =>
        cases d with
        | nil => exact .cons c (.cons a .nil)
        | cons e f => exact .nil
theorem gK_two {us ws : List Value} (h : (gK us ws).length = 2) : ∃ a b, us = [] ∧ ws = [a, b] := by
  cases us with
  | cons a b => simp [gK] at h
  | nil =>
    match ws, h with
    | [a, b], _ => exact ⟨a, b, rfl, rfl⟩
    | [], h => simp [gK] at h
    | [_], h => simp [gK] at h
    | _ :: _ :: _ :: _, h => simp [gK] at h
theorem kb_total_0_length_weigher_of {f : Addr} {fd : FuncData} (F : Fun K "total" "total" s_total f fd) : KBinds K fd p_total ["length", "weigher"] gK gK := by
  obtain ⟨oc, od, kV, doc, pm, an, cdv, ct, osl, rfl, lk, hcd⟩ := F.ex
  refine ⟨fun s us ws _ hl => ?_, gK_rel⟩
  obtain ⟨a, b, rfl, rfl⟩ := gK_two hl
  exact .of_eq rfl
theorem kb_value_0_row_weigher_of {f : Addr} {fd : FuncData} (F : Fun K "value" "value" s_value f fd) : KBinds K fd p_value ["row", "weigher"] gK gK := by
  obtain ⟨oc, od, kV, doc, pm, an, cdv, ct, osl, rfl, lk, hcd⟩ := F.ex
  refine ⟨fun s us ws _ hl => ?_, gK_rel⟩
  obtain ⟨a, b, rfl, rfl⟩ := gK_two hl
  exact .of_eq rfl
def gW {α : Type} : List α → List α → List α
  | [s], [g, t, b, n] => [s, n, b, t, g]
  | _, _ => []
theorem gW_rel {vs : List V} {us : List Value} {zs : List V} {ws : List Value} (r : Vals vs us) (q : Vals zs ws) : Vals (gW vs zs) (gW us ws) := by
  cases r with
  | nil => exact .nil
  | cons a b =>
    cases b with
    | cons c d => exact .nil
    | nil =>
      cases q with
      | nil => exact .nil
      | cons q1 q =>
        cases q with
        | nil => exact .nil
        | cons q2 q =>
          cases q with
          | nil => exact .nil
          | cons q3 q =>
            cases q with
            | nil => exact .nil
            | cons q4 q =>
              cases q with
              | cons q5 q => exact .nil
              | nil => exact .cons a (.cons q4 (.cons q3 (.cons q2 (.cons q1 .nil))))
theorem four_of {α : Type} : ∀ {ws : List α}, ws.length = 4 → ∃ a b c d, ws = [a, b, c, d]
  | [a, b, c, d], _ => ⟨a, b, c, d, rfl⟩
  | [], h => by simp at h
  | [_], h => by simp at h
  | [_, _], h => by simp at h
  | [_, _, _], h => by simp at h
  | _ :: _ :: _ :: _ :: _ :: _, h => by simp at h
theorem one_of {α : Type} : ∀ {ws : List α}, ws.length = 1 → ∃ a, ws = [a]
  | [a], _ => ⟨a, rfl⟩
  | [], h => by simp at h
  | _ :: _ :: _, h => by simp at h
theorem kn_Weigher_goals_tables_begins_signs_of {f : Addr} {fd : FuncData} (F : Fun K "__init__" "Weigher.__init__" s_Weigher_init f fd) : KBn K fd p_Weigher_init 1 ["goals", "tables", "begins", "signs"] gW gW := by
  obtain ⟨oc, od, kV, doc, pm, an, cdv, ct, osl, rfl, lk, hcd⟩ := F.ex
  refine ⟨fun s us ws _ hl hk => ?_, gW_rel⟩
  obtain ⟨u, rfl⟩ := one_of hl
  obtain ⟨a, b, c, d, rfl⟩ := four_of hk
  exact .of_eq rfl
/-! ### what is shown -/
theorem tup_le (ts : List Str) : (tupleText ts).length ≤ piled ts + 3 := by
  unfold tupleText
  rw [strLen_append, strLen_append]
  have e1 : ((("(" : String) : Str)).length = 1 := rfl
  have e3 : (((if ts.length == 1 then ",)" else ")" : String) : Str)).length ≤ 2 := by split <;> decide
  rw [e1]
  by_cases h : ts = []
  · subst h
    have : (Str.join ", " ([] : List Str)).length = 0 := rfl
    rw [this]
    omega
  · have := join_length_add ts h
    omega
theorem lst_le : ∀ ts : List Str, (listText ts).length ≤ piled ts + 3
  | [] => by
    show 2 ≤ _
    omega
  | a :: ts => by
    unfold listText
    rw [strLen_append]
    show (textFrom 1 (("[" : Str) ++ ((if 0 > 0 then ", " else "" : String) : Str) ++ a) ts).length + _ ≤ _
    rw [textFrom_length_pos _ 1 _ (by decide), strLen_append, strLen_append, piled_cons]
    have e1 : ("[" : Str).length = 1 := rfl
    have e2 : (((if 0 > 0 then ", " else "" : String) : Str)).length = 0 := rfl
    have e3 : ("]" : Str).length = 1 := rfl
    rw [e1, e2, e3]
    omega
theorem piled_le {α : Type} (f : α → PyData) (n : Nat) : ∀ l : List α, (∀ x ∈ l, (f x).shown.length ≤ n) → piled (PyData.shownAll (l.map f)) ≤ l.length * (n + 2)
  | [], _ => by
    rw [List.map_nil, PyData.shownAll]
    exact Nat.zero_le _
  | x :: l, h => by
    rw [List.map_cons, PyData.shownAll, piled_cons, List.length_cons, Nat.succ_mul]
    have := h x (List.mem_cons_self ..)
    have := piled_le f n l fun y hy => h y (List.mem_cons_of_mem _ hy)
    omega
theorem showable_all {α : Type} (f : α → PyData) : ∀ l : List α, (∀ x ∈ l, (f x).showable = true) → PyData.showableAll (l.map f) = true
  | [], _ => rfl
  | x :: l, h => by
    show ((f x).showable && PyData.showableAll (l.map f)) = true
    rw [h x (List.mem_cons_self ..), showable_all f l fun y hy => h y (List.mem_cons_of_mem _ hy)]
    rfl
theorem int_able {x : Int} (h1 : -1000 ≤ x) (h2 : x ≤ 1000) : (PyData.int x).showable = true := by
  show decide (x.natAbs.log2 < 1920) = true
  refine decide_eq_true ?_
  by_cases c : x.natAbs = 0
  · rw [c]; decide
  · exact Nat.lt_trans ((Nat.log2_lt c).mpr (show x.natAbs < 2 ^ 14 by omega)) (by decide)
theorem int_shown {x : Int} (h1 : -1000 ≤ x) (h2 : x ≤ 1000) : (PyData.int x).shown.length ≤ 1921 := int_text_len_1921 (of_decide_eq_true (int_able h1 h2))
theorem showable_all2 {α : Type} (f : α → PyData) : ∀ l : List α, (∀ x ∈ l, (f x).showable = true) → PyData.showableAll (l.map f) = true
  | [], _ => rfl
  | x :: l, h => by
    show ((f x).showable && PyData.showableAll (l.map f)) = true
    rw [h x (List.mem_cons_self ..), showable_all2 f l fun y hy => h y (List.mem_cons_of_mem _ hy)]
    rfl
theorem ws_able {n : Nat} {l : Ws} (g : GoodN n l) : (dWs l).showable = true := showable_all2 PyData.int l fun x hx => int_able (g.lo x hx) (g.hi x hx)
theorem ws_shown {n : Nat} {l : Ws} (g : GoodN n l) (h : n ≤ 6) : (dWs l).shown.length ≤ 11541 := by
  unfold dWs
  rw [PyData.shown]
  have := tup_le (PyData.shownAll (l.map PyData.int))
  have := piled_le PyData.int 1921 l fun x hx => int_shown (g.lo x hx) (g.hi x hx)
  have : l.length * (1921 + 2) ≤ 6 * 1923 := Nat.mul_le_mul (by rw [g.len]; exact h) (Nat.le_refl _)
  omega
theorem tbl_able {n : Nat} {t : List Ws} (g : GoodM n t) : (dTbl t).showable = true := showable_all2 dWs t fun r hr => ws_able (g.rows r hr)
theorem tbl_shown {n : Nat} {t : List Ws} (g : GoodM n t) (h : n ≤ 6) : (dTbl t).shown.length ≤ 69261 := by
  unfold dTbl
  rw [PyData.shown]
  have := tup_le (PyData.shownAll (t.map dWs))
  have := piled_le dWs 11541 t fun x hx => ws_shown (g.rows x hx) h
  have : t.length * (11541 + 2) ≤ 6 * 11543 := Nat.mul_le_mul (by rw [g.len]; exact h) (Nat.le_refl _)
  omega
theorem tbs_able {n : Nat} {ts : List (List Ws)} (g : ∀ t ∈ ts, GoodM n t) : (dTbs ts).showable = true := showable_all2 dTbl ts fun t ht => tbl_able (g t ht)
theorem tbs_shown {n : Nat} {ts : List (List Ws)} (g : ∀ t ∈ ts, GoodM n t) (h : n ≤ 6) (h8 : ts.length ≤ 8) : (dTbs ts).shown.length ≤ 554107 := by
  unfold dTbs
  rw [PyData.shown]
  have := tup_le (PyData.shownAll (ts.map dTbl))
  have := piled_le dTbl 69261 ts fun x hx => tbl_shown (g x hx) h
  have : ts.length * (69261 + 2) ≤ 8 * 69263 := Nat.mul_le_mul h8 (Nat.le_refl _)
  omega
def dTold (m : Nat) (S : Wg) : PyData := .list [.int (m : Int), .int (S.begins.length : Int), dWs S.begins, dTbs S.tables, dWs S.goals]
theorem told_able {m : Nat} {S : Wg} (gg : GoodG m S) : (dTold m S).showable = true := by
  have m8 := gg.m8
  have n6 := gg.n6
  show ((PyData.int (m : Int)).showable && ((PyData.int (S.begins.length : Int)).showable && ((dWs S.begins).showable && ((dTbs S.tables).showable && ((dWs S.goals).showable && true))))) = true
  rw [int_able (by omega) (by omega), int_able (by omega) (by omega), ws_able gg.b, tbs_able gg.t, ws_able gg.g]
  rfl
theorem told_dep (m : Nat) (S : Wg) : (dTold m S).depth ≤ 10 := by
  have h1 := ws_dep S.begins
  have h2 := tbs_dep S.tables
  have h3 := ws_dep S.goals
  show max 0 (max 0 (max (dWs S.begins).depth (max (dTbs S.tables).depth (max (dWs S.goals).depth 0)))) + 1 ≤ 10
  omega
theorem told_shown {m : Nat} {S : Wg} (gg : GoodG m S) : (dTold m S).shown.length ≤ sizeLine := by
  have m8 := gg.m8
  have n6 := gg.n6
  unfold dTold
  rw [PyData.shown]
  have h0 := lst_le (PyData.shownAll [.int (m : Int), .int (S.begins.length : Int), dWs S.begins, dTbs S.tables, dWs S.goals])
  rw [PyData.shownAll, PyData.shownAll, PyData.shownAll, PyData.shownAll, PyData.shownAll, PyData.shownAll, piled_cons, piled_cons, piled_cons, piled_cons, piled_cons] at h0
  have h1 : (PyData.int (m : Int)).shown.length ≤ 1921 := int_shown (by omega) (by omega)
  have h2 : (PyData.int (S.begins.length : Int)).shown.length ≤ 1921 := int_shown (by omega) (by omega)
  have h3 := ws_shown gg.b n6
  have h4 := tbs_shown gg.t n6 (by rw [gg.tl]; exact m8)
  have h5 := ws_shown gg.g n6
  have e : piled [] = 0 := rfl
  have es : sizeLine = 16777216 := sizeLine_eq
  rw [PyData.shownAll, PyData.shownAll, PyData.shownAll, PyData.shownAll, PyData.shownAll, PyData.shownAll]
  omega
theorem wg_del {C b : Addr} {H : Hp} {p n : Nat} {S : Wg} (B : BarAt H b) (W : WgAt K C H p n S) : WgAt K C (del b H) p n S := by
  obtain ⟨s0, c0, f0, hb, _⟩ := B.ob
  obtain ⟨dx, a, t, g, w1, w2, w3, w4⟩ := W.ob
  refine ⟨dx, a, t, g, ?_, dp_del hb _ _ (tups_ws _) w2, dp_del hb _ _ (tups_tbs _) w3, dp_del hb _ _ (tups_ws _) w4⟩
  rw [del_ne (fun z => by rw [z, hb] at w1; cases w1)]
  exact w1
theorem ints_shaped (l : List Int) : SeqAt.shaped (.list (l.map PyData.int)) = true := by
  refine shaped_mk (lay_all PyData.int l fun _ _ => rfl) ?_
  show PyData.depthAll (l.map PyData.int) + 1 ≤ 64
  have := dep_all PyData.int 0 l fun _ _ => Nat.le_refl 0
  omega
theorem sum_sgn : ∀ l : List Nat, ((l.map sgn).map (·.length)).sum = l.length
  | [] => rfl
  | a :: l => by
    rw [List.map_cons, List.map_cons, List.sum_cons, sum_sgn l, List.length_cons]
    show 1 + _ = _
    omega
theorem g_test {te : TE} {σ : L2.St} {H : Hp} {Q : Bool → Hp → Prop} (h : te σ H fun x H1 => ∃ k, x = .bl k ∧ Q k H1) : tTest te σ H Q := h
theorem g_op {r : R2} {ta tb : TE} {σ : L2.St} {H : Hp} {Q : VK} (h : ta σ H fun x H1 => tb σ H1 fun y H2 => r x y H2 Q) : tOp r ta tb σ H Q := h
theorem cut_abc : ∀ n : Nat, n ≤ 3 → cutS ("abc" : Str) none (some (n : Int)) = rowS (List.range n)
  | 0, _ => by decide +kernel
  | 1, _ => by decide +kernel
  | 2, _ => by decide +kernel
  | 3, _ => by decide +kernel
  | n + 4, h => by omega
end K6


set_option Elab.async false
set_option linter.all false
set_option maxRecDepth 100000
set_option maxHeartbeats 4000000
namespace K6
open PySem PySem.Spec PyProof.Rows L2 Rw
variable {P : Program} {w : World} {K : PySem.W.Frag} {mg : Str → Option Value} {base : Heap} {A : Ad} {fd : Fds}
theorem range_flat {α β : Type} (g : α → List β) (d : α) (l : List α) : (List.range l.length).flatMap (fun i => g (l.getD i d)) = l.flatMap g := by
  rw [List.flatMap_def, List.flatMap_def, range_getD g d l]
theorem flat_if {α β : Type} (p : α → Bool) (f : α → β) : ∀ l : List α, (l.flatMap fun x => if p x = true then [f x] else []) = (l.filter p).map f
  | [] => rfl
  | x :: l => by
    rw [List.flatMap_cons, flat_if p f l]
    by_cases c : p x = true
    · rw [if_pos c, List.filter_cons_of_pos c]
      rfl
    · rw [if_neg c, List.filter_cons_of_neg c]
      rfl
def ofLen (S : Wg) (t : Nat) (l : Wd) : List V := if decide (l.length = t) = true then [V.int (valI S l)] else []
theorem pre_len_eq (S : Wg) (m : Nat) {t : Nat} (ht : t < 4) : pre (fun i => ofLen S t ((alls m 3).getD i [])) (alls m 3).length = ((lay m t).map (valI S)).map V.int := by
  unfold pre
  rw [range_flat (ofLen S t) [] (alls m 3)]
  unfold ofLen
  rw [flat_if (fun l : Wd => decide (l.length = t)) (fun l => V.int (valI S l)), filter_alls m ht, List.map_map]
  rfl
def spOneR (K : PySem.W.Frag) : Sp := fun vs H Q _ => ∃ (b : Addr) (m : Nat) (v : V) (S : Wg), vs = [.ref b, .int (m : Int), v] ∧ BarAt H b ∧ Dp K (del b H) v (dWg S) ∧ GoodG m S ∧ m ≤ 3 ∧ S.begins.length ≤ 3 ∧ ∀ H', Keep b H H' → BarAt H' b → Q (.bl true) H'
theorem ok_l_one_right (T : Txt K mg A) (U : Funs K A fd) : FnOkG P w K mg base 19 A.l_one_right fd.l_one_right p_l_one_right (spOneR K) := by
  have b_value := U.b_value
  have G_value := ok_value (P := P) (w := w) (base := base) T U
  have b_l_value := U.b_l_value
  have G_l_value := ok_l_value (P := P) (w := w) (base := base) T U
  have b_total := U.b_total
  have G_total := ok_total (P := P) (w := w) (base := base) T U
  have b_l_pick := U.b_l_pick
  have G_l_pick := ok_l_pick (P := P) (w := w) (base := base) T U
  have b_l_words := U.b_l_words
  have G_l_words := ok_l_words (P := P) (w := w) (base := base) T U
  have b_Weigher_goals := U.b_Weigher_goals
  have G_Weigher_goals := ok_Weigher_goals (P := P) (w := w) (base := base) T U
  have b_Weigher_tables := U.b_Weigher_tables
  have G_Weigher_tables := ok_Weigher_tables (P := P) (w := w) (base := base) T U
  have b_Weigher_begins := U.b_Weigher_begins
  have G_Weigher_begins := ok_Weigher_begins (P := P) (w := w) (base := base) T U
  have b_Weigher_size := U.b_Weigher_size
  have G_Weigher_size := ok_Weigher_size (P := P) (w := w) (base := base) T U
  have b_Weigher_signs := U.b_Weigher_signs
  have G_Weigher_signs := ok_Weigher_signs (P := P) (w := w) (base := base) T U
  have b_l_made := U.b_l_made
  have G_l_made := ok_l_made (P := P) (w := w) (base := base) T U
  have kb_value_0_row_weigher := kb_value_0_row_weigher_of (U.F_value)
  have kb_total_0_length_weigher := kb_total_0_length_weigher_of (U.F_total)
  refine okG U.F_l_one_right sc_l_one_right (fun vs H Q E h => ?_) (fun cdv A0 outer s H vs Q E hg hr h => ?_)
  · obtain ⟨b, m, v, S, rfl, _⟩ := h
    rfl
  · have hu := hu_of hr
    obtain ⟨b, m, v, S, rfl, B, hdb, gg, m3, t3, k⟩ := h
    refine ⟨_, (pss_cons (ps_set (i := 3) sc_l_one_right.nd rfl (Or.inr rfl) (pe_call G_l_made (hr.mono (by decide)) (by rfl) T.m_l_made T.k_l_made b_l_made .nil pass0 (pa_cons (pv 1) (pa_cons (pv 2) pa_nil))))
       (pss_cons (ps_set (i := 4) sc_l_one_right.nd rfl (Or.inl rfl) (pe_lst (pa_cons (pe_prop (pv 3) T.cl T.p_Weigher_signs G_Weigher_signs (hr.mono (by decide)) b_Weigher_signs .nil pass0 rfl) (pa_cons (pe_prop (pv 3) T.cl T.p_Weigher_size G_Weigher_size (hr.mono (by decide)) b_Weigher_size .nil pass0 rfl) (pa_cons (pe_prop (pv 3) T.cl T.p_Weigher_begins G_Weigher_begins (hr.mono (by decide)) b_Weigher_begins .nil pass0 rfl) (pa_cons (pe_prop (pv 3) T.cl T.p_Weigher_tables G_Weigher_tables (hr.mono (by decide)) b_Weigher_tables .nil pass0 rfl) (pa_cons (pe_prop (pv 3) T.cl T.p_Weigher_goals G_Weigher_goals (hr.mono (by decide)) b_Weigher_goals .nil pass0 rfl) pa_nil)))))))
       (pss_cons (ps_if (pt_cmpR op_ne (pe_callB (w_reprD (K := K) hg hr) (by rfl) T.b_repr (by decide +kernel) (pa_cons (pv 4) pa_nil)) (pe_callB (w_reprD (K := K) hg hr) (by rfl) T.b_repr (by decide +kernel) (pa_cons (pe_op op_cat (pe_lst (pa_cons (pv 1) (pa_cons (pe_callB (w_len (K := K)) (by rfl) T.b_len (by decide +kernel) (pa_cons (pe_ix (w_ixT (K := K)) (pv 2) pe_int (fun _ _ => rfl)) pa_nil)) pa_nil))) (pe_callTy (w_list (K := K)) (by rfl) T.b_list (by decide +kernel) (pa_cons (pv 2) pa_nil))) pa_nil)) (nomark _)) (pss_one (ps_ret pe_bl)) pss_nil)
       (pss_cons (ps_set (i := 5) sc_l_one_right.nd rfl (Or.inl rfl) (pe_call G_l_words (hr.mono (by decide)) (by rfl) T.m_l_words T.k_l_words b_l_words .nil pass0 (pa_cons (pv 1) (pa_cons pe_int pa_nil))))
       (pss_cons (ps_if (pt_cmpR (w_neD (K := K) hr.units) (pe_lc (own := [("_law_row", 8)]) (g := gName 8) (tt := tYes) (by rfl) sc_l_one_right.nd (w_piL (K := K) (pv 5)) (blkOk_by (own := [("_law_row", 8)]) (by rfl)) (fun _ _ _ _ _ => (pg_name (i := 8) sc_l_one_right.nd rfl (Or.inl rfl))) (fun _ _ _ _ _ => pts_nil) (fun _ _ _ _ _ => (pe_call G_value (hr.mono (by decide)) (by rfl) T.m_value T.k_value b_value .nil pass0 (pa_cons (pv 3) (pa_cons (pv 8) pa_nil))))) (pe_lc (own := [("_law_row", 8)]) (g := gName 8) (tt := tYes) (by rfl) sc_l_one_right.nd (w_piL (K := K) (pv 5)) (blkOk_by (own := [("_law_row", 8)]) (by rfl)) (fun _ _ _ _ _ => (pg_name (i := 8) sc_l_one_right.nd rfl (Or.inl rfl))) (fun _ _ _ _ _ => pts_nil) (fun _ _ _ _ _ => (pe_call G_l_value (hr.mono (by decide)) (by rfl) T.m_l_value T.k_l_value b_l_value .nil pass0 (pa_cons (pv 2) (pa_cons (pv 8) pa_nil))))) (nomark _)) (pss_one (ps_ret pe_bl)) pss_nil)
       (pss_cons (ps_for PassesOwn.never rfl (pi_range1 (by rfl) T.b_range (pa_cons pe_int pa_nil)) (pg_name (i := 6) sc_l_one_right.nd rfl (Or.inr rfl))
       (pss_one (ps_if (pt_cmpR op_ne (pe_call G_total (hr.mono (by decide)) (by rfl) T.m_total T.k_total b_total .nil pass0 (pa_cons (pv 3) (pa_cons (pv 6) pa_nil))) (pe_callB (w_sum (K := K) rfl) (by rfl) T.b_sum (by decide +kernel) (pa_cons (pe_lc (own := [("_law_row", 8)]) (g := gName 8) (by rfl) sc_l_one_right.nd (w_piL (K := K) (pv 5)) (blkOk_by (own := [("_law_row", 8)]) (by rfl)) (fun _ _ _ _ _ => (pg_name (i := 8) sc_l_one_right.nd rfl (Or.inl rfl))) (fun _ _ _ _ _ => (pts_one (pt_cmpR op_eq (pe_callB (w_len (K := K)) (by rfl) T.b_len (by decide +kernel) (pa_cons (pv 8) pa_nil)) (pv 6) (nomark _)))) (fun _ _ _ _ _ => (pe_call G_l_value (hr.mono (by decide)) (by rfl) T.m_l_value T.k_l_value b_l_value .nil pass0 (pa_cons (pv 2) (pa_cons (pv 8) pa_nil))))) pa_nil)) (nomark _)) (pss_one (ps_ret pe_bl)) pss_nil)))
       (pss_cons (ps_set (i := 7) sc_l_one_right.nd rfl (Or.inl rfl) (pe_join pe_str (pe_lc (own := [("_law_turn", 9)]) (g := gName 9) (tt := tYes) (by rfl) sc_l_one_right.nd (pi_range1 (by rfl) T.b_range (pa_cons (pe_call G_l_pick (hr.mono (by decide)) (by rfl) T.m_l_pick T.k_l_pick b_l_pick .nil pass0 (pa_cons (pv 0) (pa_cons (pe_lst (pa_cons pe_int (pa_cons pe_int (pa_cons pe_int pa_nil)))) pa_nil))) pa_nil)) (blkOk_by (own := [("_law_turn", 9)]) (by rfl)) (fun _ _ _ _ _ => (pg_name (i := 9) sc_l_one_right.nd rfl (Or.inl rfl))) (fun _ _ _ _ _ => pts_nil) (fun _ _ _ _ _ => (pe_call G_l_pick (hr.mono (by decide)) (by rfl) T.m_l_pick T.k_l_pick b_l_pick .nil pass0 (pa_cons (pv 0) (pa_cons (pe_slice sl_str pe_str po_none (po_some (pv 1))) pa_nil)))))))
       (pss_cons (ps_if (pt_cmpR op_ne (pe_callK0 G_total (hr.mono (by decide)) (by rfl) T.m_total T.k_total kb_total_0_length_weigher pass0 (pk_cons pe_int (pk_cons (pv 3) pk_nil))) (pe_call G_total (hr.mono (by decide)) (by rfl) T.m_total T.k_total b_total .nil pass0 (pa_cons (pv 3) (pa_cons pe_int pa_nil))) (nomark _)) (pss_one (ps_ret pe_bl)) pss_nil)
       (pss_one (ps_ret (pe_cmpR op_eq (pe_callK0 G_value (hr.mono (by decide)) (by rfl) T.m_value T.k_value kb_value_0_row_weigher pass0 (pk_cons (pv 7) (pk_cons (pv 3) pk_nil))) (pe_call G_l_value (hr.mono (by decide)) (by rfl) T.m_l_value T.k_l_value b_l_value .nil pass0 (pa_cons (pv 2) (pa_cons (pv 7) pa_nil))) (nomark _)))))))))))), ?_⟩
    have hd := dp_mono (del_same b) _ _ hdb
    have m1 := gg.m1
    refine ⟨_, rfl, _, rfl, v, m, S, rfl, hd, gg, fun q H2 hq s02 W2 => ?_⟩
    have hd2 := dp_mono s02 _ _ hd
    obtain ⟨a, xa, xt, xg, rfl, hx, h1, h2, h3⟩ := wg_at hd2
    obtain ⟨dx, aa, at_, ag, w1, w2, w3, w4⟩ := W2.ob
    refine ⟨_, rfl, q, dx, _, rfl, w1, q, dx, _, _, rfl, w1, fl_signs _ _ _ _, _, rfl, q, dx, _, rfl, w1, q, m, S, rfl, W2, _, rfl, q, dx, _, rfl, w1, q, dx, _, _, rfl, w1, fl_begins _ _ _ _, _, rfl, q, dx, _, rfl, w1, q, dx, _, _, rfl, w1, fl_tables _ _ _ _, _, rfl, q, dx, _, rfl, w1, q, dx, _, _, rfl, w1, fl_goals _ _ _ _, by show 5 ≤ sizeLine; decide, fun D hD => ?_⟩
    have sD := same_upd (o := .lst [.int (m : Int), .int (S.begins.length : Int), .ref aa, .ref at_, .ref ag]) hD
    have dD : Dp K (upd H2 D (.lst [.int (m : Int), .int (S.begins.length : Int), .ref aa, .ref at_, .ref ag])) (.ref D) (dTold m S) := .lst (lst_of upd_same) (.cons (.int _) (.cons (.int _) (.cons (dp_mono sD _ _ w2) (.cons (dp_mono sD _ _ w3) (.cons (dp_mono sD _ _ w4) .nil)))))
    have s03 : Same H (upd H2 D (.lst [.int (m : Int), .int (S.begins.length : Int), .ref aa, .ref at_, .ref ag])) := s02.trans sD
    generalize upd H2 D (.lst [.int (m : Int), .int (S.begins.length : Int), .ref aa, .ref at_, .ref ag]) = H3 at sD dD s03
    have ab := told_able gg
    have dp10 := told_dep m S
    have shw := told_shown gg
    refine ⟨_, rfl, D, dTold m S, rfl, dD, ab, dp10, shw, ?_⟩
    obtain ⟨_, xs, e1, hxa, hds⟩ := dp_tup h1
    obtain rfl := V.ref.inj e1
    obtain rfl := dps_ints hds
    refine ⟨_, rfl, _, rfl, a, _, _, _, rfl, rfl, sqT_mono sD hx, rfl, _, _, rfl, .inr ⟨_, sqT_mono sD hxa, rfl⟩, by show 2 ≤ sizeLine; decide, fun M1 hM1 => ?_⟩
    rw [List.length_map] at *
    have sM1 := same_upd (o := .lst [.int (m : Int), .int (S.begins.length : Int)]) hM1
    refine ⟨_, rfl, a, _, rfl, .inr (sqT_mono (sD.trans sM1) hx), fun M2 hM2 => ?_⟩
    have sM2 := same_upd (o := .lst [.ref xa, .ref xt, .ref xg]) hM2
    refine ⟨M1, M2, _, _, rfl, rfl, sM2 _ _ upd_same, upd_same, by show 5 ≤ sizeLine; decide, fun E2 hE2 => ?_⟩
    have sE := same_upd (o := .lst ([.int (m : Int), .int (S.begins.length : Int)] ++ [.ref xa, .ref xt, .ref xg])) hE2
    have s3E := (sM1.trans sM2).trans sE
    have dE : Dp K (upd (upd (upd H3 M1 (.lst [.int (m : Int), .int (S.begins.length : Int)])) M2 (.lst [.ref xa, .ref xt, .ref xg])) E2 (.lst ([.int (m : Int), .int (S.begins.length : Int)] ++ [.ref xa, .ref xt, .ref xg]))) (.ref E2) (dTold m S) :=
      .lst (lst_of upd_same) (.cons (.int _) (.cons (.int _) (.cons (dp_mono (sD.trans s3E) _ _ h1) (.cons (dp_mono (sD.trans s3E) _ _ h2) (.cons (dp_mono (sD.trans s3E) _ _ h3) .nil)))))
    have s04 := s03.trans s3E
    have s24 := sD.trans s3E
    generalize upd (upd (upd H3 M1 (.lst [.int (m : Int), .int (S.begins.length : Int)])) M2 (.lst [.ref xa, .ref xt, .ref xg])) E2 (.lst ([.int (m : Int), .int (S.begins.length : Int)] ++ [.ref xa, .ref xt, .ref xg])) = H4 at dE s04 s24
    refine ⟨E2, dTold m S, rfl, dE, ab, dp10, shw, rfl, _, rfl, ?_⟩
    rw [decide_eq_true rfl]
    refine iteF ?_
    refine ⟨_, rfl, m, rfl, m3, fun qr H6 hqr s6 h6 rws f64 => ?_⟩
    have s26 := s24.trans s6
    have s06 := s04.trans s6
    have Wf : WgAt K A.C H6 q m S := W2.mono s26
    have hd6 : Dp K H6 (.ref a) (dWg S) := dp_mono s26 _ _ hd2
    dsimp only
    have lf : (vRows (alls m 3)).length = (alls m 3).length := List.length_map _
    have rowg : ∀ {i : Nat} {x : V}, (vRows (alls m 3))[i]? = some x → ∃ l, (alls m 3).getD i [] = l ∧ x = .str (rowS l) ∧ l.length ≤ 3 ∧ ∀ g ∈ l, g < m := by
      intro i x hi
      obtain ⟨l, e, ex⟩ := vRows_get hi
      obtain ⟨a1, a2⟩ := rws l (List.mem_of_getElem? e)
      exact ⟨l, by rw [List.getD_eq_getElem?_getD, e]; rfl, ex, a1, a2⟩
    have vals : pre (fun i => [V.int (valI S ((alls m 3).getD i []))]) (vRows (alls m 3)).length = ((alls m 3).map (valI S)).map V.int := by
      rw [lf, pre_ints (fun i => valI S ((alls m 3).getD i [])), range_getD (valI S) []]
    refine g_seq (g_ifS (g_test (g_op ?_)))
    refine cL (xs := vRows (alls m 3)) (fun i => [V.int (valI S ((alls m 3).getD i []))]) (fun R r => ⟨_, rfl, r⟩) (lst_of h6) (fun _ => Nat.le_refl 1) (by omega) (fun _ => rfl) (fun i x hi => turn_yes fun H7 R s7 r => ?_) (fun D1 H7 hD1 s7 h7 => ?_)
    · obtain ⟨l, el, rfl, l3, lm⟩ := rowg hi
      rw [el] at r
      exact ⟨_, rfl, _, rfl, q, m, S, l, rfl, Wf.mono s7, gg, t3, by omega, lm, fun H8 s8 => r H8 s8⟩
    · rw [vals] at h7
      have h6' := s7 _ _ h6
      refine cL (xs := vRows (alls m 3)) (fun i => [V.int (valI S ((alls m 3).getD i []))]) (fun R r => ⟨_, rfl, r⟩) (lst_of h6') (fun _ => Nat.le_refl 1) (by omega) (fun _ => rfl) (fun i x hi => turn_yes fun H8 R s8 r => ?_) (fun D2 H8 hD2 s8 h8 => ?_)
      · obtain ⟨l, el, rfl, l3, lm⟩ := rowg hi
        rw [el] at r
        exact ⟨_, rfl, _, rfl, _, m, S, l, rfl, dp_mono (s7.trans s8) _ _ hd6, gg, t3, by omega, lm, fun H9 s9 => r H9 s9⟩
      · rw [vals] at h8
        have dd1 : Dp K H8 (.ref D1) (.list (((alls m 3).map (valI S)).map PyData.int)) := .lst (lst_of (s8 _ _ h7)) (ints_dps _)
        have dd2 : Dp K H8 (.ref D2) (.list (((alls m 3).map (valI S)).map PyData.int)) := .lst (lst_of h8) (ints_dps _)
        have sh := ints_shaped ((alls m 3).map (valI S))
        refine ⟨_, _, dd1, dd2, sh, sh, _, rfl, ?_⟩
        rw [eqv_same sh]
        refine iteF (g_next ?_)
        have s08 := (s06.trans s7).trans s8
        have s68 := s7.trans s8
        have h8r := s68 _ _ h6
        have Wf8 := Wf.mono s68
        have hd8 := dp_mono s68 _ _ hd6
        dsimp only
        refine ⟨4, rfl, by decide, by decide, ?_⟩
        refine for_range (lo := 0) (n := 4) (fun i σ H' => ∃ y6, σ = [some (.ref b), some (.int (m : Int)), some (.ref a), some (.ref q), some (.ref D), some (.ref qr), y6, none, none, none] ∧ Same H8 H') ?_ ?_ ?_
        · exact ⟨none, rfl, Same.refl _⟩
        · rintro t σ H9 ht ⟨y6, rfl, s9⟩
          refine g_ifS (g_test (g_op ?_))
          refine ⟨_, rfl, _, rfl, q, m, S, t, by rw [show (0 : Int) + (t : Int) = (t : Int) by omega] <;> rfl, Wf8.mono s9, gg, by omega, fun Ha sa => ?_⟩
          refine g_cb (cL (xs := vRows (alls m 3)) (fun i => ofLen S t ((alls m 3).getD i [])) (fun R r => ⟨_, rfl, r⟩) (lst_of ((s9.trans sa) _ _ h8r)) (fun i => ?_) (by omega) (fun _ => rfl) (fun i x hi => ?_) (fun D3 Hb hD3 sb hb => ?_))
          · unfold ofLen
            split
            · exact Nat.le_refl 1
            · exact Nat.zero_le 1
          · obtain ⟨l, el, rfl, l3, lm⟩ := rowg hi
            intro H1 R N s1 hy hn
            rw [el] at hy hn
            refine ⟨_, rfl, _, _, rfl, ⟨szl (by rw [rowS_len]; omega), rfl⟩, _, rfl, rfl, _, rfl, ?_⟩
            unfold ofLen at hy hn
            by_cases c : l.length = t
            · have e1 : V.int ((rowS l).length : Int) = V.int (0 + (t : Int)) := by rw [rowS_len, c]; congr 1; omega
              rw [decide_eq_true e1]
              refine iteT ?_
              refine ⟨_, rfl, _, rfl, _, m, S, l, rfl, dp_mono ((s9.trans sa).trans s1) _ _ hd8, gg, t3, by omega, lm, fun H2_ s2 => hy _ H2_ (by rw [decide_eq_true c]; rfl) s2⟩
            · have e1 : ¬ V.int ((rowS l).length : Int) = V.int (0 + (t : Int)) := fun z => c (by
                have := V.int.inj z
                rw [rowS_len] at this
                omega)
              rw [decide_eq_false e1]
              refine iteF ?_
              exact hn H1 (by rw [decide_eq_false c]; rfl) (Same.refl _)
          · rw [lf, pre_len_eq S m ht] at hb
            refine ⟨D3, _, rfl, lst_of hb, ?_⟩
            rw [← total_sum gg t]
            refine ⟨rfl, _, rfl, ?_⟩
            rw [decide_eq_true rfl]
            exact iteF (g_next ⟨_, rfl, (s9.trans sa).trans sb⟩)
        · rintro σ H9 ⟨y6, rfl, s9⟩
          have s09 := s08.trans s9
          have B9 := bar_same B s09
          have k9 : Keep b H H9 := Keep.of s09
          have W9 := wg_del B9 (Wf8.mono s9)
          have hd9 : Dp K (del b H9) (.ref a) (dWg S) := dp_mono k9 _ _ hdb
          refine ⟨⟨_, rfl⟩, _, rfl, by show 3 ≤ sizeLine; decide, fun p3 hp3 => ?_⟩
          have n3 : p3 ≠ b := bar_ne B9 hp3
          have B10 := bar_upd (o := .lst [.int 4, .int 9, .int 200]) B9 n3
          refine ⟨b, _, rfl, B10, .inl ⟨p3, [.int 4, .int 9, .int 200], rfl, lst_of (by rw [del_ne n3]; exact upd_same), by decide, by decide, fun x Ha hx ka Ba => ?_⟩⟩
          obtain ⟨size, hsz, rfl⟩ : ∃ m : Nat, m ≤ 200 ∧ x = .int (m : Int) := by
            simp at hx
            rcases hx with rfl | rfl | rfl
            · exact ⟨4, by decide, rfl⟩
            · exact ⟨9, by decide, rfl⟩
            · exact ⟨200, by decide, rfl⟩
          have k9a : Keep b H9 Ha := (Keep.of (same_upd hp3)).trans ka
          refine ⟨(size : Int), rfl, by omega, by omega, fun D hD => ?_⟩
          rw [Int.toNat_natCast]
          have neD : D ≠ b := bar_ne Ba hD
          refine lc_range (lo := 0) (n := size) (fun j H' => Keep b Ha H' ∧ BarAt H' b ∧ ∃ l : List Nat, H' D = some (.lst ((l.map sgn).map V.str)) ∧ l.length = j ∧ ∀ g ∈ l, g < m) ?_ ?_ ?_
          · exact ⟨Keep.of (same_upd hD), bar_upd Ba neD, [], upd_same, rfl, fun g h => by simp at h⟩
          · rintro j H6 hj ⟨k6, B6, l, hl6, hlen, hlt⟩
            refine ⟨rfl, yes_go ?_⟩
            refine ⟨_, rfl, _, rfl, (m : Int), rfl, _, rfl, szl (by decide +kernel), b, _, rfl, B6, .inr ⟨List.range m, by rw [cut_abc m m3], by rw [List.length_range]; omega, by rw [List.length_range]; omega, fun g H7 hg k7 B7 => ?_⟩⟩
            have hl7 := k7.get neD hl6
            refine ⟨_, hl7, szt (by simp; omega), keep_put (k6.trans k7) hD, bar_upd B7 neD, l ++ [g], ?_, by rw [List.length_append, hlen]; rfl, fun x hx => ?_⟩
            · rw [upd_same, List.map_append, List.map_append]
              rfl
            · rcases List.mem_append.mp hx with h | h
              · exact hlt x h
              · rw [List.mem_singleton.mp h]
                exact List.mem_range.mp hg
          · rintro H6 ⟨k6, B6, l, hl6, hlen, hlt⟩
            refine ⟨_, D, l.map sgn, rfl, rfl, .inl (lst_of hl6), ?_, ?_⟩
            · rw [sum_sgn]
              show _ + _ * 0 ≤ _
              omega
            rw [join_signs]
            have k96 := k9a.trans k6
            have W6 : WgAt K A.C H6 q m S := (W9.mono k96).mono (del_same b)
            refine ⟨_, rfl, q, m, S, 1, rfl, W6, gg, by decide, fun Hb sb => ?_⟩
            refine ⟨_, rfl, q, m, S, 1, rfl, W6.mono sb, gg, by decide, fun Hc sc => ?_⟩
            refine ⟨rfl, _, rfl, ?_⟩
            rw [decide_eq_true rfl]
            refine iteF (g_next ?_)
            have s6c := sb.trans sc
            refine ⟨_, rfl, _, rfl, q, m, S, l, rfl, W6.mono s6c, gg, t3, by omega, hlt, fun H7 s7 => ?_⟩
            refine ⟨_, rfl, _, rfl, _, m, S, l, rfl, dp_mono (Same.trans k96 ((del_same b).trans (s6c.trans s7))) _ _ hd9, gg, t3, by omega, hlt, fun H8_ s8_ => ⟨rfl, ?_⟩⟩
            rw [decide_eq_true rfl]
            exact k H8_ ((k9.trans k96).trans (Keep.of ((s6c.trans s7).trans s8_))) (bar_same B6 ((s6c.trans s7).trans s8_))
end K6


set_option Elab.async false
set_option linter.all false
set_option maxRecDepth 100000
set_option maxHeartbeats 4000000
namespace K6
open PySem PySem.Spec PyProof.Rows L2 Rw
variable {P : Program} {w : World} {K : PySem.W.Frag} {mg : Str → Option Value} {base : Heap} {A : Ad} {fd : Fds}
theorem eqG_wg (m : Nat) (S S' : Wg) : eqG m m S S' = PyData.eqv (dWg S) (dWg S') := by
  unfold eqG dWg
  simp only [PyData.eqv, PyData.eqvAll, Bool.and_true, decide_true, Bool.true_and]
theorem wg_shaped (S : Wg) : SeqAt.shaped (dWg S) = true := by
  refine shaped_mk ?_ ?_
  · show ((dWs S.begins).canLay0 && ((dTbs S.tables).canLay0 && ((dWs S.goals).canLay0 && true))) = true
    rw [ws_lay, tbs_lay, ws_lay]
    rfl
  · show max (dWs S.begins).depth (max (dTbs S.tables).depth (max (dWs S.goals).depth 0)) + 1 ≤ 64
    have := ws_dep S.begins
    have := tbs_dep S.tables
    have := ws_dep S.goals
    omega
theorem eqG_same (m : Nat) (S : Wg) : eqG m m S S = true := by
  rw [eqG_wg, eqv_same (wg_shaped S)]
theorem eqvAll_ints : ∀ l l' : List Int, PyData.eqvAll (l.map PyData.int) (l'.map PyData.int) = true → l = l'
  | [], [], _ => rfl
  | [], _ :: _, h => by simp [PyData.eqvAll] at h
  | _ :: _, [], h => by simp [PyData.eqvAll] at h
  | x :: l, y :: l', h => by
    simp only [List.map_cons, PyData.eqvAll, PyData.eqv, Bool.and_eq_true] at h
    rw [eqvAll_ints l l' h.2]
    simpa using h.1
/-- the last goal one less -/
def bentG (l : Ws) : Ws := l.take (l.length - 1) ++ [l.getD (l.length - 1) 0 - 1]
def bent (S : Wg) : Wg := ⟨S.begins, S.tables, bentG S.goals⟩
theorem bent_ne {l : Ws} (h : 0 < l.length) : bentG l ≠ l := fun e => by
  have h1 : (bentG l).getD (l.length - 1) 0 = l.getD (l.length - 1) 0 := by rw [e]
  unfold bentG at h1
  rw [List.getD_eq_getElem?_getD, List.getElem?_append_right (by rw [List.length_take]; omega), List.length_take] at h1
  rw [show l.length - 1 - min (l.length - 1) l.length = 0 by omega] at h1
  have h2 : l.getD (l.length - 1) 0 - 1 = l.getD (l.length - 1) 0 := h1
  omega
theorem eqG_bent {m : Nat} {S : Wg} (h : 0 < S.goals.length) : eqG m m (bent S) S = false := by
  cases e : eqG m m (bent S) S with
  | false => rfl
  | true =>
    unfold eqG at e
    simp only [Bool.and_eq_true] at e
    have e3 : PyData.eqvAll ((bentG S.goals).map PyData.int) (S.goals.map PyData.int) = true := e.2.2.2
    exact absurd (eqvAll_ints _ _ e3) (bent_ne h)
theorem bent_good {m : Nat} {S : Wg} (gg : GoodG m S) (h : ∀ x ∈ S.goals, -3 ≤ x) : GoodG m (bent S) := by
  have n1 := gg.n1
  have gl := gg.g.len
  refine ⟨gg.m1, gg.m8, gg.n1, gg.n6, gg.tl, gg.b, gg.t, ?_, fun x hx => ?_, fun x hx => ?_⟩
  · show (bentG S.goals).length = S.begins.length
    unfold bentG
    rw [List.length_append, List.length_take, List.length_singleton]
    omega
  all_goals
    have l0 : S.goals.length - 1 < S.goals.length := by omega
    have e0 : S.goals.getD (S.goals.length - 1) 0 = S.goals[S.goals.length - 1] := by simp [l0]
    have h1 := h _ (List.getElem_mem l0)
    have h2 := gg.g.hi _ (List.getElem_mem l0)
    rcases List.mem_append.mp hx with hx | hx
    · have := gg.g.lo x (List.mem_of_mem_take hx)
      have := gg.g.hi x (List.mem_of_mem_take hx)
      omega
    · have := List.mem_singleton.mp hx
      rw [e0] at this
      omega
theorem atI_last {xs : List V} (h : 0 < xs.length) : atI xs (-1) = xs[xs.length - 1]? := by
  unfold atI ixN
  rw [if_neg (by omega), if_pos (by omega)]
  show xs[((-1 : Int) + (xs.length : Int)).toNat]? = _
  congr 1
  omega
theorem cutV_last (xs : List V) : cutV xs none (some (-1)) = xs.take (xs.length - 1) := by
  unfold cutV
  show (xs.drop 0).take (HT.sIx xs.length xs.length (some (-1)) - 0) = _
  have : HT.sIx xs.length xs.length (some (-1)) = xs.length - 1 := by
    show (if (-1 : Int) < 0 then ((-1 : Int) + (xs.length : Int)).toNat else min (-1 : Int).toNat xs.length) = _
    rw [if_pos (by decide)]
    omega
  rw [this, List.drop_zero, Nat.sub_zero]
def spEqR2 (K : PySem.W.Frag) : Sp := fun vs H Q _ => ∃ (m : Nat) (v v' : V) (S S' : Wg), vs = [.int (m : Int), v, v'] ∧ Dp K H v (dWg S) ∧ Dp K H v' (dWg S') ∧ GoodG m S ∧ GoodG m S' ∧ (∀ x ∈ S.goals, -3 ≤ x) ∧ ∀ H', Same H H' → Q (.bl true) H'
theorem ok_l_equal_right (T : Txt K mg A) (U : Funs K A fd) : FnOk P w K mg base CX0 19 A.l_equal_right fd.l_equal_right p_l_equal_right (spEqR2 K) := by
  have b_Weigher_eq := U.b_Weigher_eq
  have G_Weigher_eq := ok_Weigher_eq (P := P) (w := w) (base := base) T U
  have b_Weigher_init := U.b_Weigher_init
  have G_Weigher_init := ok_Weigher_init (P := P) (w := w) (base := base) T U
  have b_l_made := U.b_l_made
  have G_l_made := ok_l_made (P := P) (w := w) (base := base) T U
  have kn_Weigher_goals_tables_begins_signs := kn_Weigher_goals_tables_begins_signs_of (U.F_Weigher_init)
  refine U.F_l_equal_right.ok sc_l_equal_right (fun vs H Q E h => ?_) (fun cdv A0 outer s H vs Q E hr h => ?_)
  · obtain ⟨m, v, v', S, S', rfl, _⟩ := h
    rfl
  · have hu := hu_of hr
    obtain ⟨m, v, v', S, S', rfl, hd, hd', gg, gg', g3, k⟩ := h
    refine ⟨_, (pss_cons (ps_par (i := 3) (j := 4) (by rfl) sc_l_equal_right.nd rfl rfl (by decide) rfl rfl (pa_cons (pe_call G_l_made (hr.mono (by decide)) (by rfl) T.m_l_made T.k_l_made b_l_made .nil pass0 (pa_cons (pv 0) (pa_cons (pv 1) pa_nil))) (pa_cons (pe_call G_l_made (hr.mono (by decide)) (by rfl) T.m_l_made T.k_l_made b_l_made .nil pass0 (pa_cons (pv 0) (pa_cons (pv 2) pa_nil))) pa_nil)) (by rfl))
       (pss_cons (ps_if (PW.pt (pw_or (pt_cmpR op_ne (pe_cmpR (op_eqO G_Weigher_eq (hr.mono (by decide)) T.own_eq T.isf_eq b_Weigher_eq pass0) (pv 3) (pv 4) (nomark _)) (pe_cmpR (w_eqD (K := K) hr.units) (pv 1) (pv 2) (nomark _)) (nomark _)) (pw_or1 (pt_cmpR op_ne (pe_cmpR (op_neO G_Weigher_eq (hr.mono (by decide)) T.own_eq T.isf_eq T.own_ne T.t_mo b_Weigher_eq pass0) (pv 3) (pv 4) (nomark _)) (pe_cmpR (w_neD (K := K) hr.units) (pv 1) (pv 2) (nomark _)) (nomark _))))) (pss_one (ps_ret pe_bl)) pss_nil)
       (pss_cons (ps_asg (pv 1) (w_tup (K := K) (n := 3) rfl (pgs_cons (pg_name (i := 5) sc_l_equal_right.nd rfl (Or.inl rfl)) (pgs_cons (pg_name (i := 6) sc_l_equal_right.nd rfl (Or.inl rfl)) (pgs_cons (pg_name (i := 7) sc_l_equal_right.nd rfl (Or.inl rfl)) pgs_nil)))))
       (pss_cons (ps_set (i := 8) sc_l_equal_right.nd rfl (Or.inl rfl) (pe_makeK0 T.mk_Weigher G_Weigher_init (hr.mono (by decide)) (by rfl) T.m_Weigher kn_Weigher_goals_tables_begins_signs pass0 (pk_cons (pv 7) (pk_cons (pv 6) (pk_cons (pv 5) (pk_cons (pv 0) pk_nil))))))
       (pss_cons (ps_set (i := 9) sc_l_equal_right.nd rfl (Or.inl rfl) (pe_make T.mk_Weigher G_Weigher_init (hr.mono (by decide)) (by rfl) T.m_Weigher b_Weigher_init .nil pass0 (pa_cons (pv 0) (pa_cons (pv 5) (pa_cons (pv 6) (pa_cons (pe_op (w_catU (K := K)) (pe_slice (w_slT (K := K)) (pv 7) po_none (po_some (pe_un un_neg pe_int))) (pe_tup (pa_cons (pe_op op_sub (pe_ix (w_ixT (K := K)) (pv 7) (pe_un un_neg pe_int) (fun _ _ => rfl)) pe_int) pa_nil))) pa_nil))))))
       (pss_one (ps_ret (pe_and (pe_cmpR (op_eqO G_Weigher_eq (hr.mono (by decide)) T.own_eq T.isf_eq b_Weigher_eq pass0) (pv 8) (pv 3) (nomark _)) (pe_and (pe_cmpR (op_neO G_Weigher_eq (hr.mono (by decide)) T.own_eq T.isf_eq T.own_ne T.t_mo b_Weigher_eq pass0) (pv 9) (pv 3) (nomark _)) (pe_and (pe_cmpR (op_neO G_Weigher_eq (hr.mono (by decide)) T.own_eq T.isf_eq T.own_ne T.t_mo b_Weigher_eq pass0) (pv 3) (pv 1) (nomark _)) (pe_one (pe_callTy (call_boolO T.nb T.nl) (by rfl) T.b_bool (by decide +kernel) (pa_cons (pv 3) pa_nil))))))))))))), ?_⟩
    refine ⟨_, rfl, _, rfl, v, m, S, rfl, hd, gg, fun q H1 hq s1 W => ?_⟩
    refine ⟨_, rfl, _, rfl, v', m, S', rfl, dp_mono s1 _ _ hd', gg', fun q' H2 hq' s2 W' => ⟨_, _, rfl, ?_⟩⟩
    have W := W.mono s2
    have s02 := s1.trans s2
    have hd := dp_mono s02 _ _ hd
    have hd' := dp_mono s02 _ _ hd'
    obtain ⟨dx, aw, at_, ag, w1, _⟩ := W.ob
    obtain ⟨dx', aw', at', ag', w1', _⟩ := W'.ob
    have bes : Beside K A.C (.ref q') H2 := .inl ⟨q', A.C, dx', _, rfl, w1', T.nf_Weigher⟩
    refine ⟨_, rfl, _, rfl, q, dx, _, rfl, w1, bes, q, m, S, .ref q', rfl, W, .inl ⟨q', m, S', rfl, W', _, rfl, ?_⟩⟩
    refine ⟨_, rfl, _, rfl, _, _, hd, hd', wg_shaped _, wg_shaped _, rfl, _, rfl, ?_⟩
    rw [if_neg Bool.false_ne_true, eqG_wg, decide_eq_true rfl]
    refine iteF ?_
    refine ⟨_, rfl, _, rfl, q, dx, _, rfl, w1, bes, q, m, S, .ref q', rfl, W, .inl ⟨q', m, S', rfl, W', _, rfl, ?_⟩⟩
    refine ⟨_, rfl, _, rfl, _, _, hd, hd', wg_shaped _, wg_shaped _, rfl, _, rfl, ?_⟩
    rw [if_pos rfl, eqG_wg, decide_eq_true rfl]
    refine iteF (g_next ?_)
    obtain ⟨a, xa, xt, xg, rfl, hx, h1, h2, h3⟩ := wg_at hd
    refine ⟨_, rfl, a, _, rfl, hx, rfl, _, _, rfl, _, _, rfl, _, _, rfl, rfl, ?_⟩
    refine ⟨_, rfl, _, rfl, _, rfl, _, rfl, rfl, rfl, fun x dr hxn hdn hne => ?_⟩
    have s3 : Same H2 (upd (upd H2 dr (.own x)) x (.ins A.C dr [])) := same_new2 hxn hdn
    refine ⟨x, dr, xa, xt, xg, m, S, rfl, upd_same, dp_mono s3 _ _ h1, dp_mono s3 _ _ h2, dp_mono s3 _ _ h3, gg, fun H3 hk hx3 => ⟨rfl, ?_⟩⟩
    have s23 : Same H2 H3 := same_made hxn hdn hk
    have Wx : WgAt K A.C H3 x m S := ⟨dr, xa, xt, xg, hx3, dp_mono s23 _ _ h1, dp_mono s23 _ _ h2, dp_mono s23 _ _ h3⟩
    obtain ⟨_, xs, e1, hxg, hds⟩ := dp_tup (dp_mono s23 _ _ h3)
    obtain rfl := V.ref.inj e1
    obtain rfl := dps_ints hds
    have gl := gg.g.len
    have n1 := gg.n1
    have n6 := gg.n6
    have l0 : S.goals.length - 1 < S.goals.length := by omega
    have e0 : S.goals.getD (S.goals.length - 1) 0 = S.goals[S.goals.length - 1] := by simp [l0]
    refine ⟨_, rfl, _, rfl, _, rfl, ?_⟩
    refine g_arg (g_viaP (fun v H5 => ∃ g', v = .ref g' ∧ Same H3 H5 ∧ Dp K H5 v (dWs (bentG S.goals))) (fun Q' rest => ?_) ?_)
    · refine ⟨_, rfl, _, rfl, ?_⟩
      have hlen : (S.goals.map V.int).length = S.goals.length := List.length_map _
      refine ⟨-1, rfl, xg, _, rfl, hxg, fun z => ?_, fun p hp => ?_⟩
      · have z2 := z.2
        have : HT.sIx (S.goals.map V.int).length (S.goals.map V.int).length (some (-1)) = (S.goals.map V.int).length - 1 := by
          show (if (-1 : Int) < 0 then ((-1 : Int) + ((S.goals.map V.int).length : Int)).toNat else min (-1 : Int).toNat (S.goals.map V.int).length) = _
          rw [if_pos (by decide)]
          omega
        rw [this] at z2
        omega
      · rw [cutV_last, hlen, ← List.map_take]
        have sp := same_upd (o := .tup ((S.goals.take (S.goals.length - 1)).map V.int)) hp
        refine ⟨_, rfl, 1, rfl, xg, _, _, _, rfl, rfl, sqT_mono sp hxg, (by
          show atI (S.goals.map V.int) (-1) = some (.int S.goals[S.goals.length - 1])
          rw [atI_last (by omega), hlen]
          simp [l0]), _, _, rfl, rfl, by show 1 ≤ sizeLine; decide, fun p2 hp2 => ?_⟩
        have np : p ≠ p2 := ne_of_none upd_same hp2
        have sp2 := same_upd (o := .tup [.int (S.goals[S.goals.length - 1] - 1)]) hp2
        have lt : ((S.goals.take (S.goals.length - 1)).map V.int).length = S.goals.length - 1 := by rw [List.length_map, List.length_take]; omega
        have eb : bentG S.goals = S.goals.take (S.goals.length - 1) ++ [S.goals[S.goals.length - 1] - 1] := by unfold bentG; rw [e0]
        refine ⟨p, p2, (S.goals.take (S.goals.length - 1)).map V.int, [.int (S.goals[S.goals.length - 1] - 1)], rfl, rfl, sqT_mono sp2 (tup_of upd_same), tup_of upd_same, (fun z => by cases z), szl (by rw [lt]; show S.goals.length - 1 + 1 ≤ 100000; omega), fun z => ?_, fun z p3 hp3 => ?_⟩
        · have z2 : S.goals.take (S.goals.length - 1) = [] := List.map_eq_nil_iff.mp z
          rw [z2, List.nil_append] at eb
          refine rest _ _ ⟨p2, rfl, sp.trans sp2, ?_⟩
          rw [eb]
          exact .tup (tup_of upd_same) (.cons (.int _) .nil)
        · refine rest _ _ ⟨p3, rfl, (sp.trans sp2).trans (same_upd hp3), ?_⟩
          rw [eb]
          refine .tup (tup_of upd_same) ?_
          have := ints_dps (K := K) (H := upd (upd (upd H3 p (.tup ((S.goals.take (S.goals.length - 1)).map V.int))) p2 (.tup [.int (S.goals[S.goals.length - 1] - 1)])) p3 (.tup ((S.goals.take (S.goals.length - 1)).map V.int ++ [.int (S.goals[S.goals.length - 1] - 1)]))) (S.goals.take (S.goals.length - 1) ++ [S.goals[S.goals.length - 1] - 1])
          rw [List.map_append] at this
          exact this
    · rintro v H5 ⟨g', rfl, s35, dg⟩
      intro z dz hzn hdzn hnez
      have s25 := s23.trans s35
      have s5 : Same H5 (upd (upd H5 dz (.own z)) z (.ins A.C dz [])) := same_new2 hzn hdzn
      refine ⟨z, dz, xa, xt, g', m, bent S, rfl, upd_same, dp_mono (s25.trans s5) _ _ h1, dp_mono (s25.trans s5) _ _ h2, dp_mono s5 _ _ dg, bent_good gg g3, fun H6 hk6 hz6 => ⟨rfl, ?_⟩⟩
      have s56 : Same H5 H6 := same_made hzn hdzn hk6
      have s36 := s35.trans s56
      have s26 := s23.trans s36
      have Wz : WgAt K A.C H6 z m (bent S) := ⟨dz, xa, xt, g', hz6, dp_mono (s25.trans s56) _ _ h1, dp_mono (s25.trans s56) _ _ h2, dp_mono s56 _ _ dg⟩
      have Wx6 := Wx.mono s36
      have Wq := W.mono s26
      have hx6 := s36 _ _ hx3
      have hq6 := s26 _ _ w1
      have ha6 := sqT_mono s26 hx
      have bq : Beside K A.C (.ref q) H6 := .inl ⟨q, A.C, dx, _, rfl, hq6, T.nf_Weigher⟩
      refine ⟨_, rfl, _, rfl, x, dr, _, rfl, hx6, bq, x, m, S, .ref q, rfl, Wx6, .inl ⟨q, m, S, rfl, Wq, _, rfl, _, rfl, ?_⟩⟩
      rw [if_neg Bool.false_ne_true, eqG_same]
      refine iteT ?_
      refine ⟨_, rfl, _, rfl, z, dz, _, rfl, hz6, bq, z, m, bent S, .ref q, rfl, Wz, .inl ⟨q, m, S, rfl, Wq, _, rfl, _, rfl, ?_⟩⟩
      rw [if_pos rfl, eqG_bent (by omega)]
      refine iteT ?_
      refine ⟨_, rfl, _, rfl, q, dx, _, rfl, hq6, .inr ⟨a, _, rfl, ha6, T.nf_tuple⟩, q, m, S, .ref a, rfl, Wq, .inr ⟨a, _, rfl, ha6, _, rfl, _, rfl, ?_⟩⟩
      refine iteT ?_
      exact ⟨_, rfl, q, dx, _, rfl, hq6, k H6 (s02.trans s26)⟩
end K6


set_option Elab.async false
set_option linter.all false
set_option maxRecDepth 100000
set_option maxHeartbeats 4000000
namespace K6
open PySem PySem.Spec PyProof.Rows L2 Rw
variable {P : Program} {w : World} {K : PySem.W.Frag} {mg : Str → Option Value} {base : Heap} {A : Ad} {fd : Fds}
def spRight : Sp := fun vs H Q _ => ∃ b : Addr, vs = [.ref b] ∧ BarAt H b ∧ ∀ H', Keep b H H' → BarAt H' b → Q (.bl true) H'
theorem ok_l_right (T : Txt K mg A) (U : Funs K A fd) : FnOkG P w K mg base 22 A.l_right fd.l_right p_l_right (spRight) := by
  have b_l_equal_right := U.b_l_equal_right
  have G_l_equal_right := ok_l_equal_right (P := P) (w := w) (base := base) T U
  have b_l_one_right := U.b_l_one_right
  have G_l_one_right := ok_l_one_right (P := P) (w := w) (base := base) T U
  have b_l_pour := U.b_l_pour
  have G_l_pour := ok_l_pour (P := P) (w := w) (base := base) T U
  have b_l_parts := U.b_l_parts
  have G_l_parts := ok_l_parts (P := P) (w := w) (base := base) T U
  have b_l_pick := U.b_l_pick
  have G_l_pick := ok_l_pick (P := P) (w := w) (base := base) T U
  refine okG U.F_l_right sc_l_right (fun vs H Q E h => ?_) (fun cdv A0 outer s H vs Q E hg hr h => ?_)
  · obtain ⟨b, rfl, _⟩ := h
    rfl
  · have hu := hu_of hr
    obtain ⟨b, rfl, B, k⟩ := h
    refine ⟨_, (pss_cons (ps_for PassesOwn.never rfl (pi_range1 (by rfl) T.b_range (pa_cons pe_int pa_nil)) (pg_name (i := 1) sc_l_right.nd rfl (Or.inl rfl))
       (pss_cons (ps_set (i := 2) sc_l_right.nd rfl (Or.inl rfl) (pe_call G_l_pick (hr.mono (by decide)) (by rfl) T.m_l_pick T.k_l_pick b_l_pick .nil pass0 (pa_cons (pv 0) (pa_cons (pe_lst (pa_cons pe_int (pa_cons pe_int (pa_cons pe_int (pa_cons pe_int pa_nil))))) pa_nil))))
       (pss_cons (ps_par (i := 3) (j := 4) (by rfl) sc_l_right.nd rfl rfl (by decide) rfl rfl (pa_cons (pe_call G_l_parts (hr.mono (by decide)) (by rfl) T.m_l_parts T.k_l_parts b_l_parts .nil pass0 (pa_cons (pv 0) (pa_cons (pv 2) (pa_cons pe_int pa_nil)))) (pa_cons (pe_call G_l_parts (hr.mono (by decide)) (by rfl) T.m_l_parts T.k_l_parts b_l_parts .nil pass0 (pa_cons (pv 0) (pa_cons (pv 2) (pa_cons pe_int pa_nil)))) pa_nil)) (by rfl))
       (pss_cons (ps_set (i := 4) sc_l_right.nd rfl (Or.inl rfl) (pe_ifExp (pt_cmpR op_eq (pe_call G_l_pour (hr.mono (by decide)) (by rfl) T.m_l_pour T.k_l_pour b_l_pour .nil pass0 (pa_cons (pv 0) (pa_cons pe_int pa_nil))) pe_int (nomark _)) (pv 3) (pv 4)))
       (pss_one (ps_if (PW.pt (pw_or (pt_not (pt_val (pe_callG G_l_one_right hg (hr.mono (by decide)) (by rfl) T.m_l_one_right T.k_l_one_right b_l_one_right (pa_cons (pv 0) (pa_cons (pv 2) (pa_cons (pv 3) pa_nil)))))) (pw_or1 (pt_not (pt_val (pe_call G_l_equal_right (hr.mono (by decide)) (by rfl) T.m_l_equal_right T.k_l_equal_right b_l_equal_right .nil pass0 (pa_cons (pv 2) (pa_cons (pv 3) (pa_cons (pv 4) pa_nil))))))))) (pss_one (ps_ret pe_bl)) pss_nil))))))
       (pss_one (ps_ret pe_bl))), ?_⟩
    refine ⟨3, rfl, by omega, by omega, ?_⟩
    refine for_range (lo := 0) (n := 3) (fun i σ H' => ∃ y1 y2 y3 y4, σ = [some (.ref b), y1, y2, y3, y4] ∧ Keep b H H' ∧ BarAt H' b) ?_ ?_ ?_
    · exact ⟨none, none, none, none, rfl, Keep.refl _ _, B⟩
    · rintro i σ H0 hi ⟨y1, y2, y3, y4, rfl, k0, B0⟩
      refine ⟨_, rfl, by show 4 ≤ sizeLine; decide, fun m hm => ?_⟩
      have nem : m ≠ b := bar_ne B0 hm
      have Bm := bar_upd (o := .lst [.int 2, .int 2, .int 1, .int 3]) B0 nem
      refine ⟨b, _, rfl, Bm, .inl ⟨m, [.int 2, .int 2, .int 1, .int 3], rfl, lst_of (by rw [del_ne nem]; exact upd_same), by decide, by decide, fun x H1 hx kp1 B1 => ?_⟩⟩
      obtain ⟨n, n1, n3, rfl⟩ : ∃ n : Nat, 1 ≤ n ∧ n ≤ 3 ∧ x = .int (n : Int) := by
        simp at hx
        rcases hx with rfl | rfl | rfl
        · exact ⟨2, by decide, by decide, rfl⟩
        · exact ⟨1, by decide, by decide, rfl⟩
        · exact ⟨3, by decide, by decide, rfl⟩
      have k1 : Keep b H H1 := k0.trans ((Keep.of (same_upd hm)).trans kp1)
      refine ⟨_, rfl, _, rfl, b, n, rfl, B1, n1, by omega, fun p S H2 dp gs l3 g3 kp2 B2 => ?_⟩
      refine ⟨_, rfl, _, rfl, b, n, rfl, B2, n1, by omega, fun p' S' H3 dp' gs' l3' g3' kp3 B3 => ⟨_, _, rfl, ?_⟩⟩
      have dp3 := dp_mono kp3 _ _ dp
      have k3 := (k1.trans kp2).trans kp3
      dsimp only
      refine g_seq (g_asg (g_viaP (fun v H2 => Keep b H3 H2 ∧ BarAt H2 b ∧ ∃ S2, Dp K (del b H3) v (dWg S2) ∧ GoodG n S2) (fun Q' rest => ?_) ?_))
      · refine ⟨_, rfl, b, 3, rfl, B3, by decide, by decide, fun r1 H4 _ k4 B4 => ⟨rfl, _, rfl, ?_⟩⟩
        by_cases c : decide (V.int (r1 : Int) = V.int 0) = true
        · rw [c]
          exact iteT ⟨_, rfl, rest _ H4 ⟨k4, B4, S, dp3, gs⟩⟩
        · rw [Bool.eq_false_iff.mpr c]
          exact iteF ⟨_, rfl, rest _ H4 ⟨k4, B4, S', dp', gs'⟩⟩
      · rintro v4 H4 ⟨k4, B4, S2, dv, gs2⟩
        refine ⟨_, rfl, _, rfl, _, rfl, b, n, _, S, rfl, B4, dp_mono k4 _ _ dp3, gs, n3, l3, fun H5 k5 B5 => ⟨_, rfl, iteF ?_⟩⟩
        have d5 := dp_mono (Same.trans (Same.trans k4 k5) (del_same b)) _ _ dp3
        have d5' := dp_mono (Same.trans (Same.trans k4 k5) (del_same b)) _ _ dv
        refine ⟨_, rfl, _, rfl, _, rfl, n, _, _, S, S2, rfl, d5, d5', gs, gs2, g3, fun H6 s6 => ⟨_, rfl, iteF (g_next ?_)⟩⟩
        exact ⟨_, _, _, _, rfl, ((k3.trans k4).trans k5).trans (Keep.of s6), bar_same B5 s6⟩
    · rintro σ H0 ⟨y1, y2, y3, y4, rfl, k0, B0⟩
      exact k H0 k0 B0
def spLaw (K : PySem.W.Frag) : Sp := fun vs H Q _ => ∃ (a : Addr) (ns : List Int), vs = [.ref a] ∧ SqL K H a (ns.map V.int) ∧ ns.length ≤ 63 ∧ ∀ H', Q (.bl true) H'
theorem ok_law (T : Txt K mg A) (U : Funs K A fd) : FnOkG P w K mg base 25 A.law fd.law p_law (spLaw K) := by
  have b_l_right := U.b_l_right
  have G_l_right := ok_l_right (P := P) (w := w) (base := base) T U
  have b_l_flask := U.b_l_flask
  have G_l_flask := ok_l_flask (P := P) (w := w) (base := base) T U
  refine okG U.F_law sc_law (fun vs H Q E h => ?_) (fun cdv A0 outer s H vs Q E hg hr h => ?_)
  · obtain ⟨a, ns, rfl, _⟩ := h
    rfl
  · have hu := hu_of hr
    obtain ⟨a, ns, rfl, hS, hn, k⟩ := h
    refine ⟨_, (pss_one (ps_ret (pe_callB (w_all (K := K) rfl) (by rfl) T.b_all (by decide +kernel) (pa_cons (pe_lc (own := [("_law_k", 1)]) (g := gName 1) (tt := tYes) (by rfl) sc_law.nd (pi_range1 (by rfl) T.b_range (pa_cons (pe_callB (call_max2 rfl) (by rfl) T.b_max (by decide +kernel) (pa_cons pe_int (pa_cons (pe_callB (call_min2 rfl) (by rfl) T.b_min (by decide +kernel) (pa_cons (pe_callB (w_len (K := K)) (by rfl) T.b_len (by decide +kernel) (pa_cons (pv 0) pa_nil)) (pa_cons pe_int pa_nil))) pa_nil))) pa_nil)) (blkOk_by (own := [("_law_k", 1)]) (by rfl)) (fun _ _ _ _ _ => (pg_name (i := 1) sc_law.nd rfl (Or.inl rfl))) (fun _ _ _ _ _ => pts_nil) (fun _ _ _ _ _ => (pe_callG G_l_right hg (hr.mono (by decide)) (by rfl) T.m_l_right T.k_l_right b_l_right (pa_cons (pe_call G_l_flask (hr.mono (by decide)) (by rfl) T.m_l_flask T.k_l_flask b_l_flask .nil pass0 (pa_cons (pv 0) (pa_cons (pv 1) pa_nil))) pa_nil)))) pa_nil)))), ?_⟩
    refine ⟨_, rfl, _, _, rfl, .inl ⟨_, hS, rfl⟩, _, _, rfl, _, _, rfl, ?_⟩
    obtain ⟨m, hm, em⟩ : ∃ m : Nat, m ≤ 5 ∧ (if (if (3 : Int) < ((ns.map V.int).length : Int) then (3 : Int) else ((ns.map V.int).length : Int)) > 2 then (if (3 : Int) < ((ns.map V.int).length : Int) then (3 : Int) else ((ns.map V.int).length : Int)) else 2) = (m : Int) := by
      by_cases c : (3 : Int) < ((ns.map V.int).length : Int)
      · exact ⟨3, by decide, by rw [if_pos c]; rfl⟩
      · rw [if_neg c]
        by_cases c2 : ((ns.map V.int).length : Int) > 2
        · exact ⟨(ns.map V.int).length, by omega, if_pos c2⟩
        · exact ⟨2, by decide, if_neg c2⟩
    refine ⟨(m : Int), by rw [← em] <;> rfl, by omega, by omega, fun D hD => ?_⟩
    rw [Int.toNat_natCast]
    refine lc_range (lo := 0) (n := m) (fun i H' => Same H H' ∧ H' D = some (.lst (List.replicate i (.bl true)))) ?_ ?_ ?_
    · exact ⟨same_upd hD, upd_same⟩
    · rintro i H1 hi ⟨s1, h1⟩
      refine ⟨rfl, yes_go ?_⟩
      rw [show (0 : Int) + (i : Int) = (i : Int) by omega]
      refine ⟨_, rfl, _, rfl, a, ns, i, rfl, sqL_mono s1 hS, hn, by omega, fun b H2 hb s2 B2 => ?_⟩
      refine ⟨b, rfl, B2, fun H3 kp _ => ?_⟩
      have s3 : Same H1 H3 := fun x o hx => kp.get (ne_of_none hx hb) (s2 _ _ hx)
      refine ⟨_, s3 _ _ h1, szt (by rw [List.length_replicate]; omega), same_put (s1.trans s3) hD, ?_⟩
      rw [upd_same, List.replicate_succ']
    · rintro H1 ⟨s1, h1⟩
      refine ⟨D, List.replicate m true, rfl, lst_of (by rw [← bls]; exact h1), ?_⟩
      rw [all_true]
      exact k H1
end K6


set_option Elab.async false
set_option linter.all false
set_option maxRecDepth 100000
set_option maxHeartbeats 4000000
namespace K6
open PySem PySem.Spec PyProof.Rows L2 Rw
/-! ### what the top has written -/
theorem all_mk {P : Program} {w : World} {K : PySem.W.Frag} {h : Heap} {mg : Str → Option Value} {fa C g_Weigher_begins g_Weigher_eq g_Weigher_goals g_Weigher_init g_Weigher_signs g_Weigher_size g_Weigher_tables g_check_length g_check_row g_check_signs g_check_weigher g_dot g_is_between g_is_integer g_is_row g_is_table g_is_weights g_l_equal_right g_l_flask g_l_made g_l_one_right g_l_parts g_l_pick g_l_pour g_l_right g_l_value g_l_words g_law g_total g_turned_table g_value pp_Weigher_begins pp_Weigher_goals pp_Weigher_signs pp_Weigher_size pp_Weigher_tables : Addr} (X : K.In h) (G : h.Ns mainGlobals mg) (hfa : mg "law" = some (.ref fa))
    {q_Weigher_signs : List Value}
    {q_Weigher_size : List Value}
    {q_Weigher_begins : List Value}
    {q_Weigher_tables : List Value}
    {q_Weigher_goals : List Value}
    {od0 an0 : Option Addr} {sl0 : Array (Option Value)} {oc0 kV0 dc0 pm0 cd0 ct0 : Value}
    {od1 an1 : Option Addr} {sl1 : Array (Option Value)} {oc1 kV1 dc1 pm1 cd1 ct1 : Value}
    {od2 an2 : Option Addr} {sl2 : Array (Option Value)} {oc2 kV2 dc2 pm2 cd2 ct2 : Value}
    {od3 an3 : Option Addr} {sl3 : Array (Option Value)} {oc3 kV3 dc3 pm3 cd3 ct3 : Value}
    {od4 an4 : Option Addr} {sl4 : Array (Option Value)} {oc4 kV4 dc4 pm4 cd4 ct4 : Value}
    {od5 an5 : Option Addr} {sl5 : Array (Option Value)} {oc5 kV5 dc5 pm5 cd5 ct5 : Value}
    {od6 an6 : Option Addr} {sl6 : Array (Option Value)} {oc6 kV6 dc6 pm6 cd6 ct6 : Value}
    {od7 an7 : Option Addr} {sl7 : Array (Option Value)} {oc7 kV7 dc7 pm7 cd7 ct7 : Value}
    {od8 an8 : Option Addr} {sl8 : Array (Option Value)} {oc8 kV8 dc8 pm8 cd8 ct8 : Value}
    {od9 an9 : Option Addr} {sl9 : Array (Option Value)} {oc9 kV9 dc9 pm9 cd9 ct9 : Value}
    {od10 an10 : Option Addr} {sl10 : Array (Option Value)} {oc10 kV10 dc10 pm10 cd10 ct10 : Value}
    {od11 an11 : Option Addr} {sl11 : Array (Option Value)} {oc11 kV11 dc11 pm11 cd11 ct11 : Value}
    {od12 an12 : Option Addr} {sl12 : Array (Option Value)} {oc12 kV12 dc12 pm12 cd12 ct12 : Value}
    {od13 an13 : Option Addr} {sl13 : Array (Option Value)} {oc13 kV13 dc13 pm13 cd13 ct13 : Value}
    {od14 an14 : Option Addr} {sl14 : Array (Option Value)} {oc14 kV14 dc14 pm14 cd14 ct14 : Value}
    {od15 an15 : Option Addr} {sl15 : Array (Option Value)} {oc15 kV15 dc15 pm15 cd15 ct15 : Value}
    {od16 an16 : Option Addr} {sl16 : Array (Option Value)} {oc16 kV16 dc16 pm16 cd16 ct16 : Value}
    {od17 an17 : Option Addr} {sl17 : Array (Option Value)} {oc17 kV17 dc17 pm17 cd17 ct17 : Value}
    {od18 an18 : Option Addr} {sl18 : Array (Option Value)} {oc18 kV18 dc18 pm18 cd18 ct18 : Value}
    {od19 an19 : Option Addr} {sl19 : Array (Option Value)} {oc19 kV19 dc19 pm19 cd19 ct19 : Value}
    {od20 an20 : Option Addr} {sl20 : Array (Option Value)} {oc20 kV20 dc20 pm20 cd20 ct20 : Value}
    {od21 an21 : Option Addr} {sl21 : Array (Option Value)} {oc21 kV21 dc21 pm21 cd21 ct21 : Value}
    {od22 an22 : Option Addr} {sl22 : Array (Option Value)} {oc22 kV22 dc22 pm22 cd22 ct22 : Value}
    {od23 an23 : Option Addr} {sl23 : Array (Option Value)} {oc23 kV23 dc23 pm23 cd23 ct23 : Value}
    {od24 an24 : Option Addr} {sl24 : Array (Option Value)} {oc24 kV24 dc24 pm24 cd24 ct24 : Value}
    {od25 an25 : Option Addr} {sl25 : Array (Option Value)} {oc25 kV25 dc25 pm25 cd25 ct25 : Value}
    {od26 an26 : Option Addr} {sl26 : Array (Option Value)} {oc26 kV26 dc26 pm26 cd26 ct26 : Value}
    {od27 an27 : Option Addr} {sl27 : Array (Option Value)} {oc27 kV27 dc27 pm27 cd27 ct27 : Value}
    {od28 an28 : Option Addr} {sl28 : Array (Option Value)} {oc28 kV28 dc28 pm28 cd28 ct28 : Value}
    {od29 an29 : Option Addr} {sl29 : Array (Option Value)} {oc29 kV29 dc29 pm29 cd29 ct29 : Value}
    {od30 an30 : Option Addr} {sl30 : Array (Option Value)} {oc30 kV30 dc30 pm30 cd30 ct30 : Value}
    {tc_ALPHABET tc_MOST_ROW tc_MOST_SIGNS tc_MOST_SIZE tc_MOST_WEIGHT : Tok}
    (aC : PySem.W.nsIn K mainGlobals "Weigher" = some (some (.ref C)))
    (a_is_integer : PySem.W.nsIn K mainGlobals "is_integer" = some (some (.ref g_is_integer)))
    (a_is_between : PySem.W.nsIn K mainGlobals "is_between" = some (some (.ref g_is_between)))
    (a_is_row : PySem.W.nsIn K mainGlobals "is_row" = some (some (.ref g_is_row)))
    (a_check_signs : PySem.W.nsIn K mainGlobals "check_signs" = some (some (.ref g_check_signs)))
    (a_check_row : PySem.W.nsIn K mainGlobals "check_row" = some (some (.ref g_check_row)))
    (a_check_length : PySem.W.nsIn K mainGlobals "check_length" = some (some (.ref g_check_length)))
    (a_dot : PySem.W.nsIn K mainGlobals "dot" = some (some (.ref g_dot)))
    (a_Weigher_init : PySem.W.findIn K (.ref C) "__init__" = some (some (.ref g_Weigher_init)))
    (j_Weigher_init : PySem.W.isFn K (.ref g_Weigher_init) = true)
    (a_Weigher_eq : PySem.W.findIn K (.ref C) "__eq__" = some (some (.ref g_Weigher_eq)))
    (j_Weigher_eq : PySem.W.isFn K (.ref g_Weigher_eq) = true)
    (a_is_weights : PySem.W.nsIn K mainGlobals "is_weights" = some (some (.ref g_is_weights)))
    (a_is_table : PySem.W.nsIn K mainGlobals "is_table" = some (some (.ref g_is_table)))
    (a_check_weigher : PySem.W.nsIn K mainGlobals "check_weigher" = some (some (.ref g_check_weigher)))
    (a_turned_table : PySem.W.nsIn K mainGlobals "turned_table" = some (some (.ref g_turned_table)))
    (a_value : PySem.W.nsIn K mainGlobals "value" = some (some (.ref g_value)))
    (a_total : PySem.W.nsIn K mainGlobals "total" = some (some (.ref g_total)))
    (a_l_flask : PySem.W.nsIn K mainGlobals "_law_flask" = some (some (.ref g_l_flask)))
    (a_l_pour : PySem.W.nsIn K mainGlobals "_law_pour" = some (some (.ref g_l_pour)))
    (a_l_pick : PySem.W.nsIn K mainGlobals "_law_pick" = some (some (.ref g_l_pick)))
    (a_l_parts : PySem.W.nsIn K mainGlobals "_law_parts" = some (some (.ref g_l_parts)))
    (a_l_value : PySem.W.nsIn K mainGlobals "_law_value" = some (some (.ref g_l_value)))
    (a_l_made : PySem.W.nsIn K mainGlobals "_law_made" = some (some (.ref g_l_made)))
    (a_l_words : PySem.W.nsIn K mainGlobals "_law_words" = some (some (.ref g_l_words)))
    (a_l_one_right : PySem.W.nsIn K mainGlobals "_law_one_right" = some (some (.ref g_l_one_right)))
    (a_l_equal_right : PySem.W.nsIn K mainGlobals "_law_equal_right" = some (some (.ref g_l_equal_right)))
    (a_l_right : PySem.W.nsIn K mainGlobals "_law_right" = some (some (.ref g_l_right)))
    (a_law : PySem.W.nsIn K mainGlobals "law" = some (some (.ref g_law)))
    (u_Weigher_signs : PySem.W.findIn K (.ref C) "signs" = some (some (.ref pp_Weigher_signs)))
    (v_Weigher_signs : PySem.W.specialIn K (.ref pp_Weigher_signs) "__get__" = some (some (.builtin "property.__get__")))
    (w_Weigher_signs : PySem.W.takesIn K (.ref pp_Weigher_signs) = some true)
    (x_Weigher_signs : PySem.W.recIn K pp_Weigher_signs "property" = some (.ref g_Weigher_signs :: q_Weigher_signs))
    (u_Weigher_size : PySem.W.findIn K (.ref C) "size" = some (some (.ref pp_Weigher_size)))
    (v_Weigher_size : PySem.W.specialIn K (.ref pp_Weigher_size) "__get__" = some (some (.builtin "property.__get__")))
    (w_Weigher_size : PySem.W.takesIn K (.ref pp_Weigher_size) = some true)
    (x_Weigher_size : PySem.W.recIn K pp_Weigher_size "property" = some (.ref g_Weigher_size :: q_Weigher_size))
    (u_Weigher_begins : PySem.W.findIn K (.ref C) "begins" = some (some (.ref pp_Weigher_begins)))
    (v_Weigher_begins : PySem.W.specialIn K (.ref pp_Weigher_begins) "__get__" = some (some (.builtin "property.__get__")))
    (w_Weigher_begins : PySem.W.takesIn K (.ref pp_Weigher_begins) = some true)
    (x_Weigher_begins : PySem.W.recIn K pp_Weigher_begins "property" = some (.ref g_Weigher_begins :: q_Weigher_begins))
    (u_Weigher_tables : PySem.W.findIn K (.ref C) "tables" = some (some (.ref pp_Weigher_tables)))
    (v_Weigher_tables : PySem.W.specialIn K (.ref pp_Weigher_tables) "__get__" = some (some (.builtin "property.__get__")))
    (w_Weigher_tables : PySem.W.takesIn K (.ref pp_Weigher_tables) = some true)
    (x_Weigher_tables : PySem.W.recIn K pp_Weigher_tables "property" = some (.ref g_Weigher_tables :: q_Weigher_tables))
    (u_Weigher_goals : PySem.W.findIn K (.ref C) "goals" = some (some (.ref pp_Weigher_goals)))
    (v_Weigher_goals : PySem.W.specialIn K (.ref pp_Weigher_goals) "__get__" = some (some (.builtin "property.__get__")))
    (w_Weigher_goals : PySem.W.takesIn K (.ref pp_Weigher_goals) = some true)
    (x_Weigher_goals : PySem.W.recIn K pp_Weigher_goals "property" = some (.ref g_Weigher_goals :: q_Weigher_goals))
    (l_is_integer : K.lookup g_is_integer = some ⟨oc0, od0, .func (PySem.W.fnOf "is_integer" "is_integer" (defArgs s_is_integer) (defBody s_is_integer) (defScope s_is_integer) .none kV0 dc0 pm0 an0 cd0 ct0), sl0⟩)
    (c_is_integer : PySem.W.codeIn K cd0 "is_integer" = true)
    (k_is_integer : PySem.W.keepIn K (.ref g_is_integer) = true)
    (l_is_between : K.lookup g_is_between = some ⟨oc1, od1, .func (PySem.W.fnOf "is_between" "is_between" (defArgs s_is_between) (defBody s_is_between) (defScope s_is_between) .none kV1 dc1 pm1 an1 cd1 ct1), sl1⟩)
    (c_is_between : PySem.W.codeIn K cd1 "is_between" = true)
    (k_is_between : PySem.W.keepIn K (.ref g_is_between) = true)
    (l_is_row : K.lookup g_is_row = some ⟨oc2, od2, .func (PySem.W.fnOf "is_row" "is_row" (defArgs s_is_row) (defBody s_is_row) (defScope s_is_row) .none kV2 dc2 pm2 an2 cd2 ct2), sl2⟩)
    (c_is_row : PySem.W.codeIn K cd2 "is_row" = true)
    (k_is_row : PySem.W.keepIn K (.ref g_is_row) = true)
    (l_check_signs : K.lookup g_check_signs = some ⟨oc3, od3, .func (PySem.W.fnOf "check_signs" "check_signs" (defArgs s_check_signs) (defBody s_check_signs) (defScope s_check_signs) .none kV3 dc3 pm3 an3 cd3 ct3), sl3⟩)
    (c_check_signs : PySem.W.codeIn K cd3 "check_signs" = true)
    (k_check_signs : PySem.W.keepIn K (.ref g_check_signs) = true)
    (l_check_row : K.lookup g_check_row = some ⟨oc4, od4, .func (PySem.W.fnOf "check_row" "check_row" (defArgs s_check_row) (defBody s_check_row) (defScope s_check_row) .none kV4 dc4 pm4 an4 cd4 ct4), sl4⟩)
    (c_check_row : PySem.W.codeIn K cd4 "check_row" = true)
    (k_check_row : PySem.W.keepIn K (.ref g_check_row) = true)
    (l_check_length : K.lookup g_check_length = some ⟨oc5, od5, .func (PySem.W.fnOf "check_length" "check_length" (defArgs s_check_length) (defBody s_check_length) (defScope s_check_length) .none kV5 dc5 pm5 an5 cd5 ct5), sl5⟩)
    (c_check_length : PySem.W.codeIn K cd5 "check_length" = true)
    (k_check_length : PySem.W.keepIn K (.ref g_check_length) = true)
    (l_dot : K.lookup g_dot = some ⟨oc6, od6, .func (PySem.W.fnOf "dot" "dot" (defArgs s_dot) (defBody s_dot) (defScope s_dot) .none kV6 dc6 pm6 an6 cd6 ct6), sl6⟩)
    (c_dot : PySem.W.codeIn K cd6 "dot" = true)
    (k_dot : PySem.W.keepIn K (.ref g_dot) = true)
    (l_Weigher_init : K.lookup g_Weigher_init = some ⟨oc7, od7, .func (PySem.W.fnOf "__init__" "Weigher.__init__" (defArgs s_Weigher_init) (defBody s_Weigher_init) (defScope s_Weigher_init) .none kV7 dc7 pm7 an7 cd7 ct7), sl7⟩)
    (c_Weigher_init : PySem.W.codeIn K cd7 "Weigher.__init__" = true)
    (k_Weigher_init : PySem.W.keepIn K (.ref g_Weigher_init) = true)
    (l_Weigher_signs : K.lookup g_Weigher_signs = some ⟨oc8, od8, .func (PySem.W.fnOf "signs" "Weigher.signs" (defArgs s_Weigher_signs) (defBody s_Weigher_signs) (defScope s_Weigher_signs) .none kV8 dc8 pm8 an8 cd8 ct8), sl8⟩)
    (c_Weigher_signs : PySem.W.codeIn K cd8 "Weigher.signs" = true)
    (k_Weigher_signs : PySem.W.keepIn K (.ref g_Weigher_signs) = true)
    (l_Weigher_size : K.lookup g_Weigher_size = some ⟨oc9, od9, .func (PySem.W.fnOf "size" "Weigher.size" (defArgs s_Weigher_size) (defBody s_Weigher_size) (defScope s_Weigher_size) .none kV9 dc9 pm9 an9 cd9 ct9), sl9⟩)
    (c_Weigher_size : PySem.W.codeIn K cd9 "Weigher.size" = true)
    (k_Weigher_size : PySem.W.keepIn K (.ref g_Weigher_size) = true)
    (l_Weigher_begins : K.lookup g_Weigher_begins = some ⟨oc10, od10, .func (PySem.W.fnOf "begins" "Weigher.begins" (defArgs s_Weigher_begins) (defBody s_Weigher_begins) (defScope s_Weigher_begins) .none kV10 dc10 pm10 an10 cd10 ct10), sl10⟩)
    (c_Weigher_begins : PySem.W.codeIn K cd10 "Weigher.begins" = true)
    (k_Weigher_begins : PySem.W.keepIn K (.ref g_Weigher_begins) = true)
    (l_Weigher_tables : K.lookup g_Weigher_tables = some ⟨oc11, od11, .func (PySem.W.fnOf "tables" "Weigher.tables" (defArgs s_Weigher_tables) (defBody s_Weigher_tables) (defScope s_Weigher_tables) .none kV11 dc11 pm11 an11 cd11 ct11), sl11⟩)
    (c_Weigher_tables : PySem.W.codeIn K cd11 "Weigher.tables" = true)
    (k_Weigher_tables : PySem.W.keepIn K (.ref g_Weigher_tables) = true)
    (l_Weigher_goals : K.lookup g_Weigher_goals = some ⟨oc12, od12, .func (PySem.W.fnOf "goals" "Weigher.goals" (defArgs s_Weigher_goals) (defBody s_Weigher_goals) (defScope s_Weigher_goals) .none kV12 dc12 pm12 an12 cd12 ct12), sl12⟩)
    (c_Weigher_goals : PySem.W.codeIn K cd12 "Weigher.goals" = true)
    (k_Weigher_goals : PySem.W.keepIn K (.ref g_Weigher_goals) = true)
    (l_Weigher_eq : K.lookup g_Weigher_eq = some ⟨oc13, od13, .func (PySem.W.fnOf "__eq__" "Weigher.__eq__" (defArgs s_Weigher_eq) (defBody s_Weigher_eq) (defScope s_Weigher_eq) .none kV13 dc13 pm13 an13 cd13 ct13), sl13⟩)
    (c_Weigher_eq : PySem.W.codeIn K cd13 "Weigher.__eq__" = true)
    (k_Weigher_eq : PySem.W.keepIn K (.ref g_Weigher_eq) = true)
    (l_is_weights : K.lookup g_is_weights = some ⟨oc14, od14, .func (PySem.W.fnOf "is_weights" "is_weights" (defArgs s_is_weights) (defBody s_is_weights) (defScope s_is_weights) .none kV14 dc14 pm14 an14 cd14 ct14), sl14⟩)
    (c_is_weights : PySem.W.codeIn K cd14 "is_weights" = true)
    (k_is_weights : PySem.W.keepIn K (.ref g_is_weights) = true)
    (l_is_table : K.lookup g_is_table = some ⟨oc15, od15, .func (PySem.W.fnOf "is_table" "is_table" (defArgs s_is_table) (defBody s_is_table) (defScope s_is_table) .none kV15 dc15 pm15 an15 cd15 ct15), sl15⟩)
    (c_is_table : PySem.W.codeIn K cd15 "is_table" = true)
    (k_is_table : PySem.W.keepIn K (.ref g_is_table) = true)
    (l_check_weigher : K.lookup g_check_weigher = some ⟨oc16, od16, .func (PySem.W.fnOf "check_weigher" "check_weigher" (defArgs s_check_weigher) (defBody s_check_weigher) (defScope s_check_weigher) .none kV16 dc16 pm16 an16 cd16 ct16), sl16⟩)
    (c_check_weigher : PySem.W.codeIn K cd16 "check_weigher" = true)
    (k_check_weigher : PySem.W.keepIn K (.ref g_check_weigher) = true)
    (l_turned_table : K.lookup g_turned_table = some ⟨oc17, od17, .func (PySem.W.fnOf "turned_table" "turned_table" (defArgs s_turned_table) (defBody s_turned_table) (defScope s_turned_table) .none kV17 dc17 pm17 an17 cd17 ct17), sl17⟩)
    (c_turned_table : PySem.W.codeIn K cd17 "turned_table" = true)
    (k_turned_table : PySem.W.keepIn K (.ref g_turned_table) = true)
    (l_value : K.lookup g_value = some ⟨oc18, od18, .func (PySem.W.fnOf "value" "value" (defArgs s_value) (defBody s_value) (defScope s_value) .none kV18 dc18 pm18 an18 cd18 ct18), sl18⟩)
    (c_value : PySem.W.codeIn K cd18 "value" = true)
    (k_value : PySem.W.keepIn K (.ref g_value) = true)
    (l_total : K.lookup g_total = some ⟨oc19, od19, .func (PySem.W.fnOf "total" "total" (defArgs s_total) (defBody s_total) (defScope s_total) .none kV19 dc19 pm19 an19 cd19 ct19), sl19⟩)
    (c_total : PySem.W.codeIn K cd19 "total" = true)
    (k_total : PySem.W.keepIn K (.ref g_total) = true)
    (l_l_flask : K.lookup g_l_flask = some ⟨oc20, od20, .func (PySem.W.fnOf "_law_flask" "_law_flask" (defArgs s_l_flask) (defBody s_l_flask) (defScope s_l_flask) .none kV20 dc20 pm20 an20 cd20 ct20), sl20⟩)
    (c_l_flask : PySem.W.codeIn K cd20 "_law_flask" = true)
    (k_l_flask : PySem.W.keepIn K (.ref g_l_flask) = true)
    (l_l_pour : K.lookup g_l_pour = some ⟨oc21, od21, .func (PySem.W.fnOf "_law_pour" "_law_pour" (defArgs s_l_pour) (defBody s_l_pour) (defScope s_l_pour) .none kV21 dc21 pm21 an21 cd21 ct21), sl21⟩)
    (c_l_pour : PySem.W.codeIn K cd21 "_law_pour" = true)
    (k_l_pour : PySem.W.keepIn K (.ref g_l_pour) = true)
    (l_l_pick : K.lookup g_l_pick = some ⟨oc22, od22, .func (PySem.W.fnOf "_law_pick" "_law_pick" (defArgs s_l_pick) (defBody s_l_pick) (defScope s_l_pick) .none kV22 dc22 pm22 an22 cd22 ct22), sl22⟩)
    (c_l_pick : PySem.W.codeIn K cd22 "_law_pick" = true)
    (k_l_pick : PySem.W.keepIn K (.ref g_l_pick) = true)
    (l_l_parts : K.lookup g_l_parts = some ⟨oc23, od23, .func (PySem.W.fnOf "_law_parts" "_law_parts" (defArgs s_l_parts) (defBody s_l_parts) (defScope s_l_parts) .none kV23 dc23 pm23 an23 cd23 ct23), sl23⟩)
    (c_l_parts : PySem.W.codeIn K cd23 "_law_parts" = true)
    (k_l_parts : PySem.W.keepIn K (.ref g_l_parts) = true)
    (l_l_value : K.lookup g_l_value = some ⟨oc24, od24, .func (PySem.W.fnOf "_law_value" "_law_value" (defArgs s_l_value) (defBody s_l_value) (defScope s_l_value) .none kV24 dc24 pm24 an24 cd24 ct24), sl24⟩)
    (c_l_value : PySem.W.codeIn K cd24 "_law_value" = true)
    (k_l_value : PySem.W.keepIn K (.ref g_l_value) = true)
    (l_l_made : K.lookup g_l_made = some ⟨oc25, od25, .func (PySem.W.fnOf "_law_made" "_law_made" (defArgs s_l_made) (defBody s_l_made) (defScope s_l_made) .none kV25 dc25 pm25 an25 cd25 ct25), sl25⟩)
    (c_l_made : PySem.W.codeIn K cd25 "_law_made" = true)
    (k_l_made : PySem.W.keepIn K (.ref g_l_made) = true)
    (l_l_words : K.lookup g_l_words = some ⟨oc26, od26, .func (PySem.W.fnOf "_law_words" "_law_words" (defArgs s_l_words) (defBody s_l_words) (defScope s_l_words) .none kV26 dc26 pm26 an26 cd26 ct26), sl26⟩)
    (c_l_words : PySem.W.codeIn K cd26 "_law_words" = true)
    (k_l_words : PySem.W.keepIn K (.ref g_l_words) = true)
    (l_l_one_right : K.lookup g_l_one_right = some ⟨oc27, od27, .func (PySem.W.fnOf "_law_one_right" "_law_one_right" (defArgs s_l_one_right) (defBody s_l_one_right) (defScope s_l_one_right) .none kV27 dc27 pm27 an27 cd27 ct27), sl27⟩)
    (c_l_one_right : PySem.W.codeIn K cd27 "_law_one_right" = true)
    (k_l_one_right : PySem.W.keepIn K (.ref g_l_one_right) = true)
    (l_l_equal_right : K.lookup g_l_equal_right = some ⟨oc28, od28, .func (PySem.W.fnOf "_law_equal_right" "_law_equal_right" (defArgs s_l_equal_right) (defBody s_l_equal_right) (defScope s_l_equal_right) .none kV28 dc28 pm28 an28 cd28 ct28), sl28⟩)
    (c_l_equal_right : PySem.W.codeIn K cd28 "_law_equal_right" = true)
    (k_l_equal_right : PySem.W.keepIn K (.ref g_l_equal_right) = true)
    (l_l_right : K.lookup g_l_right = some ⟨oc29, od29, .func (PySem.W.fnOf "_law_right" "_law_right" (defArgs s_l_right) (defBody s_l_right) (defScope s_l_right) .none kV29 dc29 pm29 an29 cd29 ct29), sl29⟩)
    (c_l_right : PySem.W.codeIn K cd29 "_law_right" = true)
    (k_l_right : PySem.W.keepIn K (.ref g_l_right) = true)
    (l_law : K.lookup g_law = some ⟨oc30, od30, .func (PySem.W.fnOf "law" "law" (defArgs s_law) (defBody s_law) (defScope s_law) .none kV30 dc30 pm30 an30 cd30 ct30), sl30⟩)
    (c_law : PySem.W.codeIn K cd30 "law" = true)
    (k_law : PySem.W.keepIn K (.ref g_law) = true)
    (pg0 : PySem.W.plainGet K C Str.empty = true)
    (hd0 : PySem.W.hasDictIn K C = true)
    (po0 : PySem.W.plainOver K C = true)
    (sa0 : PySem.W.findIn K (.ref C) "__setattr__" = some (some (.builtin "object.__setattr__")))
    (mk0 : PySem.W.makesIn K C = true)
    (kc0 : PySem.W.keepIn K (.ref C) = true)
    (n_signs : PySem.W.findIn K (.ref C) "_signs" = some none)
    (n_begins : PySem.W.findIn K (.ref C) "_begins" = some none)
    (n_tables : PySem.W.findIn K (.ref C) "_tables" = some none)
    (n_goals : PySem.W.findIn K (.ref C) "_goals" = some none)
    (yb_abs : PySem.W.nsIn K mainGlobals "abs" = some none)
    (yb_all : PySem.W.nsIn K mainGlobals "all" = some none)
    (yb_bool : PySem.W.nsIn K mainGlobals "bool" = some none)
    (yb_divmod : PySem.W.nsIn K mainGlobals "divmod" = some none)
    (yb_int : PySem.W.nsIn K mainGlobals "int" = some none)
    (yb_isinstance : PySem.W.nsIn K mainGlobals "isinstance" = some none)
    (yb_len : PySem.W.nsIn K mainGlobals "len" = some none)
    (yb_list : PySem.W.nsIn K mainGlobals "list" = some none)
    (yb_max : PySem.W.nsIn K mainGlobals "max" = some none)
    (yb_min : PySem.W.nsIn K mainGlobals "min" = some none)
    (yb_range : PySem.W.nsIn K mainGlobals "range" = some none)
    (yb_repr : PySem.W.nsIn K mainGlobals "repr" = some none)
    (yb_str : PySem.W.nsIn K mainGlobals "str" = some none)
    (yb_sum : PySem.W.nsIn K mainGlobals "sum" = some none)
    (yb_tuple : PySem.W.nsIn K mainGlobals "tuple" = some none)
    (yb_zip : PySem.W.nsIn K mainGlobals "zip" = some none)
    (yc_ALPHABET : PySem.W.nsIn K mainGlobals "ALPHABET" = some (some (.str "abcdefgh" tc_ALPHABET)))
    (yc_MOST_ROW : PySem.W.nsIn K mainGlobals "MOST_ROW" = some (some (.int 200 tc_MOST_ROW)))
    (yc_MOST_SIGNS : PySem.W.nsIn K mainGlobals "MOST_SIGNS" = some (some (.int 8 tc_MOST_SIGNS)))
    (yc_MOST_SIZE : PySem.W.nsIn K mainGlobals "MOST_SIZE" = some (some (.int 6 tc_MOST_SIZE)))
    (yc_MOST_WEIGHT : PySem.W.nsIn K mainGlobals "MOST_WEIGHT" = some (some (.int 1000 tc_MOST_WEIGHT)))
    (zt_ha : PySem.W.findIn K (.ref C) "__class__" = some (some (.builtin "object.__class__")))
    (zt_mo : PySem.W.mroIn K C (.type "object") = some true)
    (zown_ne : PySem.W.findIn K (.ref C) "__ne__" = some (some (.builtin "object.__ne__")))
    (znb : PySem.W.findIn K (.ref C) "__bool__" = some none)
    (znl : PySem.W.findIn K (.ref C) "__len__" = some none)
    (znf_Weigher : PySem.W.notFirst K C (.ref C) = true)
    (znf_tuple : PySem.W.notFirst K C (.type "tuple") = true)
    (zkc_tuple : PySem.W.kitOne K (.type "tuple") (.ref C) = some false)
    (zt_hn : PySem.W.specialIn K (.builtin "object.__class__") "__get__" = some (some (.builtin "getset_descriptor.__get__")))
    (zt_tk : PySem.W.takesIn K (.builtin "object.__class__") = some true)
    : ∃ fd : FuncData, (∀ (s : Shared) (u : Value), BindsTo s fd ⟨[u], []⟩ [("_law_script", u)]) ∧ ∀ base : Heap, K.In base → base.Ns mainGlobals mg → FnOkG P w K mg base 25 fa fd ["_law_script"] (spLaw K) := by
  have e := hfa.symm.trans (PySem.W.mg_of X G a_law)
  cases e
  let A : Ad := { is_integer := g_is_integer, is_between := g_is_between, is_row := g_is_row, check_signs := g_check_signs, check_row := g_check_row, check_length := g_check_length, dot := g_dot, Weigher_init := g_Weigher_init, Weigher_signs := g_Weigher_signs, Weigher_size := g_Weigher_size, Weigher_begins := g_Weigher_begins, Weigher_tables := g_Weigher_tables, Weigher_goals := g_Weigher_goals, Weigher_eq := g_Weigher_eq, is_weights := g_is_weights, is_table := g_is_table, check_weigher := g_check_weigher, turned_table := g_turned_table, value := g_value, total := g_total, l_flask := g_l_flask, l_pour := g_l_pour, l_pick := g_l_pick, l_parts := g_l_parts, l_value := g_l_value, l_made := g_l_made, l_words := g_l_words, l_one_right := g_l_one_right, l_equal_right := g_l_equal_right, l_right := g_l_right, law := fa, C := C, pr_signs := pp_Weigher_signs, pr_size := pp_Weigher_size, pr_begins := pp_Weigher_begins, pr_tables := pp_Weigher_tables, pr_goals := pp_Weigher_goals }
  let fd : Fds := { is_integer := PySem.W.fnOf "is_integer" "is_integer" (defArgs s_is_integer) (defBody s_is_integer) (defScope s_is_integer) .none kV0 dc0 pm0 an0 cd0 ct0, is_between := PySem.W.fnOf "is_between" "is_between" (defArgs s_is_between) (defBody s_is_between) (defScope s_is_between) .none kV1 dc1 pm1 an1 cd1 ct1, is_row := PySem.W.fnOf "is_row" "is_row" (defArgs s_is_row) (defBody s_is_row) (defScope s_is_row) .none kV2 dc2 pm2 an2 cd2 ct2, check_signs := PySem.W.fnOf "check_signs" "check_signs" (defArgs s_check_signs) (defBody s_check_signs) (defScope s_check_signs) .none kV3 dc3 pm3 an3 cd3 ct3, check_row := PySem.W.fnOf "check_row" "check_row" (defArgs s_check_row) (defBody s_check_row) (defScope s_check_row) .none kV4 dc4 pm4 an4 cd4 ct4, check_length := PySem.W.fnOf "check_length" "check_length" (defArgs s_check_length) (defBody s_check_length) (defScope s_check_length) .none kV5 dc5 pm5 an5 cd5 ct5, dot := PySem.W.fnOf "dot" "dot" (defArgs s_dot) (defBody s_dot) (defScope s_dot) .none kV6 dc6 pm6 an6 cd6 ct6, Weigher_init := PySem.W.fnOf "__init__" "Weigher.__init__" (defArgs s_Weigher_init) (defBody s_Weigher_init) (defScope s_Weigher_init) .none kV7 dc7 pm7 an7 cd7 ct7, Weigher_signs := PySem.W.fnOf "signs" "Weigher.signs" (defArgs s_Weigher_signs) (defBody s_Weigher_signs) (defScope s_Weigher_signs) .none kV8 dc8 pm8 an8 cd8 ct8, Weigher_size := PySem.W.fnOf "size" "Weigher.size" (defArgs s_Weigher_size) (defBody s_Weigher_size) (defScope s_Weigher_size) .none kV9 dc9 pm9 an9 cd9 ct9, Weigher_begins := PySem.W.fnOf "begins" "Weigher.begins" (defArgs s_Weigher_begins) (defBody s_Weigher_begins) (defScope s_Weigher_begins) .none kV10 dc10 pm10 an10 cd10 ct10, Weigher_tables := PySem.W.fnOf "tables" "Weigher.tables" (defArgs s_Weigher_tables) (defBody s_Weigher_tables) (defScope s_Weigher_tables) .none kV11 dc11 pm11 an11 cd11 ct11, Weigher_goals := PySem.W.fnOf "goals" "Weigher.goals" (defArgs s_Weigher_goals) (defBody s_Weigher_goals) (defScope s_Weigher_goals) .none kV12 dc12 pm12 an12 cd12 ct12, Weigher_eq := PySem.W.fnOf "__eq__" "Weigher.__eq__" (defArgs s_Weigher_eq) (defBody s_Weigher_eq) (defScope s_Weigher_eq) .none kV13 dc13 pm13 an13 cd13 ct13, is_weights := PySem.W.fnOf "is_weights" "is_weights" (defArgs s_is_weights) (defBody s_is_weights) (defScope s_is_weights) .none kV14 dc14 pm14 an14 cd14 ct14, is_table := PySem.W.fnOf "is_table" "is_table" (defArgs s_is_table) (defBody s_is_table) (defScope s_is_table) .none kV15 dc15 pm15 an15 cd15 ct15, check_weigher := PySem.W.fnOf "check_weigher" "check_weigher" (defArgs s_check_weigher) (defBody s_check_weigher) (defScope s_check_weigher) .none kV16 dc16 pm16 an16 cd16 ct16, turned_table := PySem.W.fnOf "turned_table" "turned_table" (defArgs s_turned_table) (defBody s_turned_table) (defScope s_turned_table) .none kV17 dc17 pm17 an17 cd17 ct17, value := PySem.W.fnOf "value" "value" (defArgs s_value) (defBody s_value) (defScope s_value) .none kV18 dc18 pm18 an18 cd18 ct18, total := PySem.W.fnOf "total" "total" (defArgs s_total) (defBody s_total) (defScope s_total) .none kV19 dc19 pm19 an19 cd19 ct19, l_flask := PySem.W.fnOf "_law_flask" "_law_flask" (defArgs s_l_flask) (defBody s_l_flask) (defScope s_l_flask) .none kV20 dc20 pm20 an20 cd20 ct20, l_pour := PySem.W.fnOf "_law_pour" "_law_pour" (defArgs s_l_pour) (defBody s_l_pour) (defScope s_l_pour) .none kV21 dc21 pm21 an21 cd21 ct21, l_pick := PySem.W.fnOf "_law_pick" "_law_pick" (defArgs s_l_pick) (defBody s_l_pick) (defScope s_l_pick) .none kV22 dc22 pm22 an22 cd22 ct22, l_parts := PySem.W.fnOf "_law_parts" "_law_parts" (defArgs s_l_parts) (defBody s_l_parts) (defScope s_l_parts) .none kV23 dc23 pm23 an23 cd23 ct23, l_value := PySem.W.fnOf "_law_value" "_law_value" (defArgs s_l_value) (defBody s_l_value) (defScope s_l_value) .none kV24 dc24 pm24 an24 cd24 ct24, l_made := PySem.W.fnOf "_law_made" "_law_made" (defArgs s_l_made) (defBody s_l_made) (defScope s_l_made) .none kV25 dc25 pm25 an25 cd25 ct25, l_words := PySem.W.fnOf "_law_words" "_law_words" (defArgs s_l_words) (defBody s_l_words) (defScope s_l_words) .none kV26 dc26 pm26 an26 cd26 ct26, l_one_right := PySem.W.fnOf "_law_one_right" "_law_one_right" (defArgs s_l_one_right) (defBody s_l_one_right) (defScope s_l_one_right) .none kV27 dc27 pm27 an27 cd27 ct27, l_equal_right := PySem.W.fnOf "_law_equal_right" "_law_equal_right" (defArgs s_l_equal_right) (defBody s_l_equal_right) (defScope s_l_equal_right) .none kV28 dc28 pm28 an28 cd28 ct28, l_right := PySem.W.fnOf "_law_right" "_law_right" (defArgs s_l_right) (defBody s_l_right) (defScope s_l_right) .none kV29 dc29 pm29 an29 cd29 ct29, law := PySem.W.fnOf "law" "law" (defArgs s_law) (defBody s_law) (defScope s_law) .none kV30 dc30 pm30 an30 cd30 ct30 }
  have T : Txt K mg A := {
    b_abs := PySem.W.mg_none_of X G yb_abs,
    b_all := PySem.W.mg_none_of X G yb_all,
    b_bool := PySem.W.mg_none_of X G yb_bool,
    b_divmod := PySem.W.mg_none_of X G yb_divmod,
    b_int := PySem.W.mg_none_of X G yb_int,
    b_isinstance := PySem.W.mg_none_of X G yb_isinstance,
    b_len := PySem.W.mg_none_of X G yb_len,
    b_list := PySem.W.mg_none_of X G yb_list,
    b_max := PySem.W.mg_none_of X G yb_max,
    b_min := PySem.W.mg_none_of X G yb_min,
    b_range := PySem.W.mg_none_of X G yb_range,
    b_repr := PySem.W.mg_none_of X G yb_repr,
    b_str := PySem.W.mg_none_of X G yb_str,
    b_sum := PySem.W.mg_none_of X G yb_sum,
    b_tuple := PySem.W.mg_none_of X G yb_tuple,
    b_zip := PySem.W.mg_none_of X G yb_zip,
    c_ALPHABET := ⟨_, PySem.W.mg_of X G yc_ALPHABET⟩,
    c_MOST_ROW := ⟨_, PySem.W.mg_of X G yc_MOST_ROW⟩,
    c_MOST_SIGNS := ⟨_, PySem.W.mg_of X G yc_MOST_SIGNS⟩,
    c_MOST_SIZE := ⟨_, PySem.W.mg_of X G yc_MOST_SIZE⟩,
    c_MOST_WEIGHT := ⟨_, PySem.W.mg_of X G yc_MOST_WEIGHT⟩,
    m_is_integer := PySem.W.mg_of X G a_is_integer,
    k_is_integer := k_is_integer,
    m_is_between := PySem.W.mg_of X G a_is_between,
    k_is_between := k_is_between,
    m_is_row := PySem.W.mg_of X G a_is_row,
    k_is_row := k_is_row,
    m_check_signs := PySem.W.mg_of X G a_check_signs,
    k_check_signs := k_check_signs,
    m_check_row := PySem.W.mg_of X G a_check_row,
    k_check_row := k_check_row,
    m_check_length := PySem.W.mg_of X G a_check_length,
    k_check_length := k_check_length,
    m_dot := PySem.W.mg_of X G a_dot,
    k_dot := k_dot,
    m_is_weights := PySem.W.mg_of X G a_is_weights,
    k_is_weights := k_is_weights,
    m_is_table := PySem.W.mg_of X G a_is_table,
    k_is_table := k_is_table,
    m_check_weigher := PySem.W.mg_of X G a_check_weigher,
    k_check_weigher := k_check_weigher,
    m_turned_table := PySem.W.mg_of X G a_turned_table,
    k_turned_table := k_turned_table,
    m_value := PySem.W.mg_of X G a_value,
    k_value := k_value,
    m_total := PySem.W.mg_of X G a_total,
    k_total := k_total,
    m_l_flask := PySem.W.mg_of X G a_l_flask,
    k_l_flask := k_l_flask,
    m_l_pour := PySem.W.mg_of X G a_l_pour,
    k_l_pour := k_l_pour,
    m_l_pick := PySem.W.mg_of X G a_l_pick,
    k_l_pick := k_l_pick,
    m_l_parts := PySem.W.mg_of X G a_l_parts,
    k_l_parts := k_l_parts,
    m_l_value := PySem.W.mg_of X G a_l_value,
    k_l_value := k_l_value,
    m_l_made := PySem.W.mg_of X G a_l_made,
    k_l_made := k_l_made,
    m_l_words := PySem.W.mg_of X G a_l_words,
    k_l_words := k_l_words,
    m_l_one_right := PySem.W.mg_of X G a_l_one_right,
    k_l_one_right := k_l_one_right,
    m_l_equal_right := PySem.W.mg_of X G a_l_equal_right,
    k_l_equal_right := k_l_equal_right,
    m_l_right := PySem.W.mg_of X G a_l_right,
    k_l_right := k_l_right,
    m_law := PySem.W.mg_of X G a_law,
    k_law := k_law,
    m_Weigher := PySem.W.mg_of X G aC,
    cl := ⟨pg0, hd0, po0, sa0⟩,
    mk_Weigher := ⟨mk0, a_Weigher_init, j_Weigher_init, kc0⟩,
    na_signs := n_signs,
    na_begins := n_begins,
    na_tables := n_tables,
    na_goals := n_goals,
    p_Weigher_signs := ⟨u_Weigher_signs, v_Weigher_signs, w_Weigher_signs, _, x_Weigher_signs⟩,
    p_Weigher_size := ⟨u_Weigher_size, v_Weigher_size, w_Weigher_size, _, x_Weigher_size⟩,
    p_Weigher_begins := ⟨u_Weigher_begins, v_Weigher_begins, w_Weigher_begins, _, x_Weigher_begins⟩,
    p_Weigher_tables := ⟨u_Weigher_tables, v_Weigher_tables, w_Weigher_tables, _, x_Weigher_tables⟩,
    p_Weigher_goals := ⟨u_Weigher_goals, v_Weigher_goals, w_Weigher_goals, _, x_Weigher_goals⟩,
    t_ha := zt_ha,
    t_mo := zt_mo,
    own_eq := a_Weigher_eq,
    isf_eq := j_Weigher_eq,
    own_ne := zown_ne,
    nb := znb,
    nl := znl,
    nf_Weigher := znf_Weigher,
    nf_tuple := znf_tuple,
    kc_tuple := zkc_tuple,
    t_hn := zt_hn,
    t_tk := zt_tk }
  have F_is_integer := fun_mk (st := s_is_integer) l_is_integer c_is_integer k_is_integer
  have B_is_integer := F_is_integer.binds (ps := p_is_integer) fun _ _ _ _ _ _ us hl => match us, hl with | [_], _ => rfl
  have F_is_between := fun_mk (st := s_is_between) l_is_between c_is_between k_is_between
  have B_is_between := F_is_between.binds (ps := p_is_between) fun _ _ _ _ _ _ us hl => match us, hl with | [_, _, _], _ => rfl
  have F_is_row := fun_mk (st := s_is_row) l_is_row c_is_row k_is_row
  have B_is_row := F_is_row.binds (ps := p_is_row) fun _ _ _ _ _ _ us hl => match us, hl with | [_, _, _], _ => rfl
  have F_check_signs := fun_mk (st := s_check_signs) l_check_signs c_check_signs k_check_signs
  have B_check_signs := F_check_signs.binds (ps := p_check_signs) fun _ _ _ _ _ _ us hl => match us, hl with | [_], _ => rfl
  have F_check_row := fun_mk (st := s_check_row) l_check_row c_check_row k_check_row
  have B_check_row := F_check_row.binds (ps := p_check_row) fun _ _ _ _ _ _ us hl => match us, hl with | [_, _], _ => rfl
  have F_check_length := fun_mk (st := s_check_length) l_check_length c_check_length k_check_length
  have B_check_length := F_check_length.binds (ps := p_check_length) fun _ _ _ _ _ _ us hl => match us, hl with | [_], _ => rfl
  have F_dot := fun_mk (st := s_dot) l_dot c_dot k_dot
  have B_dot := F_dot.binds (ps := p_dot) fun _ _ _ _ _ _ us hl => match us, hl with | [_, _], _ => rfl
  have F_Weigher_init := fun_mk (st := s_Weigher_init) l_Weigher_init c_Weigher_init k_Weigher_init
  have B_Weigher_init := F_Weigher_init.binds (ps := p_Weigher_init) fun _ _ _ _ _ _ us hl => match us, hl with | [_, _, _, _, _], _ => rfl
  have F_Weigher_signs := fun_mk (st := s_Weigher_signs) l_Weigher_signs c_Weigher_signs k_Weigher_signs
  have B_Weigher_signs := F_Weigher_signs.binds (ps := p_Weigher_signs) fun _ _ _ _ _ _ us hl => match us, hl with | [_], _ => rfl
  have F_Weigher_size := fun_mk (st := s_Weigher_size) l_Weigher_size c_Weigher_size k_Weigher_size
  have B_Weigher_size := F_Weigher_size.binds (ps := p_Weigher_size) fun _ _ _ _ _ _ us hl => match us, hl with | [_], _ => rfl
  have F_Weigher_begins := fun_mk (st := s_Weigher_begins) l_Weigher_begins c_Weigher_begins k_Weigher_begins
  have B_Weigher_begins := F_Weigher_begins.binds (ps := p_Weigher_begins) fun _ _ _ _ _ _ us hl => match us, hl with | [_], _ => rfl
  have F_Weigher_tables := fun_mk (st := s_Weigher_tables) l_Weigher_tables c_Weigher_tables k_Weigher_tables
  have B_Weigher_tables := F_Weigher_tables.binds (ps := p_Weigher_tables) fun _ _ _ _ _ _ us hl => match us, hl with | [_], _ => rfl
  have F_Weigher_goals := fun_mk (st := s_Weigher_goals) l_Weigher_goals c_Weigher_goals k_Weigher_goals
  have B_Weigher_goals := F_Weigher_goals.binds (ps := p_Weigher_goals) fun _ _ _ _ _ _ us hl => match us, hl with | [_], _ => rfl
  have F_Weigher_eq := fun_mk (st := s_Weigher_eq) l_Weigher_eq c_Weigher_eq k_Weigher_eq
  have B_Weigher_eq := F_Weigher_eq.binds (ps := p_Weigher_eq) fun _ _ _ _ _ _ us hl => match us, hl with | [_, _], _ => rfl
  have F_is_weights := fun_mk (st := s_is_weights) l_is_weights c_is_weights k_is_weights
  have B_is_weights := F_is_weights.binds (ps := p_is_weights) fun _ _ _ _ _ _ us hl => match us, hl with | [_, _], _ => rfl
  have F_is_table := fun_mk (st := s_is_table) l_is_table c_is_table k_is_table
  have B_is_table := F_is_table.binds (ps := p_is_table) fun _ _ _ _ _ _ us hl => match us, hl with | [_, _], _ => rfl
  have F_check_weigher := fun_mk (st := s_check_weigher) l_check_weigher c_check_weigher k_check_weigher
  have B_check_weigher := F_check_weigher.binds (ps := p_check_weigher) fun _ _ _ _ _ _ us hl => match us, hl with | [_], _ => rfl
  have F_turned_table := fun_mk (st := s_turned_table) l_turned_table c_turned_table k_turned_table
  have B_turned_table := F_turned_table.binds (ps := p_turned_table) fun _ _ _ _ _ _ us hl => match us, hl with | [_], _ => rfl
  have F_value := fun_mk (st := s_value) l_value c_value k_value
  have B_value := F_value.binds (ps := p_value) fun _ _ _ _ _ _ us hl => match us, hl with | [_, _], _ => rfl
  have F_total := fun_mk (st := s_total) l_total c_total k_total
  have B_total := F_total.binds (ps := p_total) fun _ _ _ _ _ _ us hl => match us, hl with | [_, _], _ => rfl
  have F_l_flask := fun_mk (st := s_l_flask) l_l_flask c_l_flask k_l_flask
  have B_l_flask := F_l_flask.binds (ps := p_l_flask) fun _ _ _ _ _ _ us hl => match us, hl with | [_, _], _ => rfl
  have F_l_pour := fun_mk (st := s_l_pour) l_l_pour c_l_pour k_l_pour
  have B_l_pour := F_l_pour.binds (ps := p_l_pour) fun _ _ _ _ _ _ us hl => match us, hl with | [_, _], _ => rfl
  have F_l_pick := fun_mk (st := s_l_pick) l_l_pick c_l_pick k_l_pick
  have B_l_pick := F_l_pick.binds (ps := p_l_pick) fun _ _ _ _ _ _ us hl => match us, hl with | [_, _], _ => rfl
  have F_l_parts := fun_mk (st := s_l_parts) l_l_parts c_l_parts k_l_parts
  have B_l_parts := F_l_parts.binds (ps := p_l_parts) fun _ _ _ _ _ _ us hl => match us, hl with | [_, _, _], _ => rfl
  have F_l_value := fun_mk (st := s_l_value) l_l_value c_l_value k_l_value
  have B_l_value := F_l_value.binds (ps := p_l_value) fun _ _ _ _ _ _ us hl => match us, hl with | [_, _], _ => rfl
  have F_l_made := fun_mk (st := s_l_made) l_l_made c_l_made k_l_made
  have B_l_made := F_l_made.binds (ps := p_l_made) fun _ _ _ _ _ _ us hl => match us, hl with | [_, _], _ => rfl
  have F_l_words := fun_mk (st := s_l_words) l_l_words c_l_words k_l_words
  have B_l_words := F_l_words.binds (ps := p_l_words) fun _ _ _ _ _ _ us hl => match us, hl with | [_, _], _ => rfl
  have F_l_one_right := fun_mk (st := s_l_one_right) l_l_one_right c_l_one_right k_l_one_right
  have B_l_one_right := F_l_one_right.binds (ps := p_l_one_right) fun _ _ _ _ _ _ us hl => match us, hl with | [_, _, _], _ => rfl
  have F_l_equal_right := fun_mk (st := s_l_equal_right) l_l_equal_right c_l_equal_right k_l_equal_right
  have B_l_equal_right := F_l_equal_right.binds (ps := p_l_equal_right) fun _ _ _ _ _ _ us hl => match us, hl with | [_, _, _], _ => rfl
  have F_l_right := fun_mk (st := s_l_right) l_l_right c_l_right k_l_right
  have B_l_right := F_l_right.binds (ps := p_l_right) fun _ _ _ _ _ _ us hl => match us, hl with | [_], _ => rfl
  have F_law := fun_mk (st := s_law) l_law c_law k_law
  have B_law := F_law.binds (ps := p_law) fun _ _ _ _ _ _ us hl => match us, hl with | [_], _ => rfl
  have U : Funs K A fd := {
    F_is_integer := F_is_integer, b_is_integer := B_is_integer,
    F_is_between := F_is_between, b_is_between := B_is_between,
    F_is_row := F_is_row, b_is_row := B_is_row,
    F_check_signs := F_check_signs, b_check_signs := B_check_signs,
    F_check_row := F_check_row, b_check_row := B_check_row,
    F_check_length := F_check_length, b_check_length := B_check_length,
    F_dot := F_dot, b_dot := B_dot,
    F_Weigher_init := F_Weigher_init, b_Weigher_init := B_Weigher_init,
    F_Weigher_signs := F_Weigher_signs, b_Weigher_signs := B_Weigher_signs,
    F_Weigher_size := F_Weigher_size, b_Weigher_size := B_Weigher_size,
    F_Weigher_begins := F_Weigher_begins, b_Weigher_begins := B_Weigher_begins,
    F_Weigher_tables := F_Weigher_tables, b_Weigher_tables := B_Weigher_tables,
    F_Weigher_goals := F_Weigher_goals, b_Weigher_goals := B_Weigher_goals,
    F_Weigher_eq := F_Weigher_eq, b_Weigher_eq := B_Weigher_eq,
    F_is_weights := F_is_weights, b_is_weights := B_is_weights,
    F_is_table := F_is_table, b_is_table := B_is_table,
    F_check_weigher := F_check_weigher, b_check_weigher := B_check_weigher,
    F_turned_table := F_turned_table, b_turned_table := B_turned_table,
    F_value := F_value, b_value := B_value,
    F_total := F_total, b_total := B_total,
    F_l_flask := F_l_flask, b_l_flask := B_l_flask,
    F_l_pour := F_l_pour, b_l_pour := B_l_pour,
    F_l_pick := F_l_pick, b_l_pick := B_l_pick,
    F_l_parts := F_l_parts, b_l_parts := B_l_parts,
    F_l_value := F_l_value, b_l_value := B_l_value,
    F_l_made := F_l_made, b_l_made := B_l_made,
    F_l_words := F_l_words, b_l_words := B_l_words,
    F_l_one_right := F_l_one_right, b_l_one_right := B_l_one_right,
    F_l_equal_right := F_l_equal_right, b_l_equal_right := B_l_equal_right,
    F_l_right := F_l_right, b_l_right := B_l_right,
    F_law := F_law, b_law := B_law }
  exact ⟨PySem.W.fnOf "law" "law" (defArgs s_law) (defBody s_law) (defScope s_law) .none kV30 dc30 pm30 an30 cd30 ct30, fun s u => .of_eq rfl, fun base _ _ => ok_law T U⟩
end K6
open PySem PySem.W PyProof.Rows
set_option maxRecDepth 100000 in
set_option maxHeartbeats 0 in
theorem PySem.Challenge.cw_rowreaders_k51_whole_values_of_rows_holds : PySem.Challenge.rw_rowreaders_k51_whole_values_of_rows.Holds := by
  w_on; o_law; k_head; (case hw => w_witness2)
  k_fill
  refine Rw.walkG (l := PySem.Challenge.rw_rowreaders_k51_whole_values_of_rows) (n := 63) (k := 25) (x := "_law_script") (sp := K6.spLaw) rfl (by decide) rfl ⟨rfl, by decide, by decide⟩ (fun w h Y => PySem.W.kIn_of Y) ?F (fun K H a ns hl _ hS => ⟨a, ns, rfl, hS, hl, fun _ => rfl⟩)
  case F =>
    intro w mg fa h KX G hmg
    refine' K6.all_mk KX G hmg ?aC ?a_is_integer ?a_is_between ?a_is_row ?a_check_signs ?a_check_row ?a_check_length ?a_dot ?a_Weigher_init ?j_Weigher_init ?a_Weigher_eq ?j_Weigher_eq ?a_is_weights ?a_is_table ?a_check_weigher ?a_turned_table ?a_value ?a_total ?a_l_flask ?a_l_pour ?a_l_pick ?a_l_parts ?a_l_value ?a_l_made ?a_l_words ?a_l_one_right ?a_l_equal_right ?a_l_right ?a_law ?u_Weigher_signs ?v_Weigher_signs ?w_Weigher_signs ?x_Weigher_signs ?u_Weigher_size ?v_Weigher_size ?w_Weigher_size ?x_Weigher_size ?u_Weigher_begins ?v_Weigher_begins ?w_Weigher_begins ?x_Weigher_begins ?u_Weigher_tables ?v_Weigher_tables ?w_Weigher_tables ?x_Weigher_tables ?u_Weigher_goals ?v_Weigher_goals ?w_Weigher_goals ?x_Weigher_goals ?l_is_integer ?c_is_integer ?k_is_integer ?l_is_between ?c_is_between ?k_is_between ?l_is_row ?c_is_row ?k_is_row ?l_check_signs ?c_check_signs ?k_check_signs ?l_check_row ?c_check_row ?k_check_row ?l_check_length ?c_check_length ?k_check_length ?l_dot ?c_dot ?k_dot ?l_Weigher_init ?c_Weigher_init ?k_Weigher_init ?l_Weigher_signs ?c_Weigher_signs ?k_Weigher_signs ?l_Weigher_size ?c_Weigher_size ?k_Weigher_size ?l_Weigher_begins ?c_Weigher_begins ?k_Weigher_begins ?l_Weigher_tables ?c_Weigher_tables ?k_Weigher_tables ?l_Weigher_goals ?c_Weigher_goals ?k_Weigher_goals ?l_Weigher_eq ?c_Weigher_eq ?k_Weigher_eq ?l_is_weights ?c_is_weights ?k_is_weights ?l_is_table ?c_is_table ?k_is_table ?l_check_weigher ?c_check_weigher ?k_check_weigher ?l_turned_table ?c_turned_table ?k_turned_table ?l_value ?c_value ?k_value ?l_total ?c_total ?k_total ?l_l_flask ?c_l_flask ?k_l_flask ?l_l_pour ?c_l_pour ?k_l_pour ?l_l_pick ?c_l_pick ?k_l_pick ?l_l_parts ?c_l_parts ?k_l_parts ?l_l_value ?c_l_value ?k_l_value ?l_l_made ?c_l_made ?k_l_made ?l_l_words ?c_l_words ?k_l_words ?l_l_one_right ?c_l_one_right ?k_l_one_right ?l_l_equal_right ?c_l_equal_right ?k_l_equal_right ?l_l_right ?c_l_right ?k_l_right ?l_law ?c_law ?k_law ?pg0 ?hd0 ?po0 ?sa0 ?mk0 ?kc0 ?n_signs ?n_begins ?n_tables ?n_goals ?yb_abs ?yb_all ?yb_bool ?yb_divmod ?yb_int ?yb_isinstance ?yb_len ?yb_list ?yb_max ?yb_min ?yb_range ?yb_repr ?yb_str ?yb_sum ?yb_tuple ?yb_zip ?yc_ALPHABET ?yc_MOST_ROW ?yc_MOST_SIGNS ?yc_MOST_SIZE ?yc_MOST_WEIGHT ?zt_ha ?zt_mo ?zown_ne ?znb ?znl ?znf_Weigher ?znf_tuple ?zkc_tuple ?zt_hn ?zt_tk
    (case aC => k_is)
    (case a_is_integer => k_is)
    (case a_is_between => k_is)
    (case a_is_row => k_is)
    (case a_check_signs => k_is)
    (case a_check_row => k_is)
    (case a_check_length => k_is)
    (case a_dot => k_is)
    (case a_Weigher_init => k_is)
    (case j_Weigher_init => k_is)
    (case a_Weigher_eq => k_is)
    (case j_Weigher_eq => k_is)
    (case a_is_weights => k_is)
    (case a_is_table => k_is)
    (case a_check_weigher => k_is)
    (case a_turned_table => k_is)
    (case a_value => k_is)
    (case a_total => k_is)
    (case a_l_flask => k_is)
    (case a_l_pour => k_is)
    (case a_l_pick => k_is)
    (case a_l_parts => k_is)
    (case a_l_value => k_is)
    (case a_l_made => k_is)
    (case a_l_words => k_is)
    (case a_l_one_right => k_is)
    (case a_l_equal_right => k_is)
    (case a_l_right => k_is)
    (case a_law => k_is)
    (case u_Weigher_signs => k_is)
    (case v_Weigher_signs => k_is)
    (case w_Weigher_signs => k_is)
    (case x_Weigher_signs => k_is)
    (case u_Weigher_size => k_is)
    (case v_Weigher_size => k_is)
    (case w_Weigher_size => k_is)
    (case x_Weigher_size => k_is)
    (case u_Weigher_begins => k_is)
    (case v_Weigher_begins => k_is)
    (case w_Weigher_begins => k_is)
    (case x_Weigher_begins => k_is)
    (case u_Weigher_tables => k_is)
    (case v_Weigher_tables => k_is)
    (case w_Weigher_tables => k_is)
    (case x_Weigher_tables => k_is)
    (case u_Weigher_goals => k_is)
    (case v_Weigher_goals => k_is)
    (case w_Weigher_goals => k_is)
    (case x_Weigher_goals => k_is)
    (case l_is_integer => k_is)
    (case c_is_integer => k_is)
    (case k_is_integer => k_is)
    (case l_is_between => k_is)
    (case c_is_between => k_is)
    (case k_is_between => k_is)
    (case l_is_row => k_is)
    (case c_is_row => k_is)
    (case k_is_row => k_is)
    (case l_check_signs => k_is)
    (case c_check_signs => k_is)
    (case k_check_signs => k_is)
    (case l_check_row => k_is)
    (case c_check_row => k_is)
    (case k_check_row => k_is)
    (case l_check_length => k_is)
    (case c_check_length => k_is)
    (case k_check_length => k_is)
    (case l_dot => k_is)
    (case c_dot => k_is)
    (case k_dot => k_is)
    (case l_Weigher_init => k_is)
    (case c_Weigher_init => k_is)
    (case k_Weigher_init => k_is)
    (case l_Weigher_signs => k_is)
    (case c_Weigher_signs => k_is)
    (case k_Weigher_signs => k_is)
    (case l_Weigher_size => k_is)
    (case c_Weigher_size => k_is)
    (case k_Weigher_size => k_is)
    (case l_Weigher_begins => k_is)
    (case c_Weigher_begins => k_is)
    (case k_Weigher_begins => k_is)
    (case l_Weigher_tables => k_is)
    (case c_Weigher_tables => k_is)
    (case k_Weigher_tables => k_is)
    (case l_Weigher_goals => k_is)
    (case c_Weigher_goals => k_is)
    (case k_Weigher_goals => k_is)
    (case l_Weigher_eq => k_is)
    (case c_Weigher_eq => k_is)
    (case k_Weigher_eq => k_is)
    (case l_is_weights => k_is)
    (case c_is_weights => k_is)
    (case k_is_weights => k_is)
    (case l_is_table => k_is)
    (case c_is_table => k_is)
    (case k_is_table => k_is)
    (case l_check_weigher => k_is)
    (case c_check_weigher => k_is)
    (case k_check_weigher => k_is)
    (case l_turned_table => k_is)
    (case c_turned_table => k_is)
    (case k_turned_table => k_is)
    (case l_value => k_is)
    (case c_value => k_is)
    (case k_value => k_is)
    (case l_total => k_is)
    (case c_total => k_is)
    (case k_total => k_is)
    (case l_l_flask => k_is)
    (case c_l_flask => k_is)
    (case k_l_flask => k_is)
    (case l_l_pour => k_is)
    (case c_l_pour => k_is)
    (case k_l_pour => k_is)
    (case l_l_pick => k_is)
    (case c_l_pick => k_is)
    (case k_l_pick => k_is)
    (case l_l_parts => k_is)
    (case c_l_parts => k_is)
    (case k_l_parts => k_is)
    (case l_l_value => k_is)
    (case c_l_value => k_is)
    (case k_l_value => k_is)
    (case l_l_made => k_is)
    (case c_l_made => k_is)
    (case k_l_made => k_is)
    (case l_l_words => k_is)
    (case c_l_words => k_is)
    (case k_l_words => k_is)
    (case l_l_one_right => k_is)
    (case c_l_one_right => k_is)
    (case k_l_one_right => k_is)
    (case l_l_equal_right => k_is)
    (case c_l_equal_right => k_is)
    (case k_l_equal_right => k_is)
    (case l_l_right => k_is)
    (case c_l_right => k_is)
    (case k_l_right => k_is)
    (case l_law => k_is)
    (case c_law => k_is)
    (case k_law => k_is)
    (case pg0 => k_is)
    (case hd0 => k_is)
    (case po0 => k_is)
    (case sa0 => k_is)
    (case mk0 => k_is)
    (case kc0 => k_is)
    (case n_signs => k_is)
    (case n_begins => k_is)
    (case n_tables => k_is)
    (case n_goals => k_is)
    (case yb_abs => k_is)
    (case yb_all => k_is)
    (case yb_bool => k_is)
    (case yb_divmod => k_is)
    (case yb_int => k_is)
    (case yb_isinstance => k_is)
    (case yb_len => k_is)
    (case yb_list => k_is)
    (case yb_max => k_is)
    (case yb_min => k_is)
    (case yb_range => k_is)
    (case yb_repr => k_is)
    (case yb_str => k_is)
    (case yb_sum => k_is)
    (case yb_tuple => k_is)
    (case yb_zip => k_is)
    (case yc_ALPHABET => k_is)
    (case yc_MOST_ROW => k_is)
    (case yc_MOST_SIGNS => k_is)
    (case yc_MOST_SIZE => k_is)
    (case yc_MOST_WEIGHT => k_is)
    (case zt_ha => k_is)
    (case zt_mo => k_is)
    (case zown_ne => k_is)
    (case znb => k_is)
    (case znl => k_is)
    (case znf_Weigher => first | kernel_rfl | k_is)
    (case znf_tuple => first | kernel_rfl | k_is)
    (case zkc_tuple => first | kernel_rfl | k_is)
    (case zt_hn => k_is)
    (case zt_tk => k_is)

