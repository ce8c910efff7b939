import PyProof.Rows.All
import Wide.All
import OpenK.AllK
import Wide.FinOn
import HandS.ForMost
import HandS.Codes
import HandS.Wide
import HandS.WideBits
import HandS.Defaults
import HandS.Walk
import PyProof.ReprRoads
import HandS.Text
import HandS.Iter
import HandS.Style
import KE.GoesMore
import KE.KRevSl
import PyProof.ReprLen
import PyProof.StrBlock2
import HandS.Ends
import HandS.TupMul
import HandS.TupAny
import HandS.IsInst
import HandS.SetBool
import HandS.Strs
import PyProof.Rows.ReprOcc
import PyProof.EqKinds
import PyProof.FactsAll.dict
import HandS.SetFor
import HandS.ExcInit
import HandS.ExcSuper
import KE.KExcSuper
import HandS.ExcField
import HandS.ExcOwn
import HandS.Words
import HandS.ExcValue
import KE.KExcHand
import HandS.ExcIs
import KE.KExcIs
import HandS.WordsExc
import HandS.Conv
import HandS.Gcd
import KE.KMathGC
import KE.RegKSuper
import KE.RegKIsAll
import KE.RegKTryMore
import PySem.Challenge.RW_pastenough_k03_branches_and_their_outcom
set_option Elab.async false
set_option linter.all false
set_option maxRecDepth 100000
set_option maxHeartbeats 4000000
/-! Defs that are run where no repr is under way; repr of data; further small rules. -/
namespace Gk
open PySem PySem.Spec PyProof.Rows L2

/-- a def's promise wherever nothing is being shown -/
structure FnG (P : Program) (w : World) (K : PySem.W.Frag) (mg : Str → Option Value) (base : Heap) (k : Nat)
    (f : Addr) (fd : FuncData) (ps : List Str) (sp : Sp) : Prop where
  len : ∀ vs H Q E, sp vs H Q E → vs.length = ps.length
  go : ∀ (A : Around) (outer : List Env) (s : Shared) (H : Hp) (args : Args) (us : List Value) (vs : List V) (Q : VK),
    Room k A → A.guards = some [] → Env0 P w K mg base A outer s H → BindsTo s fd args (ps.zip us) → Vals vs us → sp vs H Q L2.E0 →
    codeAny (model P w) A (.call (.ref f) args) (CR L2.CX0 outer P w H s Q L2.E0) s

section
variable {P : Program} {w : World} {K : PySem.W.Frag} {mg : Str → Option Value} {base : Heap}
theorem FnG.weak {j k : Nat} {f : Addr} {fd : FuncData} {ps : List Str} {sp : Sp} (F : FnG P w K mg base j f fd ps sp) (h : j ≤ k) : FnG P w K mg base k f fd ps sp :=
  ⟨F.len, fun A outer s H args us vs Q r g => F.go A outer s H args us vs Q (r.mono h) g⟩
theorem FnG.from {k : Nat} {f : Addr} {fd : FuncData} {ps : List Str} {sp : Sp} (F : FnOk P w K mg base L2.CX0 k f fd ps sp) : FnG P w K mg base k f fd ps sp :=
  ⟨F.len, fun A outer s H args us vs Q r _ e b v q => F.run A outer s H args us vs Q L2.E0 r e b v q⟩

theorem guards_deeper {A : Around} {env : Env} (h : A.guards = some []) : (A.deeper env).guards = some [] := by
  first | exact h | (unfold Around.deeper; exact h)

/-- THE RULE for a def, by its body -/
theorem fnG {x qual : Str} {st : Stmt} {f : Addr} {fd : FuncData} {N ps : List Str} {k : Nat} {sp : Sp} (F : L2.Fun K x qual st f fd) (S : FnScope N ps (defScope st))
    (len : ∀ vs H Q E, sp vs H Q E → vs.length = ps.length)
    (hbody : ∀ (cdv : Value) (A : Around) (outer : List Env) (s : Shared) (H : Hp) (vs : List V) (Q : VK),
      Room k (A.deeper (envOfC qual (defScope st) s.heap.objs.size f cdv)) → (A.deeper (envOfC qual (defScope st) s.heap.objs.size f cdv)).guards = some [] → sp vs H Q L2.E0 →
      ∃ t, PSs (cxOf L2.CX0 P w K mg base N qual (defScope st) f cdv A outer s H L2.E0).nox (defBody st) t ∧ t { nx := fun _ H' => Q .non H', rt := Q } (start N vs) H) :
    FnG P w K mg base (k + 1) f fd ps sp := by
  obtain ⟨oc, od, kV, doc, pm, an, cdv, ct, osl, rfl, lk, hcd⟩ := F.ex
  refine ⟨len, fun A outer s H args us vs Q room gd en bd rv want => ?_⟩
  have many := len _ _ _ _ want
  have KX : K.In s.heap := en.mod.kin.keeps (fun b o hbo => (en.bs b o hbo).1)
  have lim : s.heap.NoLimit := en.mod.nolimit.keeps (fun b o hbo => (en.bs b o hbo).1)
  have kinds : ∀ y ∈ ps.zip us, (defScope st).names.lookup y.1 = some .local ∨
      ((defScope st).names.lookup y.1 = some .cell ∧ ((cellsFrom (s.heap.objs.size + 1) (defScope st).names []).lookup y.1).isSome = true) := fun y hy =>
    (S.par y.1 (List.of_mem_zip (a := y.1) (b := y.2) hy).1).elim Or.inl fun q => .inr ⟨q, PySem.W.cellsFrom_some _ _ _ (.inl q)⟩
  refine codeAny_call_function room.depth (KX _ _ lk) rfl S.co S.gen rfl (PySem.W.codeRec_of KX hcd) (bd _ _ _ _ ?_)
  refine wpAny_newFunctionEnv_cells S.kind kinds fun env he st1 inC => ?_
  subst he
  refine ⟨lim.keeps inC.toInCall.keep, codeAny_func ?_⟩
  obtain ⟨t, ht, hq⟩ := hbody cdv A outer s H vs Q (room.deeper _) (guards_deeper gd) want
  have I := inv_start (CX := L2.CX0) (P := P) (w := w) (mg := mg) (E := L2.E0) S room.hd en many rv inC
  refine wpAny_mono (ht.nox.run [] st1 (start N vs) H _ I hq) (fun fl s' hs => ?_) fun e s' hs => hs
  cases fl with
  | brk => obtain ⟨_, _, _, z⟩ := hs; exact False.elim z
  | cont => obtain ⟨_, _, _, z⟩ := hs; exact False.elim z
  | next => obtain ⟨σ1, H1, J, z⟩ := hs; exact ⟨V.non, H1, J.os, J.bare, J.base, J.hok, rfl, z⟩
  | ret u => obtain ⟨v, σ1, H1, J, rv1, z⟩ := hs; exact ⟨v, H1, J.os, J.bare, J.base, J.hok, rv1, z⟩
end

section
variable {X : Cx} {k : Nat} {f : Addr} {fd : FuncData} {ps : List Str} {sp : Sp} {x : Str} {p pos : Pos} {e : Expr} {es : List Expr} {t : TA}
theorem go_fn {pins : List (Addr × Obj)} {σ : L2.St} {H : Hp} {s : Shared} {Q : VK} {us : List Value} {vs : List V} (F : FnG X.prog X.w X.K X.mg X.base k f fd ps sp)
    (hr : Room k X.A) (hg : X.A.guards = some []) (hb : Binds X.K fd ps []) (I : Inv X pins σ H s) (r : Vals vs us) (h : sp vs H Q L2.E0) : wpAny (model X.prog X.w) X.A (call (.ref f) us) (EP X pins σ Q) X.xe s := by
  have hl : (us ++ []).length = ps.length := by rw [List.append_nil, ← r.length]; exact F.len _ _ _ _ h
  have b := hb s us I.kIn hl
  rw [List.append_nil] at b
  refine wpAny_call (codeAny_mono (F.go X.A X.stack s H ⟨us, []⟩ us vs Q hr hg I.env0 b r h) fun res s' hq => ?_)
  cases res with
  | error er => exact False.elim hq
  | ok fl =>
    cases fl with
    | brk => exact False.elim hq
    | cont => exact False.elim hq
    | next => exact False.elim hq
    | ret u => exact I.after hq
def tG (sp : Sp) (t : TA) : TE := fun σ H Q => t σ H fun vs H1 => sp vs H1 Q L2.E0
/-- f(e, ..) -/
theorem pe_g (F : FnG X.prog X.w X.K X.mg X.base k f fd ps sp) (hr : Room k X.A) (hd : X.A.guards = some []) (hg : Gl X x) (hm : X.mg x = some (.ref f)) (hk : PySem.W.keepIn X.K (.ref f) = true) (hb : Binds X.K fd ps [])
    (ha : PA X (e :: es) t) (hdb : (x == ("__debug__" : Str)) = false := by decide) (he : starEach (e :: es) X.env = (false, eval e X.env) :: starEach es X.env := by rfl)
    (hpl : (backTo pos (starEach es X.env)).any (·.1) = false := by rfl) : PE X (.Call (.Name x p) (e :: es) [] pos) (tG sp t) :=
  ⟨fun pins s σ H Q I h => wpAny_Call_Name_kw (ld_glob I hg hm (PySem.W.callWith_K (h₀ := X.base) I.ok.mod.kin hk (thn (ha.run pos pins s σ H _ I h) fun us s1 ⟨vs, H1, I1, r, q⟩ => ⟨I1.kIn, go_fn F hr hd hb I1 r q⟩) he hpl) hdb)⟩
end

/-! ### keywords alone -/
section
variable {X : Cx} {k : Nat} {f : Addr} {fd : FuncData} {ps ks : List Str} {sp : Sp} {x : Str} {p pos : Pos} {kws : List Keyword} {tk : TA} {g : List Value → List Value → List Value} {gV : List V → List V → List V}
def tKw (n : Nat) (gV : List V → List V) (sp : Sp) (tk : TA) : TE := fun σ H Q => tk σ H fun zs H1 => zs.length = n ∧ sp (gV zs) H1 Q L2.E0
/-- f(k = v, ..) -/
theorem pe_kw (F : FnOk X.prog X.w X.K X.mg X.base L2.CX0 k f fd ps sp) (hr : Room k X.A) (hg : Gl X x) (hm : X.mg x = some (.ref f)) (hk : PySem.W.keepIn X.K (.ref f) = true) (hb : KBn X.K fd ps 0 ks g gV)
    (hkw : PK X kws tk) (hall : (backToKw pos (keywordEach kws X.env)).all (·.1.isSome) = true := by rfl) (hks : (backToKw pos (keywordEach kws X.env)).filterMap (·.1) = ks := by rfl) (hdb : (x == ("__debug__" : Str)) = false := by decide)
    (hpl : ((backTo pos (starEach [] X.env)).any (·.1) || (backToKw pos (keywordEach kws X.env)).any (·.1.isNone)) = false := by rfl) :
    PE X (.Call (.Name x p) [] kws pos) (tKw ks.length (gV []) sp tk) := by
  refine ⟨fun pins s σ H Q I h => wpAny_Call_Name_kw (ld_glob I hg hm ?_ hdb)⟩
  refine PySem.W.callWith_KW0 (h₀ := X.base) I.ok.mod.kin hk hall (thn (hkw.run pos pins s σ H _ I h) fun ws s2 ⟨zs, H2, I2, rz, l2, q2⟩ => ⟨I2.kIn, ?_⟩) hpl
  rw [hks]
  exact run_fnN (us := []) (vs := []) F hr hb L2.pass0 I2 .nil rz rfl l2 q2
end
end Gk
namespace Gk
open PySem PySem.Spec PyProof.Rows L2 PySem.Builtin.Str

/-! ### powers of great numbers -/
def CBigPow (i j : Int) : Prop := 0 ≤ j ∧ (Builtin.Int.intBits i : Int) * j ≤ 2 ^ 27
theorem op_bigpow {X : Cx} : OpR X (binaryOp .Pow) (rI CBigPow fun i j => .int (i ^ j.toNat)) := opI fun _ _ _ _ _ _ _ hc q => pow_int hc.1 hc.2 q

/-! ### repr of data -/
theorem call_reprD {X : Cx} {k : Nat} (hr : Room k X.A) (hg : X.A.guards = some []) : CallR X (.builtin "repr") (fun xs H Q => ∃ v d, xs = [v] ∧ Dp X.K H v d ∧ d.showable = true ∧ d.hasDict = false ∧
    d.depth ≤ 40 ∧ d.shown.length ≤ sizeLine ∧ Q (.str d.shown) H) := by
  intro pins s σ H xs us Q I r h
  obtain ⟨v, d, rfl, hd, hs, hn, hdep, hz, q⟩ := h
  obtain ⟨u, rfl, ru⟩ := vals1 r
  have hun := hr.units
  cases hd with
  | non =>
    cases ru
    exact PySem.P.repr_of_none ⟨.str _, H, I.tok _, ⟨_, rfl⟩, q⟩
  | bl b =>
    cases ru
    exact PySem.P.repr_of_bool ⟨.str _, H, I.tok _, ⟨_, rfl⟩, q⟩
  | int i =>
    obtain ⟨t, rfl⟩ := ru
    exact PySem.P.repr_of_int (of_decide_eq_true hs) ⟨.str _, H, I.tok _, ⟨_, rfl⟩, q⟩
  | str x =>
    obtain ⟨t, rfl⟩ := ru
    exact PySem.P.repr_of_str ⟨.str _, H, I.tok _, ⟨_, rfl⟩, q⟩ hz
  | lst h1 h2 =>
    rename_i a xs ds
    obtain ⟨as, rd⟩ := Dp.reads I (.list ds) (.ref a) u (.lst h1 h2) ru
    cases ru
    exact repr_of_reads' rd hs (PyData.noDict_hsm hn) hg (by omega) (fun _ _ e => e) (fun h' t tk hk => ⟨.str _, H, I.kept (t' := tk) hk, ⟨_, rfl⟩, q⟩) hz
  | tup h1 h2 =>
    rename_i a xs ds
    obtain ⟨as, rd⟩ := Dp.reads I (.tuple ds) (.ref a) u (.tup h1 h2) ru
    cases ru
    exact repr_of_reads' rd hs (PyData.noDict_hsm hn) hg (by omega) (fun _ _ e => e) (fun h' t tk hk => ⟨.str _, H, I.kept (t' := tk) hk, ⟨_, rfl⟩, q⟩) hz

/-! ### a text from behind -/
theorem rev_signs (z : Str) : ((strSliceIndices none none (-1) z.length).filterMap (z.cps[·]?)).toArray = z.cps.toList.reverse.toArray := by
  have e : strSliceIndices none none (-1) z.length = (List.range z.cps.size).reverse := by
    show sliceRange ((z.cps.size : Int) - 1) (-1) (-1) = _
    rw [PySem.W.krv_sliceRange, PySem.W.krv_range]
  rw [e, List.filterMap_reverse, PySem.W.krv_all]
def tRevT (te : TE) : TE := fun σ H Q => te σ H fun x H1 => ∃ z : Str, x = .str z ∧ z.length ≤ sizeLine ∧ Q (.str ⟨z.cps.toList.reverse.toArray⟩) H1
theorem pe_revT {X : Cx} {e : Expr} {te : TE} {k : Nat} {p1 p2 p3 pos : Pos} (he : PE X e te) : PE X (.Subscript e (.Slice none none (some (.UnaryOp .USub (.Constant (.int 1) k p1) p2)) p3) pos) (tRevT te) := by
  refine ⟨fun pins s σ H Q I h => Subscript_ (thn (he.run pins s σ H _ I h) fun v s1 ⟨x, H1, I1, r1, z, ex, hz, q⟩ => ?_)⟩
  subst ex
  obtain ⟨t, rfl⟩ := r1
  have step : PO X (some (.UnaryOp .USub (.Constant (.int 1) k p1) p2)) (tPart (tUn (rU fun i => .int (-i)) (tC (.int 1)))) := po_some (pe_un un_neg pe_int)
  refine wpAny_Slice (thn (po_none.run pins s1 σ H1 (fun o G => o = none ∧ G = H1) I1 ⟨rfl, rfl⟩) fun vl s2 ⟨l, H2, I2, pl, el, e2⟩ => ?_)
  subst e2 el
  refine thn (po_none.run pins s2 σ H2 (fun o G => o = none ∧ G = H2) I2 ⟨rfl, rfl⟩) fun vu s3 ⟨u, H3, I3, pu, eu, e3⟩ => ?_
  subst e3 eu
  refine thn (step.run pins s3 σ H3 (fun o G => o = some (-1) ∧ G = H3) I3 ⟨1, rfl, -1, rfl, rfl, rfl⟩) fun vs s4 ⟨o, H4, I4, ps, eo, e4⟩ => ?_
  subst e4 eo
  obtain ⟨l, rfl, el⟩ := IsPart.raw pl
  obtain ⟨u, rfl, eu⟩ := IsPart.raw pu
  obtain ⟨w, rfl, ew⟩ := IsPart.raw ps
  have I5 : Inv X pins σ H4 { s4 with heap := s4.heap.push { cls := .type "slice", data := .fields #[partValue l, partValue u, partValue w] } } :=
    I4.kept (t' := s4.toks) fun b ob g => Heap.get?_push_of_some _ g
  refine tail_any (T := "str") (ops := [.str z t, .ref s4.heap.objs.size]) (typeIs_str _ _ _) F.slot_str_getitem.lookup ?_ (by with_unfolding_all rfl)
  refine wpAny_getItem_str_slice (l := l) (u := u) (st := w) ⟨_, Heap.get?_push_size _ rfl, rfl, rfl⟩ (by rw [ew]; rfl) ?_
  unfold sliceMade slicePicked
  rw [el, eu, ew]
  show Made.post (if ((-1 : Int) == 1 && _) = true then _ else Made.str ⟨((strSliceIndices none none (-1) z.length).filterMap (z.cps[·]?)).toArray⟩) _ _
  rw [show ((-1 : Int) == 1) = false from rfl, Bool.false_and, if_neg Bool.false_ne_true, rev_signs]
  have hl : (⟨z.cps.toList.reverse.toArray⟩ : Str).length ≤ sizeLine := by
    show z.cps.toList.reverse.toArray.size ≤ sizeLine
    rw [List.size_toArray, List.length_reverse, Array.length_toList]
    exact hz
  exact ⟨hl, .str _, H4, I5.tok _, ⟨_, rfl⟩, q⟩

/-! ### enumerate of a text -/
def Iet (z : Str) : It := ⟨fun i _ => i < z.cps.size, fun i H v H' => ∃ T c, v = .ref T ∧ H T = none ∧ z.cps[i]? = some c ∧ H' = upd H T (.tup [.int (i : Nat), .str ⟨#[c]⟩]), fun i _ => z.cps.size ≤ i⟩
theorem turn_et {P : Program} {w : World} {K : PySem.W.Frag} {elts : List Expr} {kk : Nat} {tpos : Pos} (e it : Addr) (z : Str) (t : Tok) :
    Turn P w K (.Tuple elts kk tpos) (Iet z) [e, it] e (fun i h => ((∃ old, IsEnum h e it i old) ∧ h.IsStrIter it (strIterType z) z t i) ∧ e ≠ it ∧ i ≤ z.cps.size) where
  mem := List.mem_cons_self
  obj := fun i h st b hb => by
    obtain ⟨⟨⟨old, he⟩, ⟨o, ho, hc, hd⟩⟩, _⟩ := st
    rcases List.mem_cons.mp hb with rfl | hb
    · exact ⟨_, he, fun v g => nomatch g⟩
    · rw [List.mem_singleton.mp hb]
      exact ⟨o, ho, fun v g => by rw [hd] at g; cases g⟩
  keep := fun i h h' st k => by
    obtain ⟨⟨⟨old, he⟩, ⟨o, ho, hc, hd⟩⟩, hne⟩ := st
    exact ⟨⟨⟨old, k e List.mem_cons_self _ he⟩, o, k it (List.mem_cons_of_mem _ List.mem_cons_self) o ho, hc, hd⟩, hne⟩
  item := by
    intro X hP hw hK hc i pins s σ H E I hf st hg
    subst hP hw hK
    have hg' : i < z.cps.size := hg
    obtain ⟨st, hne, hi⟩ := st
    have D : Draws X.prog X.w X.A.in1 it [it] z.cps.size _ _ := Draws.text (show X.A.in1.handled = none from I.ok.hd hc) it z t
    have W := WalksT.enumerateD D e hne (fun q => hne (List.mem_singleton.mp q)) List.mem_cons_self
    have hel : e < s.heap.objs.size := by obtain ⟨⟨old, he⟩, _⟩ := st; exact Heap.lt_size he
    have hil : it < s.heap.objs.size := by obtain ⟨_, o, ho, _⟩ := st; exact Heap.lt_size ho
    refine W.item i s _ _ hg' st fun T vals h' tk hp hT isT mid hk => ?_
    obtain ⟨t1, x1, ⟨c, u1, hcx, rfl⟩, rfl⟩ := hp
    have nT := W.apart i T h' mid
    refine ⟨_, rfl, W.go elts kk tpos i T { s with heap := h', toks := tk } _ _ mid fun h2 st2 hk2 => ?_⟩
    obtain ⟨oT, gT, cT, nTT, dT⟩ := isT
    have gT2 := hk2 T oT nT gT
    have new : ObjOk X.prog X.w (upd H T (.tup [.int (i : Nat), .str ⟨#[c]⟩])) h2 T (.tup [.int (i : Nat), .str ⟨#[c]⟩]) :=
      ⟨by show 2 ≤ sizeLine; decide, [.int i t1, .str ⟨#[c]⟩ u1], .cons ⟨_, rfl⟩ (.cons ⟨_, rfl⟩ .nil), ⟨oT, gT2, cT, nTT, dT⟩⟩
    have I1 : Inv X pins σ (upd H T (.tup [.int (i : Nat), .str ⟨#[c]⟩])) { s with heap := h2, toks := tk } :=
      I.turnedNew (ch := [e, it]) (fun b ob hb g => hk2 b ob hb (hk b ob hb g)) hf hT new
    refine ⟨.ref T, _, I1, rfl, ⟨T, c, rfl, I.hok.fresh hT, hcx, rfl⟩, ⟨⟨?_, st2.2⟩, hne, hg'⟩, fun b hb => ?_⟩
    · exact st2.1
    · have hb' : b < s.heap.objs.size := by
        rcases List.mem_cons.mp hb with rfl | hb
        · exact hel
        · rw [List.mem_singleton.mp hb]; exact hil
      rw [upd_ne (Nat.ne_of_lt (Nat.lt_of_lt_of_le hb' hT))]
      exact (hf b hb).1
  done := by
    intro X hP hw hK hc i pins s σ H E I hf st hg
    subst hP hw hK
    obtain ⟨st, hne, hi⟩ := st
    have hg' : z.cps.size ≤ i := hg
    obtain rfl : i = z.cps.size := Nat.le_antisymm hi hg'
    have D : Draws X.prog X.w X.A.in1 it [it] z.cps.size _ _ := Draws.text (show X.A.in1.handled = none from I.ok.hd hc) it z t
    have W := WalksT.enumerateD D e hne (fun q => hne (List.mem_singleton.mp q)) List.mem_cons_self
    refine W.done s _ _ st fun h' tk hk => ⟨rfl, ?_⟩
    exact I.step (g' := s.gens) (d' := s.drawn) (ch := [e, it]) (fun b hb => ⟨(hf b hb).2.2.2.1, (hf b hb).2.1, (hf b hb).2.2.2.2.1, (hf b hb).2.2.2.2.2⟩) (fun b o _ _ hc g _ => hk b o hc g) (fun b o _ _ hc g _ => ⟨o.slots, hk b o hc g⟩)
      (fun _ _ _ _ n => n) (fun b o hc g => ⟨o, hk b o hc g⟩) (fun _ _ g => g) (fun _ _ _ g => g) (fun b ps g => ⟨#[], by rw [g]; simp⟩)
      (fun m hm => by
        obtain ⟨o, es, ep, ho, r⟩ := hm
        exact ⟨o, es, ep, hk _ o (fun q => (hf _ q).2.1 rfl) ho, r⟩)
      (fun b u g => by
        have nb : ∀ c v, H c = some v → c ∉ [e, it] := fun c v g q => by
          have g' := (hf c q).1
          rw [g'] at g; cases g
        refine (I.hok b u g).stay (fun c v hcv q => hk c v ?_ q) (fun _ q => q) fun _ _ q => q
        rcases hcv with rfl | hcv
        · exact nb _ _ g
        · exact nb _ _ hcv) I.bare
  self := fun A i s Q E st h => by
    obtain ⟨⟨⟨old, he⟩, _⟩, _⟩ := st
    exact wpAny_pyIter_enum he h
def iEnumT (ta : TA) : TI := fun σ H R => ta σ H fun vs H1 => ∃ z, vs = [.str z] ∧ R (Iet z) H1
theorem pi_enumT {X : Cx} {e : Expr} {ta : TA} {p pos tpos : Pos} {elts : List Expr} {kk : Nat} (hg : Gl X "enumerate") (hm : X.mg "enumerate" = none) (ha : PA X [e] ta) (hs : starEach [e] X.env = [(false, eval e X.env)] := by rfl) :
    PI X (.Tuple elts kk tpos) (.Call (.Name "enumerate" p) [e] [] pos) (iEnumT ta) := by
  refine ⟨fun pins s σ H R I h => Call_ (ld_blt I hg hm boot_enumerate (PyProof.Rows.callWith_type1 (thn (ha.run pos pins s σ H _ I h) fun us s1 ⟨vs, H1, I1, r1, z, ez, q⟩ => ?_) hs rfl))⟩
  subst ez
  obtain ⟨u, rfl, t, rfl⟩ := vals1 r1
  refine call_enumerate_str fun h' he hit hsz hk => wpAny_pyIter_enum he ?_
  refine ⟨s1.heap.objs.size + 1, [s1.heap.objs.size + 1, s1.heap.objs.size], _, _, H1, rfl, I1.kept (t' := s1.toks) hk, turn_et (s1.heap.objs.size + 1) s1.heap.objs.size z t, ⟨⟨⟨.none, he⟩, hit⟩, Nat.succ_ne_self _, Nat.zero_le _⟩, fun b hb => ?_, q⟩
  have hle : s1.heap.objs.size ≤ b := by
    rcases List.mem_cons.mp hb with rfl | hb
    · exact Nat.le_succ _
    · rw [List.mem_singleton.mp hb]
      exact Nat.le_refl _
  exact I1.fpOk hle (I1.hok.fresh hle)
theorem walk_et {z : Str} : Walk (Iet z) z.cps.size (fun _ => True) (fun i H v H' => ∃ T c, v = .ref T ∧ H T = none ∧ z.cps[i]? = some c ∧ H' = upd H T (.tup [.int (i : Nat), .str ⟨#[c]⟩])) :=
  ⟨fun _ _ hi _ => hi, fun _ _ => Nat.le_refl _, fun _ _ _ _ _ _ y => y⟩
end Gk
namespace Gk
open PySem PySem.Spec PyProof.Rows L2
/-! ### the box of draws -/
def Box (m : Nat) (H : Hp) (b : Addr) : Prop := ∃ x y s : Int, H b = some (.lst [.int x, .int y, .int s]) ∧ 0 ≤ s ∧ s ≤ m
theorem Box.up {m n : Nat} {H : Hp} {b : Addr} (h : Box m H b) (hn : m ≤ n) : Box n H b := by
  obtain ⟨x, y, s, e, h0, h1⟩ := h
  exact ⟨x, y, s, e, h0, by omega⟩
/-- all but the box is as it was -/
def But (b : Addr) (H H' : Hp) : Prop := ∀ a o, a ≠ b → H a = some o → H' a = some o
theorem But.refl (b : Addr) (H : Hp) : But b H H := fun _ _ _ h => h
theorem But.trans {b : Addr} {H H1 H2 : Hp} (x : But b H H1) (y : But b H1 H2) : But b H H2 := fun a o n h => y a o n (x a o n h)
theorem But.set {b : Addr} {H : Hp} {o : HO} : But b H (upd H b o) := fun a u n h => by rw [upd_ne n]; exact h
theorem But.new {b p : Addr} {H : Hp} {o : HO} (h : H p = none) : But b H (upd H p o) := fun a u _ e => by rw [upd_ne (ne_of_none e h)]; exact e
theorem But.of_same {b : Addr} {H H' : Hp} (h : Same H H') : But b H H' := fun a o _ e => h a o e
theorem same_new {H : Hp} {p : Addr} {o : HO} (h : H p = none) : Same H (upd H p o) := fun a u e => by rw [upd_ne (ne_of_none e h)]; exact e
theorem Box.same {m : Nat} {H H' : Hp} {b : Addr} (h : Box m H b) (s : Same H H') : Box m H' b := by
  obtain ⟨x, y, z, e, r⟩ := h
  exact ⟨x, y, z, s _ _ e, r⟩
theorem Box.ne {m : Nat} {H : Hp} {b p : Addr} (h : Box m H b) (hp : H p = none) : b ≠ p := by
  obtain ⟨x, y, z, e, r⟩ := h
  exact ne_of_none e hp
theorem But.seqL {b : Addr} {K : PySem.W.Frag} {H H' : Hp} {a : Addr} {xs : List V} (e : But b H H') (n : a ≠ b) (h : SqL K H a xs) : SqL K H' a xs := by
  rcases h with (h | ⟨o, h⟩) | h
  · exact .inl (.inl (e _ _ n h))
  · exact .inl (.inr ⟨o, e _ _ n h⟩)
  · exact .inr h
theorem But.seqT {b : Addr} {K : PySem.W.Frag} {H H' : Hp} {a : Addr} {xs : List V} (e : But b H H') (n : a ≠ b) (h : SqT K H a xs) : SqT K H' a xs := by
  rcases h with (h | ⟨o, h⟩) | h
  · exact .inl (.inl (e _ _ n h))
  · exact .inl (.inr ⟨o, e _ _ n h⟩)
  · exact .inr h
theorem Same.seqT {K : PySem.W.Frag} {H H' : Hp} {a : Addr} {xs : List V} (e : Same H H') (h : SqT K H a xs) : SqT K H' a xs := by
  rcases h with (h | ⟨o, h⟩) | h
  · exact .inl (.inl (e _ _ h))
  · exact .inl (.inr ⟨o, e _ _ h⟩)
  · exact .inr h
/-- what is read at an address that is not the box's -/
theorem box_not_tup {m : Nat} {K : PySem.W.Frag} {H : Hp} {b a : Addr} (h : Box m H b) {xs : List V} (t : H a = some (.tup xs)) : a ≠ b := by
  obtain ⟨x, y, z, e, r⟩ := h
  exact ne_of t e (fun q => HO.noConfusion q)

/-! ### defs with their names -/
structure Dfn (P : Program) (w : World) (K : PySem.W.Frag) (mg : Str → Option Value) (base : Heap) (k : Nat) (x : Str) (ps : List Str) (sp : Sp) : Prop where
  ex : ∃ (f : Addr) (fd : FuncData), FnOk P w K mg base L2.CX0 k f fd ps sp ∧ mg x = some (.ref f) ∧ PySem.W.keepIn K (.ref f) = true ∧ Binds K fd ps []
/-- .. where nothing is being shown -/
structure DfG (P : Program) (w : World) (K : PySem.W.Frag) (mg : Str → Option Value) (base : Heap) (k : Nat) (x : Str) (ps : List Str) (sp : Sp) : Prop where
  ex : ∃ (f : Addr) (fd : FuncData), FnG P w K mg base k f fd ps sp ∧ mg x = some (.ref f) ∧ PySem.W.keepIn K (.ref f) = true ∧ Binds K fd ps []
section
variable {X : Cx} {k j : Nat} {x : Str} {ps : List Str} {sp : Sp} {p pos : Pos} {e : Expr} {es : List Expr} {t : TA}
theorem pe_d (D : Dfn X.prog X.w X.K X.mg X.base k x ps sp) (hr : Room j X.A) (hk : k ≤ j) (hg : Gl X x) (ha : PA X (e :: es) t)
    (hdb : (x == ("__debug__" : Str)) = false := by decide) (he : starEach (e :: es) X.env = (false, eval e X.env) :: starEach es X.env := by rfl)
    (hpl : (backTo pos (starEach es X.env)).any (·.1) = false := by rfl) : PE X (.Call (.Name x p) (e :: es) [] pos) (tCall sp [] L2.E0 t) := by
  obtain ⟨f, fd, F, m, kp, b⟩ := D.ex
  exact L2.pe_call (F.mono hk) hr hg m kp b .nil L2.pass0 ha hdb he hpl
theorem pe_dg (D : DfG X.prog X.w X.K X.mg X.base k x ps sp) (hr : Room j X.A) (hd : X.A.guards = some []) (hk : k ≤ j) (hg : Gl X x) (ha : PA X (e :: es) t)
    (hdb : (x == ("__debug__" : Str)) = false := by decide) (he : starEach (e :: es) X.env = (false, eval e X.env) :: starEach es X.env := by rfl)
    (hpl : (backTo pos (starEach es X.env)).any (·.1) = false := by rfl) : PE X (.Call (.Name x p) (e :: es) [] pos) (tG sp t) := by
  obtain ⟨f, fd, F, m, kp, b⟩ := D.ex
  exact pe_g (F.weak hk) hr hd hg m kp b ha hdb he hpl
end
/-- an expression whose ways meet -/
def tMid (t : TE) : TE := fun σ H Q => ∃ Mid : V → Hp → Prop, t σ H Mid ∧ ∀ v H', Mid v H' → Q v H'
theorem pe_mid {X : Cx} {e : Expr} {t : TE} (h : PE X e t) : PE X e (tMid t) :=
  ⟨fun pins s σ H Q I ⟨M, h1, h2⟩ => thn (h.run pins s σ H M I h1) fun u s1 ⟨v, H1, I1, r, q⟩ => ⟨v, H1, I1, r, h2 v H1 q⟩⟩
/-- a test whose ways meet -/
def tMidT (t : TT) : TT := fun σ H Q => ∃ Mid : Bool → Hp → Prop, t σ H Mid ∧ ∀ b H', Mid b H' → Q b H'
/-- a def called by keywords alone -/
structure DfK (P : Program) (w : World) (K : PySem.W.Frag) (mg : Str → Option Value) (base : Heap) (k : Nat) (x : Str) (ps ks : List Str) (gV : List V → List V) (sp : Sp) : Prop where
  ex : ∃ (f : Addr) (fd : FuncData) (g : List Value → List Value → List Value), FnOk P w K mg base L2.CX0 k f fd ps sp ∧ mg x = some (.ref f) ∧ PySem.W.keepIn K (.ref f) = true ∧ KBn K fd ps 0 ks g (fun _ zs => gV zs)
theorem pe_dk {X : Cx} {k j : Nat} {x : Str} {ps ks : List Str} {sp : Sp} {gV : List V → List V} {p pos : Pos} {kws : List Keyword} {tk : TA} (D : DfK X.prog X.w X.K X.mg X.base k x ps ks gV sp) (hr : Room j X.A) (hk : k ≤ j) (hg : Gl X x)
    (hkw : PK X kws tk) (hall : (backToKw pos (keywordEach kws X.env)).all (·.1.isSome) = true := by rfl) (hks : (backToKw pos (keywordEach kws X.env)).filterMap (·.1) = ks := by rfl) (hdb : (x == ("__debug__" : Str)) = false := by decide)
    (hpl : ((backTo pos (starEach [] X.env)).any (·.1) || (backToKw pos (keywordEach kws X.env)).any (·.1.isNone)) = false := by rfl) :
    PE X (.Call (.Name x p) [] kws pos) (tKw ks.length gV sp tk) := by
  obtain ⟨f, fd, g, F, m, kp, b⟩ := D.ex
  exact pe_kw (F.mono hk) hr hg m kp b hkw hall hks hdb hpl
/-- text * n -/
theorem op_mulS {X : Cx} : OpR X (binaryOp .Mult) (fun x y H Q => ∃ z n, x = .str z ∧ y = .int n ∧ MulOk z n ∧ Q (.str (Txt.mul z n)) H) := by
  intro pins s σ H x y v u Q I rx ry h
  obtain ⟨z, n, rfl, rfl, hc, q⟩ := h
  obtain ⟨t, rfl⟩ := rx
  obtain ⟨t', rfl⟩ := ry
  exact SB.mul hc fun t2 k => ⟨.str _, H, I.tok _, ⟨_, rfl⟩, q⟩
/-- data that may be shown -/
structure Fine (d : PyData) : Prop where
  a : d.showable = true
  b : d.hasDict = false
  c : d.depth ≤ 40
  e : d.shown.length ≤ sizeLine
theorem Fine.of {d : PyData} (B : Nat) (hB : 8 ≤ B) (hB2 : B ≤ 1000) (a : d.showable = true) (b : d.hasDict = false) (c : d.depth ≤ 40) (l : d.leavesShort B = true) (w : d.weight ≤ 10000) : Fine d :=
  ⟨a, b, c, by
    have h := PyData.shown_le B hB d l
    have h2 : (B + 2) * d.weight ≤ 1002 * 10000 := Nat.mul_le_mul (by omega) w
    have h3 : sizeLine = 16777216 := sizeLine_eq
    omega⟩
theorem call_reprF {X : Cx} {k : Nat} (hr : Room k X.A) (hg : X.A.guards = some []) : CallR X (.builtin "repr") (fun xs H Q => ∃ v d, xs = [v] ∧ Dp X.K H v d ∧ Fine d ∧ Q (.str d.shown) H) :=
  fun pins s σ H xs us Q I r ⟨v, d, h1, h2, h3, q⟩ => call_reprD hr hg pins s σ H xs us Q I r ⟨v, d, h1, h2, h3.a, h3.b, h3.c, h3.e, q⟩
theorem fine_ints {a b : Int} (ha : a.natAbs < 10 ^ 20) (hb : b.natAbs < 10 ^ 20) : Fine (.list [.int a, .int b]) := by
  have len : ∀ c : Int, c.natAbs < 10 ^ 20 → (PyData.shown (.int c)).length ≤ 21 := fun c hc => by
    have h := int_text_length_le10 (a := c) (k := 20) (by decide) hc
    show (Str.ofString (toString c)).length ≤ 21
    rw [PySem.ofString_length]
    exact h
  have la := len a ha
  have lb := len b hb
  have ga : a.natAbs.log2 < 1920 := PySem.Flt.log2_lt_of (by decide) (Nat.lt_of_lt_of_le ha (by decide))
  have gb : b.natAbs.log2 < 1920 := PySem.Flt.log2_lt_of (by decide) (Nat.lt_of_lt_of_le hb (by decide))
  refine Fine.of 21 (by decide) (by decide) ?_ rfl (by simp [PyData.depth, PyData.depthAll]) ?_ (by simp only [PyData.weight, PyData.weightAll]; split <;> split <;> omega)
  · simp only [PyData.showable, PyData.showableAll, ga, gb, decide_true, Bool.and_self]
  · simp only [PyData.leavesShort, PyData.leavesShortAll, la, lb, decide_true, Bool.and_self]
/-- a promise that does not speak of what is raised, as a value -/
theorem sqL_at {K : PySem.W.Frag} {H : Hp} {a : Addr} {xs : List V} (h : H a = some (.lst xs)) : SqL K H a xs := SqL.of h
end Gk
namespace Gk
open PySem PySem.Spec PyProof.Rows L2
/-- the caller shows nothing -/
theorem caller_guards : callerA.guards = some [] := rfl
/-- the law's call, its promise told where nothing is being shown -/
theorem callG {P : Program} {w : World} {K : PySem.W.Frag} {mg mb : Str → Option Value} {k : Nat} {fa a : Addr} {fd : FuncData} {x : Str} {sp : Sp} {s1 : Shared} {vs : List Value} {ns : List Int}
    (KX : K.In s1.heap) (n1 : s1.heap.Ns mainGlobals mg) (n2 : s1.heap.Ns builtinsNs mb) (n3 : ∀ x : Str, x ≠ "__name__" → mb x = bootBuiltins x) (lim : s1.heap.NoLimit) (gen : s1.gens = #[])
    (at_ : s1.heap.get? a = some { cls := .type "list", data := .seq vs.toArray }) (iss : IntsAre vs ns) (few : ns.length ≤ sizeLine) (room : Room k callerA)
    (F : ∀ base : Heap, K.In base → base.Ns mainGlobals mg → FnG P w K mg base k fa fd [x] sp) (binds : ∀ (s : Shared) (u : Value), BindsTo s fd ⟨[u], []⟩ [(x, u)])
    (want : ∀ H : Hp, Only H → SqL K H a (ns.map V.int) → sp [.ref a] H (fun v _ => v = .bl true) L2.E0) :
    codeAny (model P w) callerA (.call (.ref fa) ⟨[.ref a], []⟩) (fun r s' => r = .ok (.ret (.bool true)) ∧ OldK s1.heap s'.heap ∧ s'.os = s1.os ∧ AllBare s'.gens) s1 := by
  have rv := L2.vals_ints iss
  have go : ∀ H : Hp, Only H → SqL K H a (ns.map V.int) → HOk P w H s1.heap → (∀ b, H b ≠ none → b = a) → (H a ≠ none → K.lookup a = none) →
      codeAny (model P w) callerA (.call (.ref fa) ⟨[.ref a], []⟩) (fun r s' => r = .ok (.ret (.bool true)) ∧ OldK s1.heap s'.heap ∧ s'.os = s1.os ∧ AllBare s'.gens) s1 := by
    intro H only there held alone apart
    have isA : ∀ {b : Addr} {u : HO}, H b = some u → b = a := fun {b u} e => alone b (fun z => by rw [e] at z; cases z)
    have free : ∀ {b : Addr} {o : Obj} {es : Array DictEntry} {ep : Nat}, s1.heap.get? b = some o → o.data = .dict es ep → H b = none := by
      intro b o es ep e d
      cases q : H b with
      | none => rfl
      | some u =>
        obtain rfl := isA q
        rw [at_] at e
        cases e
        exact Data.noConfusion (show Data.seq vs.toArray _ = Data.dict es ep from d)
    have nsB : ∀ {b : Addr} {m : Str → Option Value}, s1.heap.Ns b m → (hidT s1.heap H).Ns b m := by
      intro b m h
      obtain ⟨o, es, ep, e, d, r⟩ := h
      exact ⟨o, es, ep, hidT_get e (free e d), d, r⟩
    have KB : K.In (hidT s1.heap H) := by
      intro b o e
      refine hidT_get (KX b o e) ?_
      cases q : H b with
      | none => rfl
      | some u =>
        obtain rfl := isA q
        have z := apart (fun z => by rw [q] at z; cases z)
        rw [z] at e
        cases e
    obtain ⟨mc, c1, c2⟩ := lim
    have en : Env0 P w K mg (hidT s1.heap H) callerA [] s1 H :=
      { frames := rfl, mod := ⟨KB, nsB n1, ⟨mb, nsB n2, n3⟩, ⟨mc, nsB c1, c2⟩⟩, bs := fun b o e => of_hidT e, bsz := Nat.le_of_eq (hidT_size _ _), funs := trivial,
        frf := fun b hb => (nomatch (show b ∈ ([] : List Addr) from hb)), hok := held, bare := .of_eq gen }
    refine codeAny_mono ((F _ KB (nsB n1)).go callerA [] s1 H ⟨[.ref a], []⟩ [.ref a] [.ref a] _ room caller_guards en (binds s1 (.ref a)) (.cons rfl .nil) (want H only there)) fun r s' res => ?_
    match r, res with
    | .error _, res => exact False.elim res
    | .ok .next, res => exact False.elim res
    | .ok .brk, res => exact False.elim res
    | .ok .cont, res => exact False.elim res
    | .ok (.ret u), res =>
      obtain ⟨v, H1, os, bare, un, held1, rel, qv⟩ := res
      have qv : v = .bl true := qv
      subst qv
      obtain rfl : u = Value.bool true := rel
      refine ⟨rfl, OldK.of_keep fun b o e => ?_, os, bare⟩
      cases q : H b with
      | none => exact un.keep b o e q (fun z => (nomatch (show b ∈ ([] : List Addr) from z))) (fun z => (nomatch z))
      | some u =>
        rcases only b with z | ⟨ob, xs, z⟩
        · rw [q] at z
          cases z
        · have f1 := (held b _ z).1
          have f2 := (held1 b _ (un.frzs b ob _ z)).1
          rw [e] at f1
          cases f1
          exact f2
  cases kl : K.lookup a with
  | some o =>
    have e := KX a o kl
    rw [at_] at e
    cases e
    exact go (fun _ => none) (fun _ => .inl rfl) (.inr ⟨_, vs.toArray, _, kl, rfl, rfl, rfl, by rw [List.size_toArray, iss.length]; exact few, by simpa using rv⟩) (fun b u z => (nomatch (show (none : Option HO) = some u from z))) (fun b z => absurd rfl z) (fun z => absurd rfl z)
  | none =>
    refine go (fun b => if b = a then some (.frz { cls := .type "list", data := .seq vs.toArray } (.lst (ns.map V.int))) else none) ?_ (.inl (.inr ⟨_, if_pos rfl⟩)) ?_ ?_ (fun _ => kl)
    · intro b
      by_cases h : b = a
      · exact .inr ⟨_, _, if_pos h⟩
      · exact .inl (if_neg h)
    · intro b u z
      by_cases h : b = a
      · obtain rfl := Option.some.inj ((if_pos h).symm.trans z)
        subst h
        exact ⟨at_, by rw [List.length_map]; exact few, vs, _, rv, at_⟩
      · exact (nomatch ((if_neg h).symm.trans z))
    · intro b z
      by_cases h : b = a
      · exact h
      · exact absurd (if_neg h) z

/-- the goal behind the head -/
theorem walkG {l : PySem.W.OpenLaw} {n k : Nat} {q : Program} {loose : List Str} {XP : (Str → Option Value) → Heap → Prop} {YP : World → Heap → Prop} {d : DefRec} {K : Params → PySem.W.Frag} {sp : World → Sp} {x : Str}
    (h1 : l.most = some n) (h2 : n ≤ sizeLine) (h3 : d.params.defaults = []) (h4 : Room k callerA) (h5 : ∀ (w : World) (h : Heap), YP w h → (K w.params).In h)
    (F : ∀ (w : World) (mg : Str → Option Value) (fa : Addr) (h : Heap), (K w.params).In h → h.Ns mainGlobals mg → mg d.name = some (.ref fa) →
      ∃ fd : FuncData, (∀ (s : Shared) (u : Value), BindsTo s fd ⟨[u], []⟩ [(x, u)]) ∧ ∀ base : Heap, (K w.params).In base → base.Ns mainGlobals mg → FnG l.prog w (K w.params) mg base k fa fd [x] (sp w))
    (h6 : ∀ (w : World) (H : Hp) (a : Addr) (ns : List Int), ns.length ≤ n → Only H → SqL (K w.params) H a (ns.map V.int) → sp w [.ref a] H (fun v _ => v = .bl true) L2.E0) :
    PySem.W.WalkO q loose XP YP l.row.toRowW d [] (fun f vs => PySem.call f vs) :=
  Att.attach_call h1 h3 fun w s0 s1 mg mb fa o pm cd doc a vs ns G Y ho hd hcd hmg obj iss len gen => by
    obtain ⟨fd, hb, hF⟩ := F w mg fa _ (h5 w _ Y) G.T.g hmg
    exact callG (h5 w _ Y) G.T.g G.T.b G.T.builtins G.T.nolimit gen obj iss (Nat.le_trans len h2) h4 hF hb (fun H hO hS => h6 w H a ns len hO hS)
end Gk
namespace Gk
open PySem PySem.Spec PyProof.Rows L2
theorem mul_same (l : Addr) (its : Array Value) (n : Nat) (dd : Option Addr) (sl : Array (Option Value)) (u : Tok) :
    Meets (Builtin.«tuple.__mul__» ⟨[.ref l, .int 1 u], []⟩) (fun _ R s => s.heap.get? l = some { cls := .type "tuple", dict := dd, data := .seq its n, slots := sl } ∧ R (.ok (.ret (.ref l))) s) :=
  .of_wp fun prog w A R s h => by
    obtain ⟨hp, g, d, tk, os⟩ := s
    obtain ⟨hl, h⟩ := h
    have f1 := AutoSeq1.idx_int
    have c0 : (decide ((1 : Int) < -(2 ^ 63)) || decide ((1 : Int) ≥ 2 ^ 63)) = false := by decide
    have c1 : (its.isEmpty || (1 : Int) == 1) = true := by simp
    wp_walk using wpAny_loadPart' hl
    repeat (first
      | (refine wpAny_ite_false (decide_eq_false (by rw [c0]; exact Bool.false_ne_true)) ?_; wp_walk using wpAny_loadPart' hl)
      | (refine wpAny_ite_true (decide_eq_true (by rw [c1])) ?_; wp_walk using wpAny_loadPart' hl))
    all_goals first | exact ⟨_, rfl, h⟩ | skip
theorem mul_none (l : Addr) (its : Array Value) (n : Nat) (dd : Option Addr) (sl : Array (Option Value)) (x : Int) (u : Tok) (hx : x ≤ 0) (hx2 : -(2 ^ 63) ≤ x) (hi : its.isEmpty = false) :
    Meets (Builtin.«tuple.__mul__» ⟨[.ref l, .int x u], []⟩) (fun _ R s => s.heap.get? l = some { cls := .type "tuple", dict := dd, data := .seq its n, slots := sl } ∧
      R (.ok (.ret (Value.ref s.heap.objs.size))) { s with heap := s.heap.push { cls := Value.type "tuple", data := Data.seq #[] }, toks := s.toks }) :=
  .of_wp fun prog w A R s h => by
    obtain ⟨hp, g, d, tk, os⟩ := s
    obtain ⟨hl, h⟩ := h
    have f1 := AutoSeq1.idx_int
    have c0 : (decide (x < -(2 ^ 63)) || decide (x ≥ 2 ^ 63)) = false := by
      rw [decide_eq_false (by omega), decide_eq_false (by omega)] <;> rfl
    have c1 : (its.isEmpty || x == 1) = false := by
      rw [hi, Bool.false_or]
      exact beq_eq_false_iff_ne.mpr (by omega)
    have c2 : (decide (x ≤ 0) || its.isEmpty) = true := by
      rw [decide_eq_true hx] <;> rfl
    wp_walk using wpAny_loadPart' hl
    repeat (first
      | (refine wpAny_ite_false (decide_eq_false (by rw [c0]; exact Bool.false_ne_true)) ?_; wp_walk using wpAny_loadPart' hl)
      | (refine wpAny_ite_false (decide_eq_false (by rw [c1]; exact Bool.false_ne_true)) ?_; wp_walk using wpAny_loadPart' hl)
      | (refine wpAny_ite_true (decide_eq_true (by rw [c2])) ?_; wp_walk using wpAny_loadPart' hl))
    all_goals first | exact ⟨_, rfl, h⟩ | skip
/-- t * k, whatever object it is -/
def rRepU (K : PySem.W.Frag) : R2 := fun x y H Q => ∃ l k xs, x = .ref l ∧ y = .int k ∧ SqT K H l xs ∧ xs ≠ [] ∧ 0 ≤ k ∧ k ≤ 1000 ∧ xs.length ≤ 1000 ∧
  ∀ p H', Same H H' → SqT K H' p (List.replicate k.toNat xs).flatten → Q (.ref p) H'
section
variable {X : Cx}
theorem op_repU : OpR X (binaryOp .Mult) (rRepU X.K) := by
  intro pins s σ H x y v u Q I rx ry h
  obtain ⟨l, k, xs, rfl, rfl, hT, hne, h0, h1, hz, q⟩ := h
  by_cases h2 : 2 ≤ k
  · exact op_repT pins s σ H _ _ v u Q I rx ry ⟨l, k, xs, rfl, rfl, hT, hne, h2, h1, hz, fun p np => q p _ (same_new np) (.inl (.inl upd_same))⟩
  · cases rx
    obtain ⟨t, rfl⟩ := ry
    obtain ⟨its, r, ⟨⟨cls, dd, data, sl⟩, ho, hc, n, hd⟩, hs⟩ := I.tuple hT
    simp only at hc hd
    subst hc hd
    have many : its.length = xs.length := r.length.symm
    have full : its.toArray.isEmpty = false := by
      cases its with
      | nil => exact absurd (List.eq_nil_of_length_eq_zero many.symm) hne
      | cons a b => rfl
    by_cases h3 : k = 1
    · subst h3
      refine wpAny_binaryOp_repeat_ref (T := "tuple") (U := "int") (by decide) ⟨_, ho, rfl⟩ (fun s' => typeIs_int s' 1 t) noFill_tuple_mul F.fills_int_mul F.slot_int_rmul repeat_tuple F.slot_int_index.lookup
        (call_meets F.slot_int_rmul (typeIs_int s 1 t) F.entry_int_rmul (F.args_int_rmul_2 _ _) (int_rmul_tuple 1 t l its.toArray n dd sl)
          ⟨ho, rfl, ⟨_, ho, rfl⟩, call_meets F.slot_tuple_mul ⟨_, ho, rfl⟩ F.entry_tuple_mul (F.args_tuple_mul_2 _ _) (mul_same l its.toArray n dd sl t) ⟨ho, ?_⟩⟩)
      refine ⟨.ref l, H, I, rfl, q l H (Same.refl H) ?_⟩
      show SqT X.K H l ([xs].flatten)
      rw [List.flatten_cons, List.flatten_nil, List.append_nil]
      exact hT
    · have h4 : k = 0 := by omega
      subst h4
      refine wpAny_binaryOp_repeat_ref (T := "tuple") (U := "int") (by decide) ⟨_, ho, rfl⟩ (fun s' => typeIs_int s' 0 t) noFill_tuple_mul F.fills_int_mul F.slot_int_rmul repeat_tuple F.slot_int_index.lookup
        (call_meets F.slot_int_rmul (typeIs_int s 0 t) F.entry_int_rmul (F.args_int_rmul_2 _ _) (int_rmul_tuple 0 t l its.toArray n dd sl)
          ⟨ho, rfl, ⟨_, ho, rfl⟩, call_meets F.slot_tuple_mul ⟨_, ho, rfl⟩ F.entry_tuple_mul (F.args_tuple_mul_2 _ _) (mul_none l its.toArray n dd sl 0 t (by decide) (by decide) full) ⟨ho, ?_⟩⟩)
      have nf : H s.heap.objs.size = none := I.hok.fresh (Nat.le_refl _)
      exact ⟨.ref s.heap.objs.size, upd H s.heap.objs.size (.tup []), I.laid (t' := s.toks) (fun b ob g => Heap.get?_push_of_some _ g) (Nat.le_refl _) ⟨Nat.zero_le _, [], .nil, IsTup.new _ _⟩, rfl, q _ _ (same_new nf) (.inl (.inl upd_same))⟩
/-- t + u, whatever object it is -/
def rCatU (K : PySem.W.Frag) : R2 := fun x y H Q => ∃ a b xs ys, x = .ref a ∧ y = .ref b ∧ SqT K H a xs ∧ SqT K H b ys ∧ xs.length + ys.length ≤ sizeLine ∧ ∀ p H', Same H H' → SqT K H' p (xs ++ ys) → Q (.ref p) H'
theorem op_catU : OpR X (binaryOp .Add) (rCatU X.K) := by
  intro pins s σ H x y v u Q I rx ry h
  obtain ⟨a, b, xs, ys, rfl, rfl, ha, hb, hz, q⟩ := h
  refine op_catA pins s σ H _ _ v u Q I rx ry ⟨a, b, xs, ys, rfl, rfl, ha, hb, hz, fun e => ?_, fun _ e => ?_, fun _ _ p np => q p _ (same_new np) (.inl (.inl upd_same))⟩
  · subst e
    exact q b H (Same.refl H) hb
  · subst e
    exact q a H (Same.refl H) (by rw [List.append_nil]; exact ha)
theorem cut_whole {xs : List V} {lo hi : Option Int} (h : HT.sIx xs.length 0 lo = 0 ∧ HT.sIx xs.length xs.length hi = xs.length) : cutV xs lo hi = xs := by
  unfold cutV
  rw [h.1, h.2]
  simp
/-- t[lo:hi], whatever object it is -/
def rSlU (K : PySem.W.Frag) : V → Option Int → Option Int → Hp → VK → Prop := fun x lo hi H Q => ∃ a xs, x = .ref a ∧ SqT K H a xs ∧ ∀ p H', Same H H' → SqT K H' p (cutV xs lo hi) → Q (.ref p) H'
theorem sl_tupU : SlR X (rSlU X.K) := by
  intro pins s σ H x v vl vu lo hi sl Q I rx hs pl pu h
  obtain ⟨a, xs, rfl, hx, q⟩ := h
  exact sl_tupA pins s σ H _ v vl vu lo hi sl Q I rx hs pl pu ⟨a, xs, rfl, hx, fun e => q a H (Same.refl H) (by rw [cut_whole e]; exact hx), fun _ p np => q p _ (same_new np) (.inl (.inl upd_same))⟩
end
theorem cut_to {xs : List V} (n : Nat) : cutV xs none (some (n : Int)) = xs.take n := by
  unfold cutV
  rw [HT.sIx_none, HT.sIx_nat]
  show ((xs.drop 0).take (min n xs.length - 0)) = _
  rw [List.drop_zero, Nat.sub_zero, Nat.min_comm, List.take_eq_take_iff]
  omega
theorem cut_from {xs : List V} (n : Nat) : cutV xs (some (n : Int)) none = xs.drop n := by
  unfold cutV
  rw [HT.sIx_none, HT.sIx_nat]
  by_cases h : n ≤ xs.length
  · rw [Nat.min_eq_left h, List.take_of_length_le (by rw [List.length_drop]; exact Nat.le_refl _)]
  · rw [Nat.min_eq_right (by omega), List.drop_eq_nil_of_le (Nat.le_refl _), List.drop_eq_nil_of_le (by omega)]
    exact List.take_nil
end Gk
namespace Gk
open PySem PySem.Spec PyProof.Rows L2
/-! ### data that is easily shown and compared -/
mutual
def tame : PyData → Bool
  | .none | .bool _ => true
  | .int i => decide (i.natAbs < 10 ^ 20)
  | .str x => x.cps.all (· < 0x110000)
  | .list xs | .tuple xs => tameAll xs
  | .dict _ => false
def tameAll : List PyData → Bool
  | [] => true
  | x :: xs => tame x && tameAll xs
end
mutual
def cost : PyData → Nat
  | .none | .bool _ | .int _ => 70
  | .str x => x.cps.size + 1
  | .list xs | .tuple xs => costAll xs
  | .dict _ => 0
def costAll : List PyData → Nat
  | [] => 1
  | x :: xs => cost x + 1 + costAll xs
end
theorem int_len20 {c : Int} (hc : c.natAbs < 10 ^ 20) : (PyData.shown (.int c)).length ≤ 21 := by
  have h := int_text_length_le10 (a := c) (k := 20) (by decide) hc
  show (Str.ofString (toString c)).length ≤ 21
  rw [PySem.ofString_length]
  exact h
theorem int_log20 {c : Int} (hc : c.natAbs < 10 ^ 20) : c.natAbs.log2 < 68 := PySem.Flt.log2_lt_of (by decide) (Nat.lt_of_lt_of_le hc (by decide))
mutual
theorem tame_showable : ∀ d : PyData, tame d = true → d.showable = true
  | .none, _ => rfl
  | .bool _, _ => rfl
  | .int i, h => by
    have h1 := int_log20 (of_decide_eq_true (by simpa only [tame] using h))
    simp only [PyData.showable]
    exact decide_eq_true (by omega)
  | .str _, _ => rfl
  | .list xs, h => by simpa only [PyData.showable] using tame_showableAll xs (by simpa only [tame] using h)
  | .tuple xs, h => by simpa only [PyData.showable] using tame_showableAll xs (by simpa only [tame] using h)
  | .dict _, h => by simp [tame] at h
theorem tame_showableAll : ∀ ds : List PyData, tameAll ds = true → PyData.showableAll ds = true
  | [], _ => rfl
  | x :: xs, h => by
    simp only [tameAll, Bool.and_eq_true] at h
    simp only [PyData.showableAll, tame_showable x h.1, tame_showableAll xs h.2, Bool.and_self]
end
mutual
theorem tame_nodict : ∀ d : PyData, tame d = true → d.hasDict = false
  | .none, _ => rfl
  | .bool _, _ => rfl
  | .int _, _ => rfl
  | .str _, _ => rfl
  | .list xs, h => by simpa only [PyData.hasDict] using tame_nodictAll xs (by simpa only [tame] using h)
  | .tuple xs, h => by simpa only [PyData.hasDict] using tame_nodictAll xs (by simpa only [tame] using h)
  | .dict _, h => by simp [tame] at h
theorem tame_nodictAll : ∀ ds : List PyData, tameAll ds = true → PyData.hasDictAll ds = false
  | [], _ => rfl
  | x :: xs, h => by
    simp only [tameAll, Bool.and_eq_true] at h
    simp only [PyData.hasDictAll, tame_nodict x h.1, tame_nodictAll xs h.2, Bool.or_self]
end
mutual
theorem tame_short : ∀ d : PyData, tame d = true → d.leavesShort 21 = true
  | .none, _ => rfl
  | .bool _, _ => rfl
  | .int i, h => by
    have h1 := int_len20 (of_decide_eq_true (by simpa only [tame] using h))
    simp only [PyData.leavesShort]
    exact decide_eq_true h1
  | .str x, h => by
    have h1 : x.cps.all (· < 0x110000) = true := by simpa only [tame] using h
    simp only [PyData.leavesShort, List.all_eq_true, decide_eq_true_eq]
    intro c hc
    rw [Array.all_eq_true_iff_forall_mem] at h1
    have h2 := h1 c (Array.mem_toList_iff.mp hc)
    have h3 : c < 0x110000 := by simpa using h2
    exact Nat.lt_of_lt_of_le h3 (by decide)
  | .list xs, h => by simpa only [PyData.leavesShort] using tame_shortAll xs (by simpa only [tame] using h)
  | .tuple xs, h => by simpa only [PyData.leavesShort] using tame_shortAll xs (by simpa only [tame] using h)
  | .dict _, h => by simp [tame] at h
theorem tame_shortAll : ∀ ds : List PyData, tameAll ds = true → PyData.leavesShortAll 21 ds = true
  | [], _ => rfl
  | x :: xs, h => by
    simp only [tameAll, Bool.and_eq_true] at h
    simp only [PyData.leavesShortAll, tame_short x h.1, tame_shortAll xs h.2, Bool.and_self]
end
mutual
theorem tame_weight : ∀ d : PyData, tame d = true → d.weight ≤ cost d
  | .none, _ => Nat.zero_le _
  | .bool _, _ => Nat.zero_le _
  | .int i, h => by
    have h1 := int_log20 (of_decide_eq_true (by simpa only [tame] using h))
    simp only [PyData.weight, cost]
    split <;> omega
  | .str x, h => by
    simp only [PyData.weight, cost]
    omega
  | .list xs, h => by simpa only [PyData.weight, cost] using tame_weightAll xs (by simpa only [tame] using h)
  | .tuple xs, h => by simpa only [PyData.weight, cost] using tame_weightAll xs (by simpa only [tame] using h)
  | .dict _, h => by simp [tame] at h
theorem tame_weightAll : ∀ ds : List PyData, tameAll ds = true → PyData.weightAll ds ≤ costAll ds
  | [], _ => Nat.zero_le _
  | x :: xs, h => by
    simp only [tameAll, Bool.and_eq_true] at h
    have h1 := tame_weight x h.1
    have h2 := tame_weightAll xs h.2
    simp only [PyData.weightAll, costAll]
    omega
end
mutual
theorem tame_lay : ∀ d : PyData, tame d = true → d.canLay0 = true
  | .none, _ => rfl
  | .bool _, _ => rfl
  | .int _, _ => rfl
  | .str x, h => by
    have h1 : x.cps.all (· < 0x110000) = true := by simpa only [tame] using h
    simpa only [PyData.canLay0, PyData.strOk] using h1
  | .list xs, h => by simpa only [PyData.canLay0] using tame_layAll xs (by simpa only [tame] using h)
  | .tuple xs, h => by simpa only [PyData.canLay0] using tame_layAll xs (by simpa only [tame] using h)
  | .dict _, h => by simp [tame] at h
theorem tame_layAll : ∀ ds : List PyData, tameAll ds = true → PyData.canLayAll0 ds = true
  | [], _ => rfl
  | x :: xs, h => by
    simp only [tameAll, Bool.and_eq_true] at h
    simp only [PyData.canLayAll0, tame_lay x h.1, tame_layAll xs h.2, Bool.and_self]
end
theorem Fine.tame {d : PyData} (h : Gk.tame d = true) (hd : d.depth ≤ 40) (hc : cost d ≤ 500000) : Fine d :=
  ⟨tame_showable d h, tame_nodict d h, hd, by
    have h1 := PyData.shown_le 21 (by decide) d (tame_short d h)
    have h2 := tame_weight d h
    have h3 : sizeLine = 16777216 := sizeLine_eq
    omega⟩
theorem tame_shaped {d : PyData} (h : tame d = true) (hd : d.depth ≤ 40) : SeqAt.shaped d = true := by
  unfold SeqAt.shaped
  rw [tame_lay d h, Bool.true_and]
  exact decide_eq_true (by omega)

/-! ### data of tuples stays while other things change -/
def Keep (K : PySem.W.Frag) (H H' : Hp) : Prop := ∀ a xs, SqT K H a xs → SqT K H' a xs
theorem Keep.refl {K : PySem.W.Frag} {H : Hp} : Keep K H H := fun _ _ h => h
theorem Keep.trans {K : PySem.W.Frag} {H H1 H2 : Hp} (a : Keep K H H1) (b : Keep K H1 H2) : Keep K H H2 := fun x xs h => b x xs (a x xs h)
theorem Same.keep {K : PySem.W.Frag} {H H' : Hp} (e : Same H H') : Keep K H H' := fun _ _ h => Same.seqT e h
theorem But.keep {K : PySem.W.Frag} {H H' : Hp} {b : Addr} {m : Nat} (e : But b H H') (hb : Box m H b) : Keep K H H' := by
  intro a xs h
  obtain ⟨x, y, z, g, _⟩ := hb
  rcases h with (h | ⟨o, h⟩) | h
  · exact .inl (.inl (e _ _ (ne_of h g (fun q => HO.noConfusion q)) h))
  · exact .inl (.inr ⟨o, e _ _ (ne_of h g (fun q => HO.noConfusion q)) h⟩)
  · exact .inr h
/-- all but the box, read: a list or a tuple that is not the box -/
theorem But.keepL {K : PySem.W.Frag} {H H' : Hp} {b a : Addr} {xs : List V} (e : But b H H') (n : a ≠ b) (h : SqL K H a xs) : SqL K H' a xs := e.seqL n h
mutual
def tups : PyData → Bool
  | .none | .bool _ | .int _ | .str _ => true
  | .tuple xs => tupsAll xs
  | .list _ | .dict _ => false
def tupsAll : List PyData → Bool
  | [] => true
  | x :: xs => tups x && tupsAll xs
end
mutual
theorem Dp.keep {K : PySem.W.Frag} {H H' : Hp} (k : Keep K H H') : ∀ (d : PyData) (v : V), tups d = true → Dp K H v d → Dp K H' v d
  | .none, _, _, h => by cases h; exact .non
  | .bool _, _, _, h => by cases h; exact .bl _
  | .int _, _, _, h => by cases h; exact .int _
  | .str _, _, _, h => by cases h; exact .str _
  | .tuple ds, _, t, h => by
    cases h with
    | tup h1 h2 => exact .tup (k _ _ h1) (DpAll.keep k ds _ (by simpa only [tups] using t) h2)
  | .list _, _, t, _ => by simp [tups] at t
  | .dict _, _, t, _ => by simp [tups] at t
theorem DpAll.keep {K : PySem.W.Frag} {H H' : Hp} (k : Keep K H H') : ∀ (ds : List PyData) (vs : List V), tupsAll ds = true → DpAll K H vs ds → DpAll K H' vs ds
  | [], _, _, h => by cases h; exact .nil
  | d :: ds, _, t, h => by
    simp only [tupsAll, Bool.and_eq_true] at t
    cases h with
    | cons h1 h2 => exact .cons (Dp.keep k d _ t.1 h1) (DpAll.keep k ds _ t.2 h2)
end
section
variable {K : PySem.W.Frag} {H : Hp}
theorem DpAll.len : ∀ {vs : List V} {ds : List PyData}, DpAll K H vs ds → vs.length = ds.length
  | _, _, .nil => rfl
  | _, _, .cons _ t => by rw [List.length_cons, List.length_cons, DpAll.len t]
theorem DpAll.take : ∀ {vs : List V} {ds : List PyData} (n : Nat), DpAll K H vs ds → DpAll K H (vs.take n) (ds.take n)
  | _, _, 0, _ => .nil
  | _, _, _ + 1, .nil => .nil
  | _, _, n + 1, .cons h t => .cons h (DpAll.take n t)
theorem DpAll.drop : ∀ {vs : List V} {ds : List PyData} (n : Nat), DpAll K H vs ds → DpAll K H (vs.drop n) (ds.drop n)
  | _, _, 0, h => h
  | _, _, _ + 1, .nil => .nil
  | _, _, n + 1, .cons _ t => DpAll.drop n t
theorem DpAll.app : ∀ {vs us : List V} {ds es : List PyData}, DpAll K H vs ds → DpAll K H us es → DpAll K H (vs ++ us) (ds ++ es)
  | _, _, _, _, .nil, h => h
  | _, _, _, _, .cons h t, h2 => .cons h (DpAll.app t h2)
theorem DpAll.rep {vs : List V} {ds : List PyData} (h : DpAll K H vs ds) : ∀ n : Nat, DpAll K H (List.replicate n vs).flatten (List.replicate n ds).flatten
  | 0 => .nil
  | n + 1 => by
    rw [List.replicate_succ, List.replicate_succ, List.flatten_cons, List.flatten_cons]
    exact DpAll.app h (DpAll.rep h n)
theorem DpAll.at : ∀ {vs : List V} {ds : List PyData} {i : Nat} {v : V} {d : PyData}, DpAll K H vs ds → vs[i]? = some v → ds[i]? = some d → Dp K H v d
  | _, _, _, _, _, .nil, h, _ => by simp at h
  | _, _, 0, _, _, .cons h _, e1, e2 => by
    obtain rfl := Option.some.inj e1
    obtain rfl := Option.some.inj e2
    exact h
  | _, _, i + 1, _, _, .cons _ t, e1, e2 => DpAll.at (i := i) t (by simpa using e1) (by simpa using e2)
theorem DpAll.ints : ∀ l : List Int, DpAll K H (l.map V.int) (l.map PyData.int)
  | [] => .nil
  | i :: l => .cons (.int i) (DpAll.ints l)
end
end Gk
namespace Pf
open PySem PySem.Spec PyProof.Rows L2 Gk
def topS (i : Nat) : Stmt := PySem.Challenge.pw_pastenough_k03_branches_and_their_outcom.main.body.getD i (.Pass ⟨0, 0, 0, 0⟩)
abbrev sTake : Stmt := topS 11
abbrev sOf : Stmt := topS 12
abbrev sBox : Stmt := topS 10
theorem scOf : FnScope ["_law_box_here", "_law_some"] ["_law_box_here", "_law_some"] (defScope sOf) := ⟨rfl, rfl, rfl, by decide +kernel, rfl, by decide +kernel, by decide +kernel⟩
theorem scBox : FnScope ["_law_script", "_law_k", "_law_digits", "_law_own"] ["_law_script", "_law_k"] (defScope sBox) := ⟨rfl, rfl, rfl, by decide +kernel, rfl, by decide +kernel, by decide +kernel⟩
theorem scTake : FnScope ["_law_box_here", "_law_many", "_law_digit", "_law_drawn"] ["_law_box_here", "_law_many"] (defScope sTake) := ⟨rfl, rfl, rfl, by decide +kernel, rfl, by decide +kernel, by decide +kernel⟩
def spTake : Sp := fun vs H Q _ => ∃ (b : Addr) (n : Int) (m : Nat), vs = [.ref b, .int n] ∧ 0 < n ∧ n < 1073741824 ∧ Box m H b ∧ m < 1000000000 ∧
  ∀ (d : Int) (H' : Hp), 0 ≤ d → d < n → But b H H' → Box (m + 1) H' b → (∀ p, p ≠ b → H' p = H p) → Q (.int d) H'

section
variable {P : Program} {w : World} {K : PySem.W.Frag} {mg : Str → Option Value} {base : Heap}
theorem ok_take {f : Addr} {fd : FuncData} {k : Nat} (F : L2.Fun K "_law_take" "_law_take" sTake f fd) : FnOk P w K mg base L2.CX0 (k + 1) f fd ["_law_box_here", "_law_many"] spTake := by
  refine F.ok scTake (fun vs H Q E h => ?_) (fun cdv A outer s H vs Q E hr h => ?_)
  · obtain ⟨b, n, m, rfl, _⟩ := h
    rfl
  · obtain ⟨b, n, m, rfl, n0, n1, ⟨x, y, z, hb, z0, z1⟩, hm, q⟩ := h
    refine ⟨_, pss_cons (ps_if (pt_cmpR op_gt (pe_ix ix_list (pv 0) pe_int (fun _ _ => rfl)) pe_int (nomark _))
        (pss_cons (ps_set (i := 2) scTake.nd rfl (.inl rfl) (pe_op op_mod (pe_ix ix_list (pv 0) pe_int (fun _ _ => rfl)) (pv 1)))
        (pss_cons (ps_asg (pe_op op_fdiv (pe_ix ix_list (pv 0) pe_int (fun _ _ => rfl)) (pv 1)) (pg_sub (pv 0) pe_int set_list))
        (pss_one (ps_ret (pv 2))))) pss_nil)
      (pss_cons (ps_asg (pe_op op_add (pe_ix ix_list (pv 0) pe_int (fun _ _ => rfl)) pe_int) (pg_sub (pv 0) pe_int set_list))
      (pss_cons (ps_set (i := 3) scTake.nd rfl (.inl rfl) (pe_op op_mod (pe_op op_mul (pe_op op_add (pe_op op_add (pe_ix ix_list (pv 0) pe_int (fun _ _ => rfl))
          (pe_op op_mul (pe_op op_mul pe_int (pe_ix ix_list (pv 0) pe_int (fun _ _ => rfl))) (pe_ix ix_list (pv 0) pe_int (fun _ _ => rfl)))) pe_int) pe_int) pe_int))
      (pss_cons (ps_set (i := 3) scTake.nd rfl (.inl rfl) (pe_op op_mod (pe_op op_mul (pv 3) (pe_op op_add (pe_op op_mod (pv 3) pe_int) (pe_op op_mul pe_int (pe_ix ix_list (pv 0) pe_int (fun _ _ => rfl))))) pe_int))
      (pss_one (ps_ret (pe_op op_mod (pe_op op_add (pe_op op_fdiv (pv 3) pe_int) (pe_op op_fdiv (pv 3) pe_int)) (pv 1))))))), ?_⟩
    refine ⟨.ref b, rfl, b, _, 0, .int x, rfl, rfl, SqL.of hb, rfl, x, 0, rfl, rfl, _, rfl, ite2 (fun e => ?_) (fun e => ?_)⟩
    · refine ⟨.ref b, rfl, b, _, 0, .int x, rfl, rfl, SqL.of hb, rfl, .int n, rfl, x, n, rfl, rfl, n0, ?_⟩
      refine ⟨.ref b, rfl, b, _, 0, .int x, rfl, rfl, SqL.of hb, rfl, .int n, rfl, x, n, rfl, rfl, ⟨n0, n1⟩, ?_⟩
      refine ⟨.ref b, rfl, b, _, _, 0, rfl, rfl, hb, rfl, ?_⟩
      refine ⟨.int (x % n), rfl, q _ _ (Int.emod_nonneg _ (by omega)) (Int.emod_lt_of_pos _ n0) But.set ⟨_, _, _, upd_same, z0, by omega⟩ fun p hp => upd_ne hp⟩
    · have hz : (z + 1 : Int) < 2 ^ 64 := by omega
      refine ⟨.ref b, rfl, b, _, 2, .int z, rfl, rfl, SqL.of hb, rfl, z, 1, rfl, rfl, ?_⟩
      refine ⟨.ref b, rfl, b, _, _, 2, rfl, rfl, hb, rfl, ?_⟩
      have h1 : upd H b (.lst [.int x, .int y, .int (z + 1)]) b = some (.lst [.int x, .int y, .int (z + 1)]) := upd_same
      refine ⟨.ref b, rfl, b, _, 1, .int y, rfl, rfl, SqL.of h1, rfl, .ref b, rfl, b, _, 2, .int (z + 1), rfl, rfl, SqL.of h1, rfl, _, _, rfl, rfl, .inl ⟨by decide, by decide⟩,
        .ref b, rfl, b, _, 2, .int (z + 1), rfl, rfl, SqL.of h1, rfl, _, _, rfl, rfl, .inr ⟨by omega, hz⟩, _, _, rfl, rfl, _, _, rfl, rfl, _, _, rfl, rfl, .inr ⟨by decide, by decide⟩, _, _, rfl, rfl, by show (0 : Int) < 2305843009213693921; decide, ?_⟩
      refine ⟨_, rfl, _, rfl, _, _, rfl, rfl, by show (0 : Int) < 1000033; decide, .ref b, rfl, b, _, 2, .int (z + 1), rfl, rfl, SqL.of h1, rfl, _, _, rfl, rfl, .inl ⟨by decide, by decide⟩, _, _, rfl, rfl, _, _, rfl, rfl,
        .inl ⟨Int.lt_of_lt_of_le (by decide) (Int.emod_nonneg _ (by decide)), Int.lt_trans (Int.emod_lt_of_pos _ (by decide)) (by decide)⟩, _, _, rfl, rfl, by show (0 : Int) < 2305843009213693907; decide, ?_⟩
      refine ⟨_, rfl, _, _, rfl, rfl, ⟨by decide, by decide⟩, _, rfl, _, _, rfl, rfl, ⟨by decide, by decide⟩, _, _, rfl, rfl, .int n, rfl, _, n, rfl, rfl, n0, ?_⟩
      exact q _ _ (Int.emod_nonneg _ (by omega)) (Int.emod_lt_of_pos _ n0) But.set ⟨_, _, _, h1, by omega, by omega⟩ fun p hp => upd_ne hp
def spOf (K : PySem.W.Frag) : Sp := fun vs H Q _ => ∃ (b a : Addr) (xs : List V) (m : Nat), vs = [.ref b, .ref a] ∧ SqL K H a xs ∧ a ≠ b ∧ 0 < xs.length ∧ xs.length ≤ 1000 ∧ Box m H b ∧ m < 1000000000 ∧
  ∀ (i : Nat) (v : V) (H' : Hp), xs[i]? = some v → But b H H' → Box (m + 1) H' b → (∀ p, p ≠ b → H' p = H p) → Q v H'
theorem ok_of {f : Addr} {fd : FuncData} {k : Nat} (D : Dfn P w K mg base k "_law_take" ["_law_box_here", "_law_many"] spTake) (ml : mg "len" = none)
    (F : L2.Fun K "_law_of" "_law_of" sOf f fd) : FnOk P w K mg base L2.CX0 (k + 1) f fd ["_law_box_here", "_law_some"] (spOf K) := by
  refine F.ok scOf (fun vs H Q E h => ?_) (fun cdv A outer s H vs Q E hr h => ?_)
  · obtain ⟨b, a, xs, m, rfl, _⟩ := h
    rfl
  · obtain ⟨b, a, xs, m, rfl, hS, hne, hl, hl2, hb, hm, q⟩ := h
    refine ⟨_, pss_one (ps_ret (pe_ix ix_list (pv 1) (pe_d D hr (Nat.le_refl _) (by rfl) (pa_cons (pv 0) (pa_cons (pe_callB call_len_seq (by rfl) ml PySem.boot_len (pa_cons (pv 1) pa_nil)) pa_nil))) (fun _ _ => rfl))), ?_⟩
    refine ⟨.ref a, rfl, .ref b, rfl, .ref a, rfl, a, xs, rfl, .inl hS, b, _, m, rfl, by omega, by omega, hb, hm, fun d H' d0 d1 bt bx same => ?_⟩
    have hi : d.toNat < xs.length := by omega
    have g : xs[d.toNat]? = some xs[d.toNat] := List.getElem?_eq_getElem hi
    have ga : atI xs d = some xs[d.toNat] := by
      have := atI_nat g
      rwa [Int.toNat_of_nonneg d0] at this
    exact ⟨a, xs, d, _, rfl, rfl, bt.seqL hne hS, ga, q _ _ H' g bt bx same⟩
def spBox (K : PySem.W.Frag) : Sp := fun vs H Q _ => ∃ (a : Addr) (ns : List Int) (k : Int), vs = [.ref a, .int k] ∧ SqL K H a (ns.map V.int) ∧ ns.length ≤ 63 ∧ 0 ≤ k ∧ k ≤ 1000 ∧
  ∀ p x y, H p = none → Q (.ref p) (upd H p (.lst [.int x, .int y, .int 0]))
theorem flag_small (c : Bool) : -(2 ^ 64) < (if c = true then (1 : Int) else 0) ∧ (if c = true then (1 : Int) else 0) < 2 ^ 64 := by cases c <;> decide
theorem bits60 : CBigPow 10 60 := ⟨by decide, by decide +kernel⟩
theorem bits300 : CBigPow (10 ^ (60 : Int).toNat) 5 := ⟨by decide, by decide +kernel⟩
theorem ok_box {f : Addr} {fd : FuncData} (ml : mg "len" = none) (ma : mg "abs" = none) (mi : mg "int" = none)
    (F : L2.Fun K "_law_box" "_law_box" sBox f fd) : FnOk P w K mg base L2.CX0 1 f fd ["_law_script", "_law_k"] (spBox K) := by
  refine F.ok scBox (fun vs H Q E h => ?_) (fun cdv A outer s H vs Q E hr h => ?_)
  · obtain ⟨a, ns, k, rfl, _⟩ := h
    rfl
  · obtain ⟨a, ns, k, rfl, hS, hl, k0, k1, q⟩ := h
    refine ⟨_, C8.pss_cut (ps_set (i := 2) scBox.nd rfl (.inl rfl) (pe_ifExp (pt_cmpR op_lt (pv 1) (pe_callB call_len_seq (by rfl) ml PySem.boot_len (pa_cons (pv 0) pa_nil)) (nomark _))
        (pe_ix ix_list (pv 0) (pv 1) (fun _ _ => rfl)) (pe_op op_add (pe_op op_mul pe_int (pv 1)) pe_int)))
      (pss_cons (ps_set (i := 3) scBox.nd rfl (.inl rfl) (pe_op op_mul (pe_op op_mod (pe_callB call_abs (by rfl) ma (by decide +kernel) (pa_cons (pv 2) pa_nil)) (pe_op op_bigpow (pe_op op_bigpow pe_int pe_int) pe_int))
          (pe_callTy call_int1 (by rfl) mi (by decide +kernel) (pa_cons (pe_cmpR op_ge (pe_callB call_abs (by rfl) ma (by decide +kernel) (pa_cons (pv 2) pa_nil)) (pe_op op_bigpow pe_int pe_int) (nomark _)) pa_nil))))
      (pss_one (ps_ret (pe_lst (pa_cons (pv 3) (pa_cons (pe_op op_mod (pe_op op_add (pe_op op_add (pe_op op_mul (pe_op op_mod (pv 2) pe_int) pe_int) (pe_op op_mul (pe_op op_mul pe_int (pv 1)) (pv 1))) pe_int) pe_int) (pa_cons pe_int pa_nil))))))), ?_⟩
    refine ⟨fun σ H' => H' = H ∧ ∃ d : Int, σ = [some (.ref a), some (.int k), some (.int d), none], ?_, fun σ' H' hM => ?_⟩
    · refine ⟨.int k, rfl, .ref a, rfl, a, _, rfl, .inl hS, _, _, rfl, rfl, _, rfl, ite2 (fun e => ?_) (fun e => ?_)⟩
      · have hk : k < (ns.map V.int).length := of_decide_eq_true e
        rw [List.length_map] at hk
        have g : (ns.map V.int)[k.toNat]? = some (.int ns[k.toNat]) := by
          rw [List.getElem?_map, List.getElem?_eq_getElem (by omega)]; rfl
        have ga := atI_nat g
        rw [Int.toNat_of_nonneg k0] at ga
        exact ⟨.ref a, rfl, .int k, rfl, a, _, k, _, rfl, rfl, hS, ga, rfl, _, rfl⟩
      · exact ⟨.int k, rfl, _, _, rfl, rfl, .inl ⟨by decide, by decide⟩, _, _, rfl, rfl, rfl, _, rfl⟩
    · obtain ⟨rfl, d, rfl⟩ := hM
      refine ⟨.int d, rfl, d, rfl, _, _, rfl, rfl, bits60, _, _, rfl, rfl, bits300, _, _, rfl, rfl, by show (0 : Int) < (10 ^ (60 : Int).toNat) ^ (5 : Int).toNat; decide +kernel, ?_⟩
      refine ⟨.int d, rfl, d, rfl, _, _, rfl, rfl, ⟨by decide, by decide +kernel⟩, _, _, rfl, rfl, .inr ⟨_, rfl, _, _, rfl, rfl, .inr ?_, ?_⟩⟩
      · exact flag_small _
      · refine ⟨_, rfl, .int d, rfl, _, _, rfl, rfl, by show (0 : Int) < 2305843009213693951; decide, _, _, rfl, rfl, .inr ⟨by decide, by decide⟩, .int k, rfl, _, _, rfl, rfl, .inl ⟨by decide, by decide⟩, .int k, rfl, _, _, rfl, rfl, .inr ⟨by omega, by omega⟩,
          _, _, rfl, rfl, _, _, rfl, rfl, _, _, rfl, rfl, by show (0 : Int) < 2305843009213693921; decide, by show 3 ≤ sizeLine; decide, fun p hp => q p _ _ hp⟩
end
end Pf
namespace Pf
open PySem PySem.Spec PyProof.Rows L2 Gk
abbrev sRow : Stmt := topS 13
abbrev nRow : List Str := ["_law_box_here", "_law_most", "_law_size", "_law_kind", "_law_piece", "_law_found", "_law_is_kept", "_law_turn"]
theorem scRow : FnScope nRow ["_law_box_here", "_law_most"] (defScope sRow) := ⟨rfl, rfl, rfl, by decide +kernel, rfl, by decide +kernel, by decide +kernel⟩
/-- outcomes -/
def Bits (l : List Int) : Prop := ∀ o ∈ l, o = 0 ∨ o = 1
theorem Bits.nil : Bits [] := fun _ h => (nomatch h)
theorem Bits.snoc {l : List Int} {o : Int} (h : Bits l) (h0 : 0 ≤ o) (h1 : o < 2) : Bits (l ++ [o]) := fun x hx => by
  rcases List.mem_append.mp hx with g | g
  · exact h x g
  · rw [List.mem_singleton.mp g]
    omega
theorem Bits.rep {l : List Int} (h : Bits l) (n : Nat) : Bits (List.replicate n l).flatten := fun x hx => by
  obtain ⟨m, hm, hx⟩ := List.mem_flatten.mp hx
  rw [(List.mem_replicate.mp hm).2] at hx
  exact h x hx
theorem Bits.take {l : List Int} (h : Bits l) (n : Nat) : Bits (l.take n) := fun x hx => h x (List.mem_of_mem_take hx)
theorem rep_map (n : Nat) (l : List Int) : (List.replicate n (l.map V.int)).flatten = ((List.replicate n l).flatten).map V.int := by
  induction n with
  | zero => rfl
  | succ n ih => rw [List.replicate_succ, List.replicate_succ, List.flatten_cons, List.flatten_cons, List.map_append, ih]
theorem rep_len (n : Nat) (l : List Int) : ((List.replicate n l).flatten).length = n * l.length := by
  induction n with
  | zero => simp
  | succ n ih => rw [List.replicate_succ, List.flatten_cons, List.length_append, ih, Nat.succ_mul, Nat.add_comm]
theorem last_some {l : List Int} (h : 0 < l.length) : ∃ o, o ∈ l ∧ atI (l.map V.int) (-1) = some (V.int o) := by
  have e : l ≠ [] := fun z => by rw [z] at h; exact absurd h (Nat.lt_irrefl 0)
  refine ⟨l.getLast e, List.getLast_mem e, ?_⟩
  have g : l.map V.int = (l.dropLast.map V.int) ++ [V.int (l.getLast e)] := by
    rw [← List.map_singleton, ← List.map_append, List.dropLast_concat_getLast]
  rw [g]
  exact atI_last _ _
theorem but_local {b D : Addr} {H H1 H2 : Hp} (nD : H D = none) (h : But b H H1) (g : ∀ a o, a ≠ b → a ≠ D → H1 a = some o → H2 a = some o) : But b H H2 := fun a o n e => g a o n (fun z => by rw [z, nD] at e; cases e) (h a o n e)
section
variable {P : Program} {w : World} {K : PySem.W.Frag} {mg : Str → Option Value} {base : Heap}
def spRow (K : PySem.W.Frag) : Sp := fun vs H Q _ => ∃ (b : Addr) (most : Int) (m : Nat), vs = [.ref b, .int most] ∧ 1 ≤ most ∧ most ≤ 64 ∧ Box m H b ∧ m ≤ 1000000 ∧
  ∀ H' p l, But b H H' → Box (m + 150) H' b → SqT K H' p (l.map V.int) → 1 ≤ l.length → (l.length : Int) ≤ most → Bits l → Q (.ref p) H'
theorem ok_row {f : Addr} {fd : FuncData} (DT : Dfn P w K mg base 1 "_law_take" ["_law_box_here", "_law_many"] spTake) (mr : mg "range" = none) (mn : mg "min" = none) (mt : mg "tuple" = none) (ml : mg "len" = none)
    (F : L2.Fun K "_law_row" "_law_row" sRow f fd) : FnOk P w K mg base L2.CX0 2 f fd ["_law_box_here", "_law_most"] (spRow K) := by
  refine F.ok scRow (fun vs H Q E h => ?_) (fun cdv A outer s H vs Q E hr h => ?_)
  · obtain ⟨b, most, m, rfl, _⟩ := h
    rfl
  · obtain ⟨b, most, m, rfl, m1, m2, hb, hm, q⟩ := h
    refine ⟨_, C8.pss_cut (ps_par (i := 2) (j := 3) (by rfl) scRow.nd rfl rfl (by decide) rfl rfl (pa_cons (pe_op op_add pe_int (pe_d DT hr (by decide) (by rfl) (pa_cons (pv 0) (pa_cons (pv 1) pa_nil)))) (pa_cons (pe_d DT hr (by decide) (by rfl) (pa_cons (pv 0) (pa_cons pe_int pa_nil))) pa_nil)) (by rfl))
      (pss_cons (ps_if (pt_cmpR op_eq (pv 3) pe_int (nomark _))
        (pss_one (ps_ret (pe_op op_catU (pe_op op_repU (pe_tup (pa_cons pe_int pa_nil)) (pe_op op_sub (pv 2) pe_int)) (pe_tup (pa_cons pe_int pa_nil))))) pss_nil)
      (pss_cons (ps_if (pt_cmpR op_eq (pv 3) pe_int (nomark _))
        (pss_cons (ps_setLc (i := 4) (own := [("_law_turn", 7)]) (g := gName 7) (by rfl) scRow.nd rfl rfl (sw_true rfl rfl rfl (by decide +kernel)) (pi_range1 rfl mr (pa_cons (pe_op op_add pe_int (pe_d DT hr (by decide) (by rfl) (pa_cons (pv 0) (pa_cons (pe_callB (call_min2 rfl) (by rfl) mn (by decide +kernel) (pa_cons (pv 2) (pa_cons pe_int pa_nil))) pa_nil)))) pa_nil))
            (blkOk_by (N := nRow) (sc := defScope sRow) (by decide +kernel)) (fun _ _ _ _ _ => pg_name (i := 7) scRow.nd rfl (.inl rfl)) (fun _ _ _ _ _ => pts_nil)
            (fun _ _ _ _ _ => pe_d DT hr (by decide) (by rfl) (pa_cons (pv 0) (pa_cons pe_int pa_nil))))
        (pss_one (ps_ret (pe_callTy call_tuple_of (by rfl) mt (by decide +kernel) (pa_cons (pe_slice sl_list (pe_op op_rep (pv 4) (pv 2)) po_none (po_some (pv 2))) pa_nil))))) pss_nil)
      (pss_cons (ps_set (i := 5) scRow.nd rfl (.inl rfl) (pe_lst (pa_cons (pe_d DT hr (by decide) (by rfl) (pa_cons (pv 0) (pa_cons pe_int pa_nil))) pa_nil)))
      (pss_cons (ps_while PassesOwn.never (pt_cmpR op_lt (pe_callB call_len_seq (by rfl) ml PySem.boot_len (pa_cons (pv 5) pa_nil)) (pv 2) (nomark _))
        (pss_cons (ps_set (i := 6) scRow.nd rfl (.inl rfl) (pe_mid (pe_and (pe_cmpR op_eq (pv 3) pe_int (nomark _)) (pe_one (pe_cmpR op_gt (pe_d DT hr (by decide) (by rfl) (pa_cons (pv 0) (pa_cons pe_int pa_nil))) pe_int (nomark _))))))
        (pss_one (ps_expr (pe_bm PySem.F.plainAttrs_list PySem.F.slot_list_append PySem.F.type_list_append mt_append (pv 5) (pa_cons (pe_mid (pe_ifExp (pt_val (pv 6)) (pe_ix ix_list (pv 5) (pe_un un_neg pe_int) (fun _ _ => rfl))
            (pe_d DT hr (by decide) (by rfl) (pa_cons (pv 0) (pa_cons pe_int pa_nil))))) pa_nil))))))
      (pss_one (ps_ret (pe_callTy call_tuple_of (by rfl) mt (by decide +kernel) (pa_cons (pv 5) pa_nil)))))))), ?_⟩
    refine ⟨fun σ H2 => ∃ z k : Int, σ = [some (.ref b), some (.int most), some (.int z), some (.int k), none, none, none, none] ∧ 1 ≤ z ∧ z ≤ most ∧ 0 ≤ k ∧ k < 5 ∧ But b H H2 ∧ Box (m + 1 + 1) H2 b, ?_, fun σ' H2 hM => ?_⟩
    · exact ⟨.ref b, rfl, .int most, rfl, b, most, m, rfl, by omega, by omega, hb, by omega, fun d H1 d0 d1 bt1 bx1 sm1 => ⟨_, _, rfl, rfl, .ref b, rfl, b, 5, m + 1, rfl, by decide, by decide, bx1, by omega,
        fun k H2 k0 k1 bt2 bx2 sm2 => ⟨_, _, rfl, 1 + d, k, rfl, by omega, by omega, k0, k1, bt1.trans bt2, bx2⟩⟩⟩
    obtain ⟨z, k, rfl, size1, size2, k0, k1, bt, bx2⟩ := hM
    refine ⟨.int k, rfl, rfl, _, rfl, ite2 (fun e => ?_) (fun e => ?_)⟩
    · refine ⟨by show 1 ≤ sizeLine; decide, fun p np => ⟨.int z, rfl, z, 1, rfl, rfl, p, z - 1, [.int 1], rfl, rfl, .inl (.inl upd_same), List.cons_ne_nil _ _, by omega, by omega, by show 1 ≤ 1000; decide, fun p2 H3 s3 t3 => ⟨by show 1 ≤ sizeLine; decide, fun p4 np4 => ?_⟩⟩⟩
      refine ⟨p2, p4, _, [.int 0], rfl, rfl, Same.seqT (same_new np4) t3, .inl (.inl upd_same), ?_, fun p5 H5 s5 t5 => ?_⟩
      · show ((List.replicate (z - 1).toNat [V.int 1]).flatten).length + 1 ≤ sizeLine
        rw [show [V.int 1] = [(1 : Int)].map V.int from rfl, rep_map, List.length_map, rep_len]
        show (z - 1).toNat * 1 + 1 ≤ sizeLine
        exact Nat.le_trans (show _ ≤ 100 by omega) (by decide)
      · rw [show [V.int 1] = [(1 : Int)].map V.int from rfl, rep_map, show [V.int 0] = [(0 : Int)].map V.int from rfl, ← List.map_append] at t5
        refine q H5 p5 _ (((bt.trans (But.new np)).trans (But.of_same s3)).trans ((But.new np4).trans (But.of_same s5))) ?_ t5 ?_ ?_ ?_
        · exact (((((bx2.same (same_new np)).same s3).same (same_new np4)).same s5)).up (by omega)
        · rw [List.length_append]
          exact Nat.le_add_left _ _
        · rw [List.length_append, rep_len]
          show (((z - 1).toNat * 1 + 1 : Nat) : Int) ≤ most
          omega
        · exact Bits.snoc (Bits.rep (fun o ho => by rw [List.mem_singleton.mp ho]; exact .inr rfl) _) (by decide) (by decide)
    · refine ⟨.int k, rfl, rfl, _, rfl, ite2 (fun e1 => ?_) (fun e1 => ?_)⟩
      · refine ⟨.ref b, rfl, .int z, rfl, z, 4, rfl, b, _, m + 2, rfl, by split <;> omega, by split <;> omega, bx2, by omega, fun d3 H3 g0 g1 bt3 bx3 sm3 => ?_⟩
        have d34 : d3 < 4 := by
          have : (if (4 : Int) < z then (4 : Int) else z) ≤ 4 := by split <;> omega
          omega
        refine ⟨_, _, rfl, rfl, 1 + d3, rfl, by omega, by omega, fun D nD => lc_range (lo := 0) (n := (1 + d3).toNat)
          (fun i H' => But b H3 H' ∧ Box (m + 3 + i) H' b ∧ ∃ l : List Int, l.length = i ∧ H' D = some (.lst (l.map V.int)) ∧ Bits l) ⟨But.new nD, bx3.same (same_new nD), [], rfl, upd_same, Bits.nil⟩ (fun i H4 hi hp => ?_) (fun H4 hp => ?_)⟩
        · obtain ⟨bt4, bx4, l, hl, hD, hB⟩ := hp
          have nDb : D ≠ b := (bx3.ne nD).symm
          refine ⟨rfl, .ref b, rfl, b, 2, _, rfl, by decide, by decide, bx4, by omega, fun d5 H5 e0 e2 bt5 bx5 sm5 => ⟨l.map V.int, (sm5 D nDb).trans hD, ?_, ?_, ?_, l ++ [d5], ?_, ?_, Bits.snoc hB e0 e2⟩⟩
          · rw [List.length_map, hl]
            exact small1000 (by omega)
          · refine but_local nD (bt4.trans bt5) fun a o n1 n2 h => ?_
            rw [upd_ne n2]
            exact h
          · obtain ⟨x1, x2, x3, g1, g2⟩ := bx5
            exact ⟨x1, x2, x3, by rw [upd_ne nDb.symm]; exact g1, g2.1, by have := g2.2; omega⟩
          · rw [List.length_append, hl]
            rfl
          · rw [upd_same, List.map_append]
            rfl
        · obtain ⟨bt4, bx4, l, hl, hD, hB⟩ := hp
          have hz : l.length ≤ 4 := by omega
          have hz1 : 1 ≤ l.length := by omega
          have hlen : (List.replicate z.toNat l).flatten.length = z.toNat * l.length := rep_len _ _
          have hmul : z.toNat ≤ z.toNat * l.length := Nat.le_mul_of_pos_right _ hz1
          have hmul2 : z.toNat * l.length ≤ 64 * 4 := Nat.mul_le_mul (by omega) hz
          refine ⟨.ref D, rfl, .int z, rfl, D, z, l.map V.int, rfl, rfl, hD, by omega, by omega, ?_, fun p np => ?_⟩
          · rw [List.length_map]
            exact Nat.le_trans (show _ ≤ 256 by rw [Nat.mul_comm]; exact hmul2) (by decide)
          · refine ⟨.int z, rfl, z, rfl, p, _, rfl, .inl (.inl upd_same), fun p2 np2 => ?_⟩
            refine ⟨p2, _, rfl, .inl ⟨.inl (.inl upd_same), fun p3 np3 => ?_⟩⟩
            have ec : cutV (List.replicate z.toNat (l.map V.int)).flatten none (some z) = (((List.replicate z.toNat l).flatten).take z.toNat).map V.int := by
              have := cut_to (xs := (List.replicate z.toNat (l.map V.int)).flatten) z.toNat
              rw [Int.toNat_of_nonneg (by omega)] at this
              rw [this, rep_map, List.map_take]
            have lt : (((List.replicate z.toNat l).flatten).take z.toNat).length = z.toNat := by
              rw [List.length_take, hlen]
              omega
            have new3 : ∀ {G : Hp} {a : Addr} {u : HO}, G a = none → But b G (upd G a u) := fun h => But.new h
            refine q _ p3 (((List.replicate z.toNat l).flatten).take z.toNat) ((((bt.trans bt3).trans bt4).trans (But.new np)).trans ((But.new np2).trans (But.new np3))) ?_ ?_ ?_ ?_ ((Bits.rep hB _).take _)
            · exact (((bx4.same (same_new np)).same (same_new np2)).same (same_new np3)).up (by omega)
            · refine .inl (.inl ?_)
              rw [upd_same, ec]
            · rw [lt]
              omega
            · rw [lt]
              omega
      · refine ⟨.ref b, rfl, b, 2, m + 2, rfl, by decide, by decide, bx2, by omega, fun d3 H3 g0 g1 bt3 bx3 sm3 => ⟨by show 1 ≤ sizeLine; decide, fun D nD => ?_⟩⟩
        have nDb : D ≠ b := (bx3.ne nD).symm
        have nDH : H D = none := by
          cases hh : H D with
          | none => rfl
          | some u =>
            have := (bt.trans bt3) D u nDb hh
            rw [nD] at this
            cases this
        refine while_by (fun σ H' => ∃ (l : List Int) (y6 : Option V), σ = [some (.ref b), some (.int most), some (.int z), some (.int k), none, some (.ref D), y6, none] ∧ But b H H' ∧ Box (m + 3 + 2 * l.length) H' b ∧ H' D = some (.lst (l.map V.int)) ∧ 1 ≤ l.length ∧ l.length ≤ z.toNat ∧ Bits l)
          (fun σ H' => match H' D with
            | some (HO.lst xs) => z.toNat - xs.length
            | _ => 0) ⟨[d3], none, rfl, (bt.trans bt3).trans (But.new nD), (bx3.same (same_new nD)).up (by omega), upd_same, Nat.le_refl _, by show 1 ≤ z.toNat; omega, Bits.snoc Bits.nil g0 g1⟩
          (fun σ H4 hp => ?_) (fun σ H Q Q' hq h => ?_)
        · obtain ⟨l, y6, rfl, bt4, bx4, hD, l1, l2, hB⟩ := hp
          refine ⟨.ref D, rfl, D, _, rfl, .inl (.inl (.inl hD)), .int z, rfl, _, _, rfl, rfl, _, rfl, ite2 (fun e2 => ?_) (fun e2 => ?_)⟩
          · have hlt : ((l.map V.int).length : Int) < z := of_decide_eq_true e2
            rw [List.length_map] at hlt
            refine ⟨fun v H' => (∃ c : Bool, v = .bl c) ∧ But b H4 H' ∧ Box (m + 3 + 2 * l.length + 1) H' b ∧ H' D = some (.lst (l.map V.int)), ?_, fun v H5 hv => ?_⟩
            · refine ⟨.int k, rfl, rfl, _, rfl, ite2 (fun _ => ?_) (fun _ => ?_)⟩
              · exact ⟨.ref b, rfl, b, 4, _, rfl, by decide, by decide, bx4, by omega, fun d5 H5 e0 e2 bt5 bx5 sm5 => ⟨_, _, rfl, rfl, ⟨_, rfl⟩, bt5, bx5, (sm5 D nDb).trans hD⟩⟩
              · exact ⟨⟨_, rfl⟩, But.refl _ _, bx4.up (by omega), hD⟩
            · obtain ⟨⟨c, rfl⟩, bt5, bx5, hD5⟩ := hv
              refine ⟨.ref D, rfl, .inl ⟨rfl, _, .inl (.inl hD5)⟩, fun v H' => (∃ o : Int, v = .int o ∧ 0 ≤ o ∧ o < 2) ∧ But b H5 H' ∧ Box (m + 3 + 2 * l.length + 2) H' b ∧ H' D = some (.lst (l.map V.int)), ?_, fun v H6 hv => ?_⟩
              · refine ⟨.bl c, rfl, c, rfl, ite2 (fun _ => ?_) (fun _ => ?_)⟩
                · obtain ⟨o, ho, hat⟩ := last_some (l := l) l1
                  refine ⟨.ref D, rfl, 1, rfl, D, _, _, _, rfl, rfl, .inl (.inl hD5), hat, ⟨o, rfl, ?_⟩, But.refl _ _, bx5.up (by omega), hD5⟩
                  have := hB o ho
                  omega
                · exact ⟨.ref b, rfl, b, 2, _, rfl, by decide, by decide, bx5, by omega, fun d6 H6 e0 e2 bt6 bx6 sm6 => ⟨⟨d6, rfl, e0, e2⟩, bt6, bx6, (sm6 D nDb).trans hD5⟩⟩
              · obtain ⟨⟨o, rfl, o0, o1⟩, bt6, bx6, hD6⟩ := hv
                refine ⟨D, _, _, rfl, rfl, hD6, ?_, ⟨l ++ [o], _, rfl, ?_, ?_, ?_, ?_, ?_, Bits.snoc hB o0 o1⟩, ?_⟩
                · rw [List.length_map]
                  exact small1000 (by omega)
                · refine but_local nDH ((bt4.trans bt5).trans bt6) fun a o n1 n2 h => ?_
                  rw [upd_ne n2]
                  exact h
                · obtain ⟨x1, x2, x3, g1, g2⟩ := bx6
                  refine ⟨x1, x2, x3, by rw [upd_ne nDb.symm]; exact g1, g2.1, ?_⟩
                  rw [List.length_append]
                  have := g2.2
                  show x3 ≤ ((m + 3 + 2 * (l.length + 1) : Nat) : Int)
                  omega
                · rw [upd_same, List.map_append]
                  rfl
                · rw [List.length_append]
                  exact Nat.le_add_left _ _
                · rw [List.length_append]
                  show l.length + 1 ≤ _
                  omega
                · show (match upd H6 D (.lst (l.map V.int ++ [V.int o])) D with
                    | some (HO.lst xs) => z.toNat - xs.length
                    | _ => 0) < (match H4 D with
                    | some (HO.lst xs) => z.toNat - xs.length
                    | _ => 0)
                  rw [upd_same, hD]
                  show z.toNat - (l.map V.int ++ [V.int o]).length < z.toNat - (l.map V.int).length
                  rw [List.length_append, List.length_map]
                  show z.toNat - (l.length + 1) < z.toNat - l.length
                  omega
          · refine ⟨.ref D, rfl, D, _, rfl, .inl ⟨.inl (.inl hD), fun p np => ?_⟩⟩
            exact q _ p l (bt4.trans (But.new np)) ((bx4.same (same_new np)).up (by omega)) (.inl (.inl upd_same)) l1 (by omega) hB
        · obtain ⟨v, h1, a, xs, h2, h3, v2, h4, i, j, h5, h6, c, h7, h8⟩ := h
          exact ⟨v, h1, a, xs, h2, h3, v2, h4, i, j, h5, h6, c, h7, hq _ _ h8⟩
end
end Pf
namespace Gk
open PySem PySem.Spec PyProof.Rows L2 PySem.Builtin.Str
/-! ### enumerate of a tuple -/
theorem enum_newT (l : Addr) (its : Array Value) :
    Meets (Builtin.«enumerate.__new__» ⟨[.type "enumerate", .ref l], []⟩) (fun _ R s => Heap.IsTuple s.heap l its ∧
      R (.ok (.ret (.ref (s.heap.push { cls := .type "tuple_iterator", data := .fields #[.ref l, .int 0 0] }).objs.size)))
        { s with heap := (s.heap.push { cls := .type "tuple_iterator", data := .fields #[.ref l, .int 0 0] }).push { cls := .type "enumerate", data := .fields #[.none, .bool false, .ref s.heap.objs.size, rawInt 0, .none, .none] } }) :=
  .of_wp fun prog w A R s h => by
    obtain ⟨hp, g, d, tk, os⟩ := s
    obtain ⟨hL, h⟩ := h
    have hsub := sub_enumerate
    obtain ⟨⟨oc, od, dt, sl⟩, hl, hcl, n, hdt⟩ := id hL
    replace hcl : oc = .type "tuple" := hcl
    replace hdt : dt = .seq its n := hdt
    subst hcl hdt
    wp_walk using wpAny_loadPart' hl
    refine wpAny_stack_any fun st => wpAny_pure ?_
    split
    · rename_i c _ _ _ _ _
      cases (c == Value.type "enumerate") <;>
      · wp_walk using wpAny_loadPart' hl, wpAny_pyIter_tuple hL
        exact ⟨_, rfl, h⟩
    · wp_walk using wpAny_loadPart' hl, wpAny_pyIter_tuple hL
      exact ⟨_, rfl, h⟩
section
variable {prog : Program} {w : World} {A : Around} {E : Value → Shared → Prop} {s : Shared}
theorem enumT {l : Addr} {its : Array Value} {Q : Value → Shared → Prop} (hL : s.heap.IsTuple l its)
    (h : ∀ h', IsEnum h' (s.heap.objs.size + 1) s.heap.objs.size 0 .none → h'.IsTupleIter s.heap.objs.size l 0 → (∀ b o, s.heap.get? b = some o → h'.get? b = some o) → Q (.ref (s.heap.objs.size + 1)) { s with heap := h' }) :
    wpAny (model prog w) A (call (.type "enumerate") [.ref l]) Q E s := by
  refine callType_new F.called_enumerate (by decide) (F.typeCall_enumerate_1 _) (F.newCall_enumerate_1 _) (fun obj => F.args_object_init_2 obj _) F.entry_enumerate_new (enum_newT l its) ⟨hL, ?_⟩
  have hz : (s.heap.push { cls := .type "tuple_iterator", data := .fields #[.ref l, .int 0 0] }).objs.size = s.heap.objs.size + 1 := Heap.size_push ..
  show _ ∧ _
  rw [hz]
  have he : IsEnum ((s.heap.push { cls := .type "tuple_iterator", data := .fields #[.ref l, .int 0 0] }).push { cls := .type "enumerate", data := .fields #[.none, .bool false, .ref s.heap.objs.size, rawInt 0, .none, .none] }) (s.heap.objs.size + 1) s.heap.objs.size 0 .none := by
    have g := Heap.get?_push_size (s.heap.push { cls := .type "tuple_iterator", data := .fields #[.ref l, .int 0 0] }) (o := { cls := .type "enumerate", data := .fields #[.none, .bool false, .ref s.heap.objs.size, rawInt 0, .none, .none] }) rfl
    rw [hz] at g
    exact g
  exact ⟨⟨_, he, rfl⟩, h _ he ⟨_, Heap.get?_push_of_some _ (Heap.get?_push_size _ rfl), rfl, rfl⟩ fun b o x => Heap.get?_push_of_some _ (Heap.get?_push_of_some _ x)⟩
end
def Ient (K : PySem.W.Frag) (a : Addr) (N : Nat) : It := ⟨fun i H => i < N ∧ ∃ xs : List V, SqT K H a xs ∧ xs.length = N,
  fun i H v H' => ∃ T x, v = .ref T ∧ H T = none ∧ (∀ xs, SqT K H a xs → xs[i]? = some x) ∧ H' = upd H T (.tup [.int (i : Nat), x]), fun i H => N ≤ i ∧ ∃ xs : List V, SqT K H a xs ∧ xs.length = N⟩
theorem turn_ent {P : Program} {w : World} {K : PySem.W.Frag} {elts : List Expr} {kk : Nat} {tpos : Pos} (e it a : Addr) (N : Nat) :
    Turn P w K (.Tuple elts kk tpos) (Ient K a N) [e, it] e (fun i h => ((∃ old, IsEnum h e it i old) ∧ h.IsTupleIter it a i) ∧ e ≠ it ∧ i ≤ N) where
  mem := List.mem_cons_self
  obj := fun i h st b hb => by
    obtain ⟨⟨⟨old, he⟩, ⟨o, ho, hc, hd⟩⟩, _⟩ := st
    rcases List.mem_cons.mp hb with rfl | hb
    · exact ⟨_, he, fun v g => nomatch g⟩
    · rw [List.mem_singleton.mp hb]
      exact ⟨o, ho, fun v g => by rw [hd] at g; cases g⟩
  keep := fun i h h' st k => by
    obtain ⟨⟨⟨old, he⟩, ⟨o, ho, hc, hd⟩⟩, hne⟩ := st
    exact ⟨⟨⟨old, k e List.mem_cons_self _ he⟩, o, k it (List.mem_cons_of_mem _ List.mem_cons_self) o ho, hc, hd⟩, hne⟩
  item := by
    intro X hP hw hK hc i pins s σ H E I hf st hg
    subst hP hw hK
    obtain ⟨hlt, xs, hq, hN⟩ := hg
    obtain ⟨st, hne, hi⟩ := st
    obtain ⟨its, rv, tup, hz⟩ := I.tuple hq
    have hlen : its.toArray.size = N := by rw [List.size_toArray, ← hN]; exact rv.length.symm
    have nat : a ≠ it := fun z => by
      obtain ⟨o1, g1, c1, _⟩ := tup
      obtain ⟨_, o2, g2, c2, _⟩ := st
      rw [z, g2] at g1
      cases g1
      rw [c2] at c1
      exact absurd c1 (by decide)
    have D : Draws X.prog X.w X.A.in1 it [it, a] its.toArray.size _ _ := Draws.tuple (show X.A.in1.handled = none from I.ok.hd hc) it a nat its.toArray
    have nea : e ≠ a := fun z => by
      obtain ⟨o1, g1, c1, _⟩ := tup
      obtain ⟨⟨old, g2⟩, _⟩ := st
      rw [z] at g2
      rw [g2] at g1
      cases g1
      exact absurd (show Value.type "enumerate" = Value.type "tuple" from c1) (by decide)
    have W := WalksT.enumerateD D e hne (fun q => (List.mem_cons.mp q).elim hne fun q => nea (List.mem_singleton.mp q)) List.mem_cons_self
    have hel : e < s.heap.objs.size := by obtain ⟨⟨old, he⟩, _⟩ := st; exact Heap.lt_size he
    have hil : it < s.heap.objs.size := by obtain ⟨_, o, ho, _⟩ := st; exact Heap.lt_size ho
    refine W.item i s _ _ (by rw [hlen]; exact hlt) ⟨st.1, st.2, tup⟩ fun T vals h' tk hp hT isT mid hk => ?_
    obtain ⟨t1, x1, hx1, rfl⟩ := hp
    have nT := W.apart i T h' mid
    obtain ⟨y, hy⟩ : ∃ y, xs[i]? = some y := ⟨xs[i]'(by omega), List.getElem?_eq_getElem (by omega)⟩
    obtain ⟨u, hu, ru⟩ := rv.get hy
    have hx1 : its.toArray[i]? = some x1 := hx1
    rw [List.getElem?_toArray, hu] at hx1
    obtain rfl := Option.some.inj hx1
    refine ⟨_, rfl, W.go elts kk tpos i T { s with heap := h', toks := tk } _ _ mid fun h2 st2 hk2 => ?_⟩
    obtain ⟨oT, gT, cT, nTT, dT⟩ := isT
    have gT2 := hk2 T oT nT gT
    have new : ObjOk X.prog X.w (upd H T (.tup [.int (i : Nat), y])) h2 T (.tup [.int (i : Nat), y]) :=
      ⟨by show 2 ≤ sizeLine; decide, [.int i t1, u], .cons ⟨_, rfl⟩ (.cons ru .nil), ⟨oT, gT2, cT, nTT, dT⟩⟩
    have I1 : Inv X pins σ (upd H T (.tup [.int (i : Nat), y])) { s with heap := h2, toks := tk } :=
      I.turnedNew (ch := [e, it]) (fun b ob hb g => hk2 b ob hb (hk b ob hb g)) hf hT new
    refine ⟨.ref T, _, I1, rfl, ⟨T, y, rfl, I.hok.fresh hT, fun ys hys => ?_, rfl⟩, ⟨⟨st2.1, st2.2.1⟩, hne, hlt⟩, fun b hb => ?_⟩
    · rw [I.tuple_inj hys hq]
      exact hy
    · have hb' : b < s.heap.objs.size := by
        rcases List.mem_cons.mp hb with rfl | hb
        · exact hel
        · rw [List.mem_singleton.mp hb]; exact hil
      rw [upd_ne (Nat.ne_of_lt (Nat.lt_of_lt_of_le hb' hT))]
      exact (hf b hb).1
  done := by
    intro X hP hw hK hc i pins s σ H E I hf st hg
    subst hP hw hK
    obtain ⟨hge, xs, hq, hN⟩ := hg
    obtain ⟨st, hne, hi⟩ := st
    obtain ⟨its, rv, tup, hz⟩ := I.tuple hq
    have hlen : its.toArray.size = N := by rw [List.size_toArray, ← hN]; exact rv.length.symm
    obtain rfl : i = N := Nat.le_antisymm hi hge
    have nat : a ≠ it := fun z => by
      obtain ⟨o1, g1, c1, _⟩ := tup
      obtain ⟨_, o2, g2, c2, _⟩ := st
      rw [z, g2] at g1
      cases g1
      rw [c2] at c1
      exact absurd c1 (by decide)
    have nea : e ≠ a := fun z => by
      obtain ⟨o1, g1, c1, _⟩ := tup
      obtain ⟨⟨old, g2⟩, _⟩ := st
      rw [z] at g2
      rw [g2] at g1
      cases g1
      exact absurd (show Value.type "enumerate" = Value.type "tuple" from c1) (by decide)
    have D : Draws X.prog X.w X.A.in1 it [it, a] its.toArray.size _ _ := Draws.tuple (show X.A.in1.handled = none from I.ok.hd hc) it a nat its.toArray
    have W := WalksT.enumerateD D e hne (fun q => (List.mem_cons.mp q).elim hne fun q => nea (List.mem_singleton.mp q)) List.mem_cons_self
    rw [← hlen] at st
    refine W.done s _ _ ⟨st.1, st.2, tup⟩ fun h' tk hk => ⟨rfl, ?_⟩
    exact I.step (g' := s.gens) (d' := s.drawn) (ch := [e, it]) (fun b hb => ⟨(hf b hb).2.2.2.1, (hf b hb).2.1, (hf b hb).2.2.2.2.1, (hf b hb).2.2.2.2.2⟩) (fun b o _ _ hc g _ => hk b o hc g) (fun b o _ _ hc g _ => ⟨o.slots, hk b o hc g⟩)
      (fun _ _ _ _ n => n) (fun b o hc g => ⟨o, hk b o hc g⟩) (fun _ _ g => g) (fun _ _ _ g => g) (fun b ps g => ⟨#[], by rw [g]; simp⟩)
      (fun m hm => by
        obtain ⟨o, es, ep, ho, r⟩ := hm
        exact ⟨o, es, ep, hk _ o (fun q => (hf _ q).2.1 rfl) ho, r⟩)
      (fun b u g => by
        have nb : ∀ c v, H c = some v → c ∉ [e, it] := fun c v g q => by
          have g' := (hf c q).1
          rw [g'] at g; cases g
        refine (I.hok b u g).stay (fun c v hcv q => hk c v ?_ q) (fun _ q => q) fun _ _ q => q
        rcases hcv with rfl | hcv
        · exact nb _ _ g
        · exact nb _ _ hcv) I.bare
  self := fun A i s Q E st h => by
    obtain ⟨⟨⟨old, he⟩, _⟩, _⟩ := st
    exact wpAny_pyIter_enum he h
def iEnumU (K : PySem.W.Frag) (ta : TA) : TI := fun σ H R => ta σ H fun vs H1 => ∃ a xs, vs = [.ref a] ∧ SqT K H1 a xs ∧ R (Ient K a xs.length) H1
theorem pi_enumU {X : Cx} {e : Expr} {ta : TA} {p pos tpos : Pos} {elts : List Expr} {kk : Nat} (hg : Gl X "enumerate") (hm : X.mg "enumerate" = none) (ha : PA X [e] ta) (hs : starEach [e] X.env = [(false, eval e X.env)] := by rfl) :
    PI X (.Tuple elts kk tpos) (.Call (.Name "enumerate" p) [e] [] pos) (iEnumU X.K ta) := by
  refine ⟨fun pins s σ H R I h => Call_ (ld_blt I hg hm boot_enumerate (PyProof.Rows.callWith_type1 (thn (ha.run pos pins s σ H _ I h) fun us s1 ⟨vs, H1, I1, r1, a, xs, ez, hq, q⟩ => ?_) hs rfl))⟩
  subst ez
  obtain ⟨u, rfl, r2⟩ := vals1 r1
  cases r2
  obtain ⟨its, rv, tup, hz⟩ := I1.tuple hq
  refine enumT tup fun h' he hit hk => wpAny_pyIter_enum he ?_
  refine ⟨s1.heap.objs.size + 1, [s1.heap.objs.size + 1, s1.heap.objs.size], _, _, H1, rfl, I1.kept (t' := s1.toks) hk, turn_ent (s1.heap.objs.size + 1) s1.heap.objs.size a xs.length, ⟨⟨⟨.none, he⟩, hit⟩, Nat.succ_ne_self _, Nat.zero_le _⟩, fun b hb => ?_, q⟩
  have hle : s1.heap.objs.size ≤ b := by
    rcases List.mem_cons.mp hb with rfl | hb
    · exact Nat.le_succ _
    · rw [List.mem_singleton.mp hb]
      exact Nat.le_refl _
  exact I1.fpOk hle (I1.hok.fresh hle)
theorem walk_ent {K : PySem.W.Frag} {a : Addr} {xs : List V} : Walk (Ient K a xs.length) xs.length (fun H => SqT K H a xs) (fun i H v H' => ∃ T x, v = .ref T ∧ H T = none ∧ xs[i]? = some x ∧ H' = upd H T (.tup [.int (i : Nat), x])) :=
  ⟨fun i _ hi g => ⟨hi, xs, g, rfl⟩, fun _ g => ⟨Nat.le_refl _, xs, g, rfl⟩, fun i H v H' _ g y => by
    obtain ⟨T, x, h1, h2, h3, h4⟩ := y
    exact ⟨T, x, h1, h2, h3 xs g, h4⟩⟩
end Gk
namespace Gk
open PySem PySem.Spec PyProof.Rows L2
/-- a pair (branch, outcome) -/
def pd (x : Int × Int) : PyData := .tuple [.int x.1, .int x.2]
def PairsAt (K : PySem.W.Frag) (H : Hp) (p : Addr) (l : List (Int × Int)) : Prop := Dp K H (.ref p) (.tuple (l.map pd))
theorem tups_pd : ∀ l : List (Int × Int), tupsAll (l.map pd) = true
  | [] => rfl
  | x :: l => by
    show (tups (pd x) && tupsAll (l.map pd)) = true
    rw [tups_pd l]
    rfl
theorem PairsAt.keep {K : PySem.W.Frag} {H H' : Hp} {p : Addr} {l : List (Int × Int)} (h : PairsAt K H p l) (k : Keep K H H') : PairsAt K H' p l :=
  Dp.keep k _ _ (by simpa only [tups] using tups_pd l) h
theorem pairs_keep {K : PySem.W.Frag} {H H' : Hp} {as : List V} {l : List (Int × Int)} (h : DpAll K H as (l.map pd)) (k : Keep K H H') : DpAll K H' as (l.map pd) := DpAll.keep k _ _ (tups_pd l) h
theorem keep_lst {K : PySem.W.Frag} {H : Hp} {D : Addr} {xs : List V} {o : HO} (h : H D = some (.lst xs)) : Keep K H (upd H D o) := by
  intro a ys g
  rcases g with (g | ⟨u, g⟩) | g
  · exact .inl (.inl (by rw [upd_ne (ne_of g h (fun q => HO.noConfusion q))]; exact g))
  · exact .inl (.inr ⟨u, by rw [upd_ne (ne_of g h (fun q => HO.noConfusion q))]; exact g⟩)
  · exact .inr g
/-- one pair more in the list at D -/
theorem pairs_snoc {K : PySem.W.Frag} {H : Hp} {D T : Addr} {as : List V} {l : List (Int × Int)} {x y : Int} {o : HO} (h : DpAll K H as (l.map pd)) (hD : H D = some (.lst as)) (nT : H T = none) :
    DpAll K (upd (upd H T (.tup [.int x, .int y])) D o) (as ++ [.ref T]) ((l ++ [(x, y)]).map pd) := by
  have nd : D ≠ T := ne_of_none hD nT
  have hD2 : (upd H T (.tup [.int x, .int y])) D = some (.lst as) := by rw [upd_ne nd]; exact hD
  have k := (Same.keep (K := K) (same_new (o := HO.tup [V.int x, V.int y]) nT)).trans (keep_lst (o := o) hD2)
  rw [List.map_append]
  refine DpAll.app (pairs_keep h k) (.cons (.tup (.inl (.inl ?_)) (.cons (.int x) (.cons (.int y) .nil))) .nil)
  rw [upd_ne nd.symm, upd_same]
theorem pair_at {K : PySem.W.Frag} {H : Hp} {v : V} {x : Int × Int} (h : Dp K H v (pd x)) : ∃ a, v = .ref a ∧ SqT K H a [.int x.1, .int x.2] := by
  cases h with
  | tup h1 h2 =>
    cases h2 with
    | cons a b =>
      cases a
      cases b with
      | cons c d =>
        cases c
        cases d
        exact ⟨_, rfl, h1⟩
theorem DpAll.set {K : PySem.W.Frag} {H : Hp} {v : V} {d : PyData} (hv : Dp K H v d) : ∀ {vs : List V} {ds : List PyData} (i : Nat), DpAll K H vs ds → DpAll K H (vs.set i v) (ds.set i d)
  | _, _, _, .nil => .nil
  | _, _, 0, .cons _ t => .cons hv t
  | _, _, i + 1, .cons h t => .cons h (DpAll.set hv i t)
theorem lc_len {K : PySem.W.Frag} {H : Hp} {as : List V} {l : List (Int × Int)} (h : DpAll K H as (l.map pd)) : as.length = l.length := by
  have := DpAll.len h
  rwa [List.length_map] at this
/-- branches and outcomes -/
def Fair (l : List (Int × Int)) : Prop := ∀ x ∈ l, (0 ≤ x.1 ∧ x.1 ≤ 7) ∧ (x.2 = 0 ∨ x.2 = 1)
theorem Fair.nil : Fair [] := fun _ h => (nomatch h)
theorem Fair.snoc {l : List (Int × Int)} {x y : Int} (h : Fair l) (a : 0 ≤ x) (b : x ≤ 7) (c : y = 0 ∨ y = 1) : Fair (l ++ [(x, y)]) := fun z hz => by
  rcases List.mem_append.mp hz with g | g
  · exact h z g
  · rw [List.mem_singleton.mp g]
    exact ⟨⟨a, b⟩, c⟩
theorem Fair.take {l : List (Int × Int)} (h : Fair l) (n : Nat) : Fair (l.take n) := fun x hx => h x (List.mem_of_mem_take hx)
theorem tame_pd : ∀ {l : List (Int × Int)}, Fair l → tameAll (l.map pd) = true
  | [], _ => rfl
  | x :: l, h => by
    have h1 := h x List.mem_cons_self
    show (tame (pd x) && tameAll (l.map pd)) = true
    rw [tame_pd fun z hz => h z (List.mem_cons_of_mem _ hz), Bool.and_true]
    simp only [pd, tame, tameAll, Bool.and_true, Bool.and_eq_true, decide_eq_true_eq]
    omega
theorem cost_pd : ∀ l : List (Int × Int), costAll (l.map pd) = 1 + 144 * l.length
  | [] => rfl
  | x :: l => by
    show cost (pd x) + 1 + costAll (l.map pd) = _
    rw [cost_pd l, List.length_cons]
    simp only [pd, cost, costAll]
    omega
theorem depth_pd : ∀ l : List (Int × Int), PyData.depthAll (l.map pd) ≤ 1
  | [] => by decide
  | x :: l => by
    show max (PyData.depth (pd x)) (PyData.depthAll (l.map pd)) ≤ 1
    have h := depth_pd l
    have h2 : PyData.depth (pd x) = 1 := by simp [pd, PyData.depth, PyData.depthAll]
    omega
end Gk
namespace Pf
open PySem PySem.Spec PyProof.Rows L2 Gk
abbrev sLoop : Stmt := topS 14
abbrev nLoop : List Str := ["_law_box_here", "_law_most", "_law_homes", "_law_row_here", "_law_kind", "_law_some", "_law_first", "_law_found", "_law_deed", "_law_at"]
theorem scLoop : FnScope nLoop ["_law_box_here", "_law_most", "_law_homes"] (defScope sLoop) := ⟨rfl, rfl, rfl, by decide +kernel, rfl, by decide +kernel, by decide +kernel⟩
section
variable {P : Program} {w : World} {K : PySem.W.Frag} {mg : Str → Option Value} {base : Heap}
def spLoop (K : PySem.W.Frag) : Sp := fun vs H Q _ => ∃ (b : Addr) (most homes : Int) (m : Nat), vs = [.ref b, .int most, .int homes] ∧ 1 ≤ most ∧ most ≤ 64 ∧ 1 ≤ homes ∧ homes ≤ 8 ∧ Box m H b ∧ m ≤ 999000 ∧
  ∀ H' p l, But b H H' → Box (m + 250) H' b → PairsAt K H' p l → 1 ≤ l.length → (l.length : Int) ≤ most → Fair l → Q (.ref p) H'
theorem ok_loop {f : Addr} {fd : FuncData} (DT : Dfn P w K mg base 1 "_law_take" ["_law_box_here", "_law_many"] spTake) (DR : Dfn P w K mg base 2 "_law_row" ["_law_box_here", "_law_most"] (spRow K)) (mt : mg "tuple" = none) (me : mg "enumerate" = none) (ml : mg "len" = none)
    (F : L2.Fun K "_law_loop" "_law_loop" sLoop f fd) : FnOk P w K mg base L2.CX0 3 f fd ["_law_box_here", "_law_most", "_law_homes"] (spLoop K) := by
  refine F.ok scLoop (fun vs H Q E h => ?_) (fun cdv A outer s H vs Q E hr h => ?_)
  · obtain ⟨b, most, homes, m, rfl, _⟩ := h
    rfl
  · obtain ⟨b, most, homes, m, rfl, m1, m2, h1, h2, hb, hm, q⟩ := h
    refine ⟨_, C8.pss_cut (ps_asg (pe_tup (pa_cons (pe_d DR hr (by decide) (by rfl) (pa_cons (pv 0) (pa_cons (pv 1) pa_nil))) (pa_cons (pe_d DT hr (by decide) (by rfl) (pa_cons (pv 0) (pa_cons pe_int pa_nil)))
          (pa_cons (pe_op op_add pe_int (pe_d DT hr (by decide) (by rfl) (pa_cons (pv 0) (pa_cons (pv 2) pa_nil)))) pa_nil))))
        (pg_tup (by rfl) (pgs_cons (pg_name (i := 3) scLoop.nd rfl (.inl rfl)) (pgs_cons (pg_name (i := 4) scLoop.nd rfl (.inl rfl)) (pgs_cons (pg_name (i := 5) scLoop.nd rfl (.inr rfl)) pgs_nil)))))
      (pss_cons (ps_set (i := 6) scLoop.nd rfl (.inr rfl) (pe_d DT hr (by decide) (by rfl) (pa_cons (pv 0) (pa_cons (pe_op op_sub pe_int (pv 5)) pa_nil))))
      (pss_cons (ps_if (pt_cmpR op_eq (pv 4) pe_int (nomark _))
        (pss_one (ps_ret (pe_callTy call_tuple_of (by rfl) mt (by decide +kernel) (pa_cons (pe_lc (own := [("_law_deed", 8)]) (g := gName 8) (by rfl) scLoop.nd (pi_tup (pv 3)) (blkOk_by (N := nLoop) (sc := defScope sLoop) (by decide +kernel))
          (fun _ _ _ _ _ => pg_name (i := 8) scLoop.nd rfl (.inl rfl)) (fun _ _ _ _ _ => pts_nil) (fun _ _ _ _ _ => pe_tup (pa_cons (pv 6) (pa_cons (pv 8) pa_nil)))) pa_nil)))) pss_nil)
      (pss_cons (ps_if (pt_cmpR op_eq (pv 4) pe_int (nomark _))
        (pss_one (ps_ret (pe_callTy call_tuple_of (by rfl) mt (by decide +kernel) (pa_cons (pe_lc (own := [("_law_at", 9), ("_law_deed", 8)]) (g := gTup K 2 (gCons (gName 9) (gCons (gName 8) gNil))) (by rfl) scLoop.nd (pi_enumU rfl me (pa_cons (pv 3) pa_nil)) (blkOk_by (N := nLoop) (sc := defScope sLoop) (by decide +kernel))
          (fun _ _ _ _ _ => pg_tup rfl (pgs_cons (pg_name (i := 9) scLoop.nd rfl (.inl rfl)) (pgs_cons (pg_name (i := 8) scLoop.nd rfl (.inl rfl)) pgs_nil))) (fun _ _ _ _ _ => pts_nil)
          (fun _ _ _ _ _ => pe_tup (pa_cons (pe_op op_add (pv 6) (pe_op op_mod (pv 9) (pv 5))) (pa_cons (pv 8) pa_nil)))) pa_nil)))) pss_nil)
      (pss_cons (ps_setLc (i := 7) (own := [("_law_deed", 8)]) (g := gName 8) (by rfl) scLoop.nd rfl rfl (sw_true rfl rfl rfl (by decide +kernel)) (pi_tup (pv 3)) (blkOk_by (N := nLoop) (sc := defScope sLoop) (by decide +kernel))
          (fun _ _ _ _ _ => pg_name (i := 8) scLoop.nd rfl (.inl rfl)) (fun _ _ _ _ _ => pts_nil) (fun _ _ _ _ _ => pe_tup (pa_cons (pe_op op_add (pv 6) (pe_d DT hr (by decide) (by rfl) (pa_cons (pv 0) (pa_cons (pv 5) pa_nil)))) (pa_cons (pv 8) pa_nil))))
      (C8.pss_cut (ps_if (PW.pt (pw_and (pt_cmpR op_eq (pv 4) pe_int (nomark _)) (pw_and1 (pt_cmpR op_gt (pe_callB call_len_seq (by rfl) ml PySem.boot_len (pa_cons (pv 7) pa_nil)) pe_int (nomark _)))))
        (pss_one (ps_asg (pe_tup (pa_cons (pe_ix ix_tup (pe_ix ix_list (pv 7) (pe_un un_neg pe_int) (fun _ _ => rfl)) pe_int (fun _ _ => rfl)) (pa_cons (pe_ix ix_tup (pe_ix ix_list (pv 7) pe_int (fun _ _ => rfl)) pe_int (fun _ _ => rfl)) pa_nil)))
          (pg_sub (pv 7) (pe_un un_neg pe_int) set_list))) pss_nil)
      (pss_one (ps_ret (pe_callTy call_tuple_of (by rfl) mt (by decide +kernel) (pa_cons (pv 7) pa_nil))))))))), ?_⟩
    refine ⟨fun σ H2 => ∃ (r : Addr) (os : List Int) (k z : Int), σ = [some (.ref b), some (.int most), some (.int homes), some (.ref r), some (.int k), some (.int z), none, none, none, none] ∧ SqT K H2 r (os.map V.int) ∧ 1 ≤ os.length ∧ (os.length : Int) ≤ most ∧ Bits os ∧ 1 ≤ z ∧ z ≤ 8 ∧ But b H H2 ∧ Box (m + 152) H2 b, ?_, fun σ' H2 hM => ?_⟩
    · refine ⟨.ref b, rfl, .int most, rfl, b, most, m, rfl, m1, m2, hb, by omega, fun H1 r os bt1 bx1 sq l1 l2 hB => ⟨.ref b, rfl, b, 4, m + 150, rfl, by decide, by decide, bx1, by omega, fun k H2 k0 k1 bt2 bx2 sm2 =>
        ⟨.ref b, rfl, .int homes, rfl, b, homes, m + 150 + 1, rfl, by omega, by omega, bx2, by omega, fun d H3 d0 d1 bt3 bx3 sm3 => ⟨_, _, rfl, rfl, by show 3 ≤ sizeLine; decide, fun p np => ?_⟩⟩⟩⟩
      refine ⟨p, _, rfl, .inl (.inl upd_same), rfl, _, _, rfl, _, _, rfl, _, _, rfl, rfl, r, os, k, 1 + d, rfl, ?_, l1, l2, hB, by omega, by omega, ((bt1.trans bt2).trans bt3).trans (But.new np), bx3.same (same_new np)⟩
      exact Same.seqT (same_new np) ((But.keep bt3 bx2 _ _) ((But.keep bt2 bx1 _ _) sq))
    · obtain ⟨r, os, k, z, rfl, sq, l1, l2, hB, z1, z2, bt, bx⟩ := hM
      refine ⟨.ref b, rfl, .int z, rfl, _, _, rfl, rfl, b, 9 - z, m + 152, rfl, by omega, by omega, bx, by omega, fun d H3 d0 d1 bt3 bx3 sm3 => ?_⟩
      have sq3 : SqT K H3 r (os.map V.int) := But.keep bt3 bx _ _ sq
      have btA : But b H H3 := bt.trans bt3
      have len64 : os.length ≤ 64 := by omega
      have at_os : ∀ {i : Nat} {x : V}, (os.map V.int)[i]? = some x → ∃ o, os[i]? = some o ∧ x = .int o ∧ (o = 0 ∨ o = 1) := by
        intro i x hx
        rw [List.getElem?_map] at hx
        cases e : os[i]? with
        | none => rw [e] at hx; cases hx
        | some o =>
          rw [e] at hx
          exact ⟨o, rfl, (Option.some.inj hx).symm, hB o (List.mem_of_getElem? e)⟩
      have fin : ∀ (H5 : Hp) (D : Addr) (as : List V) (l : List (Int × Int)), But b H H5 → Box (m + 240) H5 b → H5 D = some (.lst as) → DpAll K H5 as (l.map pd) → l.length = os.length → Fair l →
          ∀ p, H5 p = none → Q (.ref p) (upd H5 p (.tup as)) := fun H5 D as l b5 x5 hD hA hl hF p np =>
        q _ p l (b5.trans (But.new np)) ((x5.same (same_new np)).up (by omega)) (.tup (.inl (.inl upd_same)) (pairs_keep hA (Same.keep (same_new np)))) (by omega) (by omega) hF
      refine ⟨.int k, rfl, rfl, _, rfl, ite2 (fun e => ?_) (fun e => ?_)⟩
      · refine ⟨.ref r, rfl, r, rfl, ⟨_, sq3⟩, fun D nD => lc_tup (K := K) (a := r) (xs := os.map V.int)
          (fun i H' => Same H3 H' ∧ ∃ (as : List V) (l : List (Int × Int)), H' D = some (.lst as) ∧ DpAll K H' as (l.map pd) ∧ l.length = i ∧ Fair l) ⟨same_new nD, [], [], upd_same, .nil, rfl, Fair.nil⟩
          (fun i H' _ hp => Same.seqT hp.1 sq3) (fun i x H4 hx hp => ?_) (fun H4 hp => ?_)⟩
        · obtain ⟨sm, as, l, hD, hA, hl, hF⟩ := hp
          obtain ⟨o, ho, rfl, ob⟩ := at_os hx
          have hi : i < os.length := (List.getElem?_eq_some_iff.mp ho).1
          refine ⟨rfl, .int d, rfl, .int o, rfl, by show 2 ≤ sizeLine; decide, fun T nT => ⟨as, by rw [upd_ne (ne_of_none hD nT)]; exact hD, ?_, ?_, as ++ [.ref T], l ++ [(d, o)], upd_same, pairs_snoc hA hD nT, ?_, Fair.snoc hF d0 (by omega) ob⟩⟩
          · rw [lc_len hA]
            exact small1000 (by omega)
          · intro a u h
            rw [upd_ne (ne_of_none h nD)]
            exact same_new nT a u (sm a u h)
          · rw [List.length_append, hl]
            rfl
        · obtain ⟨sm, as, l, hD, hA, hl, hF⟩ := hp
          rw [List.length_map] at hl
          exact ⟨D, as, rfl, .inl ⟨.inl (.inl hD), fin H4 D as l (btA.trans (But.of_same sm)) ((bx3.same sm).up (by omega)) hD hA hl hF⟩⟩
      · refine ⟨.int k, rfl, rfl, _, rfl, ite2 (fun e2 => ?_) (fun e2 => ?_)⟩
        · refine ⟨.ref r, rfl, r, _, rfl, sq3, fun D nD => lc_it walk_ent
            (fun i H' => Same H3 H' ∧ ∃ (as : List V) (l : List (Int × Int)), H' D = some (.lst as) ∧ DpAll K H' as (l.map pd) ∧ l.length = i ∧ Fair l) ⟨same_new nD, [], [], upd_same, .nil, rfl, Fair.nil⟩
            (fun i H' _ hp => Same.seqT hp.1 sq3) (fun i x H4 H5 hi hp hy => ?_) (fun H4 hp => ?_)⟩
          · obtain ⟨sm, as, l, hD, hA, hl, hF⟩ := hp
            obtain ⟨R, x, rfl, nR, hx, rfl⟩ := hy
            obtain ⟨o, ho, rfl, ob⟩ := at_os hx
            have hi : i < os.length := (List.getElem?_eq_some_iff.mp ho).1
            have hD4 : (upd H4 R (.tup [.int (i : Nat), .int o])) D = some (.lst as) := by rw [upd_ne (ne_of_none hD nR)]; exact hD
            have hA4 : DpAll K (upd H4 R (.tup [.int (i : Nat), .int o])) as (l.map pd) := pairs_keep hA (Same.keep (same_new nR))
            have hmod0 : 0 ≤ (i : Int) % z := Int.emod_nonneg _ (by omega)
            have hmod1 : (i : Int) % z < z := Int.emod_lt_of_pos _ (by omega)
            refine ⟨R, _, rfl, .inl (.inl upd_same), rfl, _, _, rfl, _, _, rfl, rfl, rfl, .int d, rfl, .int (i : Nat), rfl, .int z, rfl, _, _, rfl, rfl, by show (0 : Int) < z; omega, _, _, rfl, rfl, .int o, rfl, by show 2 ≤ sizeLine; decide,
              fun T nT => ⟨as, by rw [upd_ne (ne_of_none hD4 nT)]; exact hD4, ?_, ?_, as ++ [.ref T], l ++ [(d + (i : Int) % z, o)], upd_same, pairs_snoc hA4 hD4 nT, ?_, Fair.snoc hF (by omega) (by omega) ob⟩⟩
            · rw [lc_len hA]
              exact small1000 (by omega)
            · intro a u h
              rw [upd_ne (ne_of_none h nD)]
              exact same_new nT a u (same_new nR a u (sm a u h))
            · rw [List.length_append, hl]
              rfl
          · obtain ⟨sm, as, l, hD, hA, hl, hF⟩ := hp
            rw [List.length_map] at hl
            exact ⟨D, as, rfl, .inl ⟨.inl (.inl hD), fin H4 D as l (btA.trans (But.of_same sm)) ((bx3.same sm).up (by omega)) hD hA hl hF⟩⟩
        · refine ⟨.ref r, rfl, r, rfl, ⟨_, sq3⟩, fun D nD => lc_tup (K := K) (a := r) (xs := os.map V.int)
            (fun i H' => But b H3 H' ∧ Box (m + 153 + i) H' b ∧ ∃ (as : List V) (l : List (Int × Int)), H' D = some (.lst as) ∧ DpAll K H' as (l.map pd) ∧ l.length = i ∧ Fair l) ⟨But.new nD, bx3.same (same_new nD), [], [], upd_same, .nil, rfl, Fair.nil⟩
            (fun i H' _ hp => But.keep hp.1 bx3 _ _ sq3) (fun i x H4 hx hp => ?_) (fun H4 hp => ?_)⟩
          · obtain ⟨bt4, bx4, as, l, hD, hA, hl, hF⟩ := hp
            obtain ⟨o, ho, rfl, ob⟩ := at_os hx
            have hi : i < os.length := (List.getElem?_eq_some_iff.mp ho).1
            have nDb : D ≠ b := (bx3.ne nD).symm
            refine ⟨rfl, .int d, rfl, .ref b, rfl, .int z, rfl, b, z, _, rfl, by omega, by omega, bx4, by omega, fun d5 H5 e0 e1 bt5 bx5 sm5 => ⟨_, _, rfl, rfl, .int o, rfl, by show 2 ≤ sizeLine; decide, fun T nT => ?_⟩⟩
            have hD5 : H5 D = some (.lst as) := (sm5 D nDb).trans hD
            have nTb : T ≠ b := (bx5.ne nT).symm
            refine ⟨as, by rw [upd_ne (ne_of_none hD5 nT)]; exact hD5, ?_, ?_, ?_, as ++ [.ref T], l ++ [(d + d5, o)], upd_same, pairs_snoc (pairs_keep hA (But.keep bt5 bx4)) hD5 nT, ?_, Fair.snoc hF (by omega) (by omega) ob⟩
            · rw [lc_len hA]
              exact small1000 (by omega)
            · refine but_local nD (bt4.trans bt5) fun a u n1 n2 h => ?_
              rw [upd_ne n2]
              exact same_new nT a u h
            · obtain ⟨x1, x2, x3, g1, g2⟩ := bx5
              exact ⟨x1, x2, x3, by rw [upd_ne nDb.symm, upd_ne nTb.symm]; exact g1, g2.1, by have := g2.2; omega⟩
            · rw [List.length_append, hl]
              rfl
          · obtain ⟨bt4, bx4, as, l, hD, hA, hl, hF⟩ := hp
            rw [List.length_map] at hl
            rw [List.length_map] at bx4
            have hal := lc_len hA
            refine ⟨fun σ H6 => ∃ (as : List V) (l : List (Int × Int)), σ = [some (.ref b), some (.int most), some (.int homes), some (.ref r), some (.int k), some (.int z), some (.int d), some (.ref D), none, none] ∧ But b H H6 ∧ Box (m + 240) H6 b ∧ H6 D = some (.lst as) ∧ DpAll K H6 as (l.map pd) ∧ l.length = os.length ∧ Fair l, ?_, fun σ' H6 hM => ?_⟩
            · refine ⟨.int k, rfl, rfl, _, rfl, ite2 (fun e3 => ?_) (fun e3 => ?_)⟩
              · refine ⟨.ref D, rfl, D, _, rfl, .inl (.inl (.inl hD)), _, _, rfl, rfl, _, rfl, ite2 (fun e4 => ?_) (fun e4 => ?_)⟩
                · have h0 : 0 < l.length := by omega
                  have g0 : as[0]? = some (as[0]'(by omega)) := List.getElem?_eq_getElem (by omega)
                  have gl : as[l.length - 1]? = some (as[l.length - 1]'(by omega)) := List.getElem?_eq_getElem (by omega)
                  have k0 : (l.map pd)[0]? = some (pd (l[0]'(by omega))) := by rw [List.getElem?_map, List.getElem?_eq_getElem (by omega)]; rfl
                  have kl : (l.map pd)[l.length - 1]? = some (pd (l[l.length - 1]'(by omega))) := by rw [List.getElem?_map, List.getElem?_eq_getElem (by omega)]; rfl
                  obtain ⟨a0, ea0, sa0⟩ := pair_at (DpAll.at hA g0 k0)
                  obtain ⟨al, eal, sal⟩ := pair_at (DpAll.at hA gl kl)
                  have f0 := hF _ (List.getElem_mem (show 0 < l.length by omega))
                  have fl := hF _ (List.getElem_mem (show l.length - 1 < l.length by omega))
                  have ix : ixN as.length (-1) = some (l.length - 1) := by
                    unfold ixN
                    rw [if_neg (by decide), if_pos (by omega)]
                    congr 1
                    omega
                  have hat : atI as (-1) = some (.ref al) := by
                    unfold atI
                    rw [ix]
                    exact gl.trans (congrArg some eal)
                  have hat0 : atI as 0 = some (.ref a0) := atI_nat (j := 0) (g0.trans (congrArg some ea0))
                  refine ⟨.ref D, rfl, 1, rfl, D, as, -1, .ref al, rfl, rfl, .inl (.inl hD), hat, al, _, 0, .int (l[l.length - 1]'(by omega)).1, rfl, rfl, sal, rfl, .ref D, rfl, D, as, 0, .ref a0, rfl, rfl, .inl (.inl hD), hat0, a0, _, 1, .int (l[0]'(by omega)).2, rfl, rfl, sa0, rfl,
                    by show 2 ≤ sizeLine; decide, fun T nT => ?_⟩
                  have nDT : D ≠ T := ne_of_none hD nT
                  have hD7 : (upd H4 T (.tup [.int (l[l.length - 1]'(by omega)).1, .int (l[0]'(by omega)).2])) D = some (.lst as) := by rw [upd_ne nDT]; exact hD
                  have nDb : D ≠ b := (bx3.ne nD).symm
                  have nDH : H D = none := by
                    cases hh : H D with
                    | none => rfl
                    | some u =>
                      have := btA D u nDb hh
                      rw [nD] at this
                      cases this
                  refine ⟨.ref D, rfl, 1, rfl, D, as, -1, l.length - 1, rfl, rfl, hD7, ix, as.set (l.length - 1) (.ref T), l.set (l.length - 1) ((l[l.length - 1]'(by omega)).1, (l[0]'(by omega)).2), rfl, ?_, ?_, upd_same, ?_, ?_, ?_⟩
                  · refine but_local nDH (btA.trans bt4) fun a u n1 n2 h => ?_
                    rw [upd_ne n2]
                    exact same_new nT a u h
                  · have nbT := bx4.ne nT
                    obtain ⟨x1, x2, x3, g1, g2⟩ := bx4
                    exact ⟨x1, x2, x3, by rw [upd_ne nDb.symm, upd_ne nbT]; exact g1, g2.1, by have := g2.2; omega⟩
                  · have kk := (Same.keep (K := K) (same_new (o := HO.tup [.int (l[l.length - 1]'(by omega)).1, .int (l[0]'(by omega)).2]) nT)).trans (keep_lst (o := .lst (as.set (l.length - 1) (.ref T))) hD7)
                    rw [List.map_set]
                    refine DpAll.set (.tup (.inl (.inl ?_)) (.cons (.int _) (.cons (.int _) .nil))) _ (pairs_keep hA kk)
                    rw [upd_ne nDT.symm, upd_same]
                  · rw [List.length_set]
                    exact hl
                  · intro y hy
                    rcases List.mem_or_eq_of_mem_set hy with g | g
                    · exact hF y g
                    · rw [g]
                      exact ⟨fl.1, f0.2⟩
                · exact ⟨as, l, rfl, btA.trans bt4, bx4.up (by omega), hD, hA, hl, hF⟩
              · exact ⟨as, l, rfl, btA.trans bt4, bx4.up (by omega), hD, hA, hl, hF⟩
            · obtain ⟨as, l, rfl, bt6, bx6, hD6, hA6, hl6, hF6⟩ := hM
              exact ⟨.ref D, rfl, D, as, rfl, .inl ⟨.inl (.inl hD6), fin H6 D as l bt6 bx6 hD6 hA6 hl6 hF6⟩⟩
end
end Pf
namespace Gk
open PySem PySem.Spec PyProof.Rows L2
/-! ### data whose equality is being the same -/
mutual
def exa : PyData → Bool
  | .none | .int _ | .str _ => true
  | .list xs | .tuple xs => exaAll xs
  | .bool _ | .dict _ => false
def exaAll : List PyData → Bool
  | [] => true
  | x :: xs => exa x && exaAll xs
end
mutual
theorem eqv_exa : ∀ d e : PyData, exa d = true → exa e = true → PyData.eqv d e = true → d = e
  | .none, .none, _, _, _ => rfl
  | .int i, .int j, _, _, h => by
    simp only [PyData.eqv, beq_iff_eq] at h
    rw [h]
  | .str x, .str y, _, _, h => by
    simp only [PyData.eqv, beq_iff_eq] at h
    rw [h]
  | .list xs, .list ys, a, b, h => by
    simp only [PyData.eqv] at h
    rw [eqv_exaAll xs ys (by simpa only [exa] using a) (by simpa only [exa] using b) h]
  | .tuple xs, .tuple ys, a, b, h => by
    simp only [PyData.eqv] at h
    rw [eqv_exaAll xs ys (by simpa only [exa] using a) (by simpa only [exa] using b) h]
  | .none, .int _, _, _, h | .none, .str _, _, _, h | .none, .list _, _, _, h | .none, .tuple _, _, _, h => by simp [PyData.eqv] at h
  | .int _, .none, _, _, h | .int _, .str _, _, _, h | .int _, .list _, _, _, h | .int _, .tuple _, _, _, h => by simp [PyData.eqv] at h
  | .str _, .none, _, _, h | .str _, .int _, _, _, h | .str _, .list _, _, _, h | .str _, .tuple _, _, _, h => by simp [PyData.eqv] at h
  | .list _, .none, _, _, h | .list _, .int _, _, _, h | .list _, .str _, _, _, h | .list _, .tuple _, _, _, h => by simp [PyData.eqv] at h
  | .tuple _, .none, _, _, h | .tuple _, .int _, _, _, h | .tuple _, .str _, _, _, h | .tuple _, .list _, _, _, h => by simp [PyData.eqv] at h
  | .bool _, _, a, _, _ | .dict _, _, a, _, _ => by simp [exa] at a
  | .none, .bool _, _, b, _ | .none, .dict _, _, b, _ | .int _, .bool _, _, b, _ | .int _, .dict _, _, b, _ | .str _, .bool _, _, b, _ | .str _, .dict _, _, b, _ => by simp [exa] at b
  | .list _, .bool _, _, b, _ | .list _, .dict _, _, b, _ | .tuple _, .bool _, _, b, _ | .tuple _, .dict _, _, b, _ => by simp [exa] at b
theorem eqv_exaAll : ∀ xs ys : List PyData, exaAll xs = true → exaAll ys = true → PyData.eqvAll xs ys = true → xs = ys
  | [], [], _, _, _ => rfl
  | x :: xs, y :: ys, a, b, h => by
    simp only [exaAll, Bool.and_eq_true] at a b
    simp only [PyData.eqvAll, Bool.and_eq_true] at h
    rw [eqv_exa x y a.1 b.1 h.1, eqv_exaAll xs ys a.2 b.2 h.2]
  | [], _ :: _, _, _, h => by simp [PyData.eqvAll] at h
  | _ :: _, [], _, _, h => by simp [PyData.eqvAll] at h
end
theorem eqv_same {d : PyData} (h : tame d = true) : PyData.eqv d d = true := SeqAt.eqv_refl d (tame_lay d h)
/-- an item of a row or of a loop -/
structure Item (d : PyData) : Prop where
  e : exa d = true
  t : tups d = true
  m : tame d = true
  dp : d.depth ≤ 1
  c : cost d ≤ 143
def Plain (ds : List PyData) : Prop := ∀ d ∈ ds, Item d
theorem Plain.exa : ∀ {ds : List PyData}, Plain ds → exaAll ds = true
  | [], _ => rfl
  | x :: xs, h => by
    simp only [exaAll, (h x List.mem_cons_self).e, Plain.exa fun z hz => h z (List.mem_cons_of_mem _ hz), Bool.and_self]
theorem Plain.tups : ∀ {ds : List PyData}, Plain ds → tupsAll ds = true
  | [], _ => rfl
  | x :: xs, h => by
    simp only [tupsAll, (h x List.mem_cons_self).t, Plain.tups fun z hz => h z (List.mem_cons_of_mem _ hz), Bool.and_self]
theorem Plain.tame : ∀ {ds : List PyData}, Plain ds → tameAll ds = true
  | [], _ => rfl
  | x :: xs, h => by
    simp only [tameAll, (h x List.mem_cons_self).m, Plain.tame fun z hz => h z (List.mem_cons_of_mem _ hz), Bool.and_self]
theorem Plain.depth : ∀ {ds : List PyData}, Plain ds → PyData.depthAll ds ≤ 1
  | [], _ => Nat.zero_le _
  | x :: xs, h => by
    have h1 := (h x List.mem_cons_self).dp
    have h2 := Plain.depth fun z hz => h z (List.mem_cons_of_mem _ hz)
    simp only [PyData.depthAll]
    omega
theorem Plain.cost : ∀ {ds : List PyData}, Plain ds → costAll ds ≤ 1 + 144 * ds.length
  | [], _ => by decide
  | x :: xs, h => by
    have h1 := (h x List.mem_cons_self).c
    have h2 := Plain.cost fun z hz => h z (List.mem_cons_of_mem _ hz)
    simp only [costAll, List.length_cons]
    omega
theorem Plain.sub {ds es : List PyData} (h : Plain ds) (s : ∀ d ∈ es, d ∈ ds) : Plain es := fun d hd => h d (s d hd)
theorem Plain.take {ds : List PyData} (h : Plain ds) (n : Nat) : Plain (ds.take n) := h.sub fun _ g => List.mem_of_mem_take g
theorem Plain.drop {ds : List PyData} (h : Plain ds) (n : Nat) : Plain (ds.drop n) := h.sub fun _ g => List.mem_of_mem_drop g
theorem Plain.app {ds es : List PyData} (h : Plain ds) (g : Plain es) : Plain (ds ++ es) := fun d hd => (List.mem_append.mp hd).elim (h d) (g d)
theorem Plain.rep {ds : List PyData} (h : Plain ds) (n : Nat) : Plain (List.replicate n ds).flatten := fun x hx => by
  obtain ⟨m, hm, hx⟩ := List.mem_flatten.mp hx
  rw [(List.mem_replicate.mp hm).2] at hx
  exact h x hx
theorem plain_pd {l : List (Int × Int)} (h : Fair l) : Plain (l.map pd) := fun d hd => by
  obtain ⟨x, hx, rfl⟩ := List.mem_map.mp hd
  have g := h x hx
  refine ⟨rfl, rfl, ?_, by simp [pd, PyData.depth, PyData.depthAll], by simp only [pd, Gk.cost, costAll]; omega⟩
  simp only [pd, Gk.tame, tameAll, Bool.and_true, Bool.and_eq_true, decide_eq_true_eq]
  omega
theorem plain_bits {l : List Int} (h : ∀ o ∈ l, o = 0 ∨ o = 1) : Plain (l.map PyData.int) := fun d hd => by
  obtain ⟨x, hx, rfl⟩ := List.mem_map.mp hd
  have g := h x hx
  refine ⟨rfl, rfl, ?_, by simp [PyData.depth], by simp only [Gk.cost]; omega⟩
  simp only [Gk.tame, decide_eq_true_eq]
  omega
theorem Plain.fine {ds : List PyData} (h : Plain ds) (hl : ds.length ≤ 1000) : Fine (.tuple ds) := by
  have h1 := h.depth
  have h2 := h.cost
  refine Fine.tame (by simpa only [Gk.tame] using h.tame) ?_ ?_
  · simp only [PyData.depth]
    omega
  · simp only [Gk.cost]
    omega
theorem Plain.shaped {ds : List PyData} (h : Plain ds) : SeqAt.shaped (.tuple ds) = true := by
  have h1 := h.depth
  refine tame_shaped (by simpa only [Gk.tame] using h.tame) ?_
  simp only [PyData.depth]
  omega
def ItsAt (K : PySem.W.Frag) (H : Hp) (p : Addr) (ds : List PyData) : Prop := Dp K H (.ref p) (.tuple ds)
theorem ItsAt.keep {K : PySem.W.Frag} {H H' : Hp} {p : Addr} {ds : List PyData} (h : ItsAt K H p ds) (hp : Plain ds) (k : Keep K H H') : ItsAt K H' p ds :=
  Dp.keep k _ _ (by simpa only [Gk.tups] using hp.tups) h
theorem ItsAt.out {K : PySem.W.Frag} {H : Hp} {p : Addr} {ds : List PyData} (h : ItsAt K H p ds) : ∃ xs, SqT K H p xs ∧ DpAll K H xs ds ∧ xs.length = ds.length := by
  cases h with
  | tup a b => exact ⟨_, a, b, DpAll.len b⟩
theorem plain_eq {ds es : List PyData} (h : Plain ds) (g : Plain es) : PyData.eqv (.tuple ds) (.tuple es) = true ↔ ds = es :=
  ⟨fun e => PyData.tuple.inj (eqv_exa _ _ (by simpa only [Gk.exa] using h.exa) (by simpa only [Gk.exa] using g.exa) e), fun e => by
    rw [e]
    exact eqv_same (by simpa only [Gk.tame] using g.tame)⟩

/-! ### roots -/
def Rep {α : Type} (l : List α) (s : Nat) : Prop := (List.replicate (l.length / s) (l.take s)).flatten = l
structure RootIs {α : Type} (l : List α) (s : Nat) : Prop where
  lo : 1 ≤ s
  hi : s ≤ l.length
  rep : Rep l s
  least : ∀ t, 1 ≤ t → t < s → ¬ Rep l t
theorem flat_len {α : Type} (n : Nat) (l : List α) : ((List.replicate n l).flatten).length = n * l.length := by
  induction n with
  | zero => simp
  | succ n ih => rw [List.replicate_succ, List.flatten_cons, List.length_append, ih, Nat.succ_mul, Nat.add_comm]
theorem Rep.many {α : Type} {l : List α} {s : Nat} (h : Rep l s) (hs : s ≤ l.length) : s * (l.length / s) = l.length := by
  have e := congrArg List.length h
  rw [flat_len, List.length_take, Nat.min_eq_left hs, Nat.mul_comm] at e
  exact e
theorem RootIs.one {α : Type} {l : List α} {s t : Nat} (a : RootIs l s) (b : RootIs l t) : s = t := by
  by_cases h : s < t
  · exact absurd a.rep (b.least s a.lo h)
  · by_cases g : t < s
    · exact absurd b.rep (a.least t b.lo g)
    · omega
theorem rep_all {α : Type} {l : List α} (h : 1 ≤ l.length) : Rep l l.length := by
  unfold Rep
  rw [Nat.div_self h, List.take_length]
  show [l].flatten = l
  simp
theorem flat_mul {α : Type} (x : List α) (k : Nat) : ∀ m : Nat, (List.replicate m (List.replicate k x).flatten).flatten = (List.replicate (m * k) x).flatten
  | 0 => by simp
  | m + 1 => by
    rw [List.replicate_succ, List.flatten_cons, flat_mul x k m, Nat.succ_mul, Nat.add_comm (m * k) k, ← List.replicate_append_replicate, List.flatten_append]
theorem root_again {α : Type} {l : List α} {s t : Nat} (a : RootIs l s) (b : RootIs (l.take s) t) : t = s := by
  have hl : (l.take s).length = s := by rw [List.length_take]; exact Nat.min_eq_left a.hi
  have ht : t ≤ s := by have := b.hi; rwa [hl] at this
  by_cases h : t < s
  · refine absurd ?_ (a.least t b.lo h)
    have r1 := a.rep
    have r2 := b.rep
    have m1 := Rep.many a.rep a.hi
    have m2 := Rep.many b.rep b.hi
    rw [hl] at m2
    unfold Rep at r1 r2 ⊢
    rw [hl] at r2
    have e1 : l.length / t = l.length / s * (s / t) := by
      have : l.length = t * (l.length / s * (s / t)) := by
        have h2 : t * (s / t) * (l.length / s) = l.length := by
          rw [m2]
          exact m1
        rw [Nat.mul_comm (l.length / s) (s / t), ← Nat.mul_assoc]
        exact h2.symm
      exact Nat.div_eq_of_eq_mul_right b.lo this
    have e2 : (l.take s).take t = l.take t := by rw [List.take_take, Nat.min_eq_left ht]
    rw [e2] at r2
    rw [e1, ← flat_mul, r2, r1]
  · omega
/-! ### turned -/
def rot {α : Type} (l : List α) (k : Nat) : List α := l.drop k ++ l.take k
theorem rot_len {α : Type} (l : List α) (k : Nat) : (rot l k).length = l.length := by
  unfold rot
  rw [List.length_append, List.length_drop, List.length_take]
  omega
theorem rot_at {α : Type} {l : List α} {k i : Nat} (hk : k < l.length) (hi : i < l.length) : (rot l k)[i]? = l[(i + k) % l.length]? := by
  unfold rot
  by_cases h : i < l.length - k
  · rw [List.getElem?_append_left (by rw [List.length_drop]; exact h), List.getElem?_drop, Nat.mod_eq_of_lt (by omega), Nat.add_comm]
  · rw [List.getElem?_append_right (by rw [List.length_drop]; omega), List.length_drop, List.getElem?_take_of_lt (by omega)]
    have : (i + k) % l.length = i - (l.length - k) := by
      rw [Nat.mod_eq_sub_mod (by omega), Nat.mod_eq_of_lt (by omega)]
      omega
    rw [this]
theorem rot_back {α : Type} {l : List α} {j k : Nat} (hk : k < l.length) (h : (j = 0 ∧ k = 0) ∨ j + k = l.length) : rot (rot l k) j = l := by
  rcases h with ⟨rfl, rfl⟩ | h
  · unfold rot
    simp
  · have hj : (l.drop k).length = j := by rw [List.length_drop]; omega
    show (rot l k).drop j ++ (rot l k).take j = l
    unfold rot
    rw [← hj, List.drop_left, List.take_left, List.take_append_drop]
/-! ### rules whose written part is named -/
def rLen2 (K : PySem.W.Frag) : List V → Hp → VK → Prop := fun xs H Q => ∃ p ys, xs = [.ref p] ∧ (SqL K H p ys ∨ SqT K H p ys) ∧ Q (.int ys.length) H
theorem call_lenK {X : Cx} (K : PySem.W.Frag) (h : X.K = K := by rfl) : CallR X (.builtin "len") (rLen2 K) := by
  subst h
  exact call_len_seq
theorem ix_tupK {X : Cx} (K : PySem.W.Frag) (h : X.K = K := by rfl) : IxR X (rIxT K) := by
  subst h
  exact ix_tup
theorem ix_listK {X : Cx} (K : PySem.W.Frag) (h : X.K = K := by rfl) : IxR X (rIxL K) := by
  subst h
  exact ix_list
end Gk
namespace Gk
open PySem PySem.Spec PyProof.Rows L2
/-! ### values of any kind: data with lists and dicts, away from what changes -/
mutual
inductive Dv (M : Addr → Prop) (K : PySem.W.Frag) (H : Hp) : V → PyData → Prop
  | non : Dv M K H .non .none
  | bl (b : Bool) : Dv M K H (.bl b) (.bool b)
  | int (i : Int) : Dv M K H (.int i) (.int i)
  | str (x : Str) : Dv M K H (.str x) (.str x)
  | lst {a : Addr} {xs : List V} {ds : List PyData} : H a = some (.lst xs) → ¬ M a → (a == sysModules) = false → DvAll M K H xs ds → Dv M K H (.ref a) (.list ds)
  | tup {a : Addr} {xs : List V} {ds : List PyData} : Rd H a (.tup xs) → ¬ M a → DvAll M K H xs ds → Dv M K H (.ref a) (.tuple ds)
  | tupK {a : Addr} {xs : List V} {ds : List PyData} : (∃ (o : Obj) (its : Array Value) (n : Nat), K.lookup a = some o ∧ o.cls = .type "tuple" ∧ o.data = .seq its n ∧ its.size ≤ sizeLine ∧ Vals xs its.toList) → DvAll M K H xs ds → Dv M K H (.ref a) (.tuple ds)
  | dct {a : Addr} {kvs : List (Key × V)} {ks : List Str} {xs : List V} {ds : List PyData} : H a = some (.dK kvs) → ¬ M a → kvs = (ks.map Sum.inr).zip xs → ks.length = ds.length → DvAll M K H xs ds →
      Dv M K H (.ref a) (.dict ((ks.map PyData.str).zip ds))
inductive DvAll (M : Addr → Prop) (K : PySem.W.Frag) (H : Hp) : List V → List PyData → Prop
  | nil : DvAll M K H [] []
  | cons {v : V} {vs : List V} {d : PyData} {ds : List PyData} : Dv M K H v d → DvAll M K H vs ds → DvAll M K H (v :: vs) (d :: ds)
end
/-- what does not belong to M stays -/
def Off (M : Addr → Prop) (H H' : Hp) : Prop := ∀ a o, ¬ M a → H a = some o → H' a = some o
theorem Off.refl {M : Addr → Prop} {H : Hp} : Off M H H := fun _ _ _ h => h
theorem Off.trans {M : Addr → Prop} {H H1 H2 : Hp} (x : Off M H H1) (y : Off M H1 H2) : Off M H H2 := fun a o n h => y a o n (x a o n h)
theorem Off.same {M : Addr → Prop} {H H' : Hp} (s : Same H H') : Off M H H' := fun a o _ h => s a o h
theorem Off.but {M : Addr → Prop} {H H' : Hp} {b : Addr} (s : But b H H') (hb : M b) : Off M H H' := fun a o n h => s a o (fun z => n (by rw [z]; exact hb)) h
theorem Off.mut {M : Addr → Prop} {H : Hp} {D : Addr} {o : HO} (hb : M D) : Off M H (upd H D o) := fun a u n h => by
  rw [upd_ne (fun z => n (by rw [z]; exact hb))]
  exact h
theorem Off.rd {M : Addr → Prop} {H H' : Hp} {a : Addr} {o : HO} (k : Off M H H') (n : ¬ M a) (h : Rd H a o) : Rd H' a o := h.elim (fun h => .inl (k _ _ n h)) fun ⟨ob, h⟩ => .inr ⟨ob, k _ _ n h⟩
theorem rd_some {H : Hp} {a : Addr} {o : HO} (h : Rd H a o) : ∃ u, H a = some u := h.elim (fun h => ⟨_, h⟩) fun ⟨ob, h⟩ => ⟨_, h⟩
mutual
theorem Dv.keep {M M' : Addr → Prop} {K : PySem.W.Frag} {H H' : Hp} (k : Off M H H') (m : ∀ a o, H a = some o → ¬ M a → ¬ M' a) : ∀ {v : V} {d : PyData}, Dv M K H v d → Dv M' K H' v d
  | _, _, .non => .non
  | _, _, .bl b => .bl b
  | _, _, .int i => .int i
  | _, _, .str x => .str x
  | _, _, .lst h n s r => .lst (k _ _ n h) (m _ _ h n) s (DvAll.keep k m r)
  | _, _, .tup h n r => .tup (k.rd n h) (let ⟨_, e⟩ := rd_some h; m _ _ e n) (DvAll.keep k m r)
  | _, _, .tupK h r => .tupK h (DvAll.keep k m r)
  | _, _, .dct h n e l r => .dct (k _ _ n h) (m _ _ h n) e l (DvAll.keep k m r)
theorem DvAll.keep {M M' : Addr → Prop} {K : PySem.W.Frag} {H H' : Hp} (k : Off M H H') (m : ∀ a o, H a = some o → ¬ M a → ¬ M' a) : ∀ {vs : List V} {ds : List PyData}, DvAll M K H vs ds → DvAll M' K H' vs ds
  | _, _, .nil => .nil
  | _, _, .cons h t => .cons (Dv.keep k m h) (DvAll.keep k m t)
end
section
variable {M : Addr → Prop} {K : PySem.W.Frag} {H H' : Hp}
theorem Dv.off {v : V} {d : PyData} (h : Dv M K H v d) (k : Off M H H') : Dv M K H' v d := h.keep k fun _ _ _ n => n
theorem DvAll.off {vs : List V} {ds : List PyData} (h : DvAll M K H vs ds) (k : Off M H H') : DvAll M K H' vs ds := h.keep k fun _ _ _ n => n
theorem DvAll.len : ∀ {vs : List V} {ds : List PyData}, DvAll M K H vs ds → vs.length = ds.length
  | _, _, .nil => rfl
  | _, _, .cons _ t => by rw [List.length_cons, List.length_cons, DvAll.len t]
theorem DvAll.take : ∀ {vs : List V} {ds : List PyData} (n : Nat), DvAll M K H vs ds → DvAll M K H (vs.take n) (ds.take n)
  | _, _, 0, _ => .nil
  | _, _, _ + 1, .nil => .nil
  | _, _, n + 1, .cons h t => .cons h (DvAll.take n t)
theorem DvAll.drop : ∀ {vs : List V} {ds : List PyData} (n : Nat), DvAll M K H vs ds → DvAll M K H (vs.drop n) (ds.drop n)
  | _, _, 0, h => h
  | _, _, _ + 1, .nil => .nil
  | _, _, n + 1, .cons _ t => DvAll.drop n t
theorem DvAll.app : ∀ {vs us : List V} {ds es : List PyData}, DvAll M K H vs ds → DvAll M K H us es → DvAll M K H (vs ++ us) (ds ++ es)
  | _, _, _, _, .nil, h => h
  | _, _, _, _, .cons h t, h2 => .cons h (DvAll.app t h2)
theorem DvAll.rev : ∀ {vs : List V} {ds : List PyData}, DvAll M K H vs ds → DvAll M K H vs.reverse ds.reverse
  | _, _, .nil => .nil
  | _, _, .cons h t => by
    rw [List.reverse_cons, List.reverse_cons]
    exact DvAll.app (DvAll.rev t) (.cons h .nil)
theorem DvAll.at : ∀ {vs : List V} {ds : List PyData} {i : Nat} {v : V}, DvAll M K H vs ds → vs[i]? = some v → ∃ d, ds[i]? = some d ∧ Dv M K H v d
  | _, _, _, _, .nil, h => by simp at h
  | _, _, 0, _, .cons h _, e => by
    obtain rfl := Option.some.inj e
    exact ⟨_, rfl, h⟩
  | _, _, i + 1, _, .cons _ t, e => DvAll.at (i := i) t (by simpa using e)
end
/-- the keys and the values of a dict's entries, as they are read -/
theorem pairs_reads {P : Program} {w : World} {h : Heap} : ∀ {es : List DictEntry} {ks : List Str} {xs : List V} {vs : List (Key × Value)} {us : List Value}, ks.length = xs.length → KV ((ks.map Sum.inr).zip xs) vs → Pairs (mixKind P w) es vs →
    (∃ us, Vals xs us ∧ es.map (·.val) = us) ∧ ReadsAll h (es.map (·.key)) (ks.map PyData.str) []
  | es, [], [], vs, us, _, r, p => by
    cases r
    cases p
    exact ⟨⟨[], .nil, rfl⟩, .nil⟩
  | es, k :: ks, x :: xs, vs, us, l, r, p => by
    cases r with
    | cons r1 r2 =>
      cases p with
      | cons p1 p2 p3 =>
        obtain ⟨⟨us', v', e'⟩, rd⟩ := pairs_reads (us := []) (by simpa using l) r2 p3
        obtain ⟨r1a, r1b⟩ := r1
        refine ⟨⟨_ :: us', .cons r1b v', by rw [List.map_cons, e', p2]⟩, ?_⟩
        rw [← r1a] at p1
        have p1' : Value.isStrOf k _ = true := p1
        obtain ⟨t, et⟩ := Value.isStrOf_shape p1'
        rw [List.map_cons, List.map_cons, et]
        exact ReadsAll.cons (as := []) (bs := []) (Reads.str k t) rd
  | _, [], _ :: _, _, _, l, _, _ => by simp at l
  | _, _ :: _, [], _, _, l, _, _ => by simp at l
section
variable {X : Cx} {M : Addr → Prop} {pins : List (Addr × Obj)} {σ : L2.St} {H : Hp} {s : Shared}
mutual
theorem Dv.reads (I : Inv X pins σ H s) : ∀ {v : V} {d : PyData} {u : Value}, Dv M X.K H v d → RelV v u → ∃ as, Reads s.heap u d as ∧ sysModules ∉ as
  | _, _, u, .non, r => by cases r; exact ⟨[], .none, fun z => nomatch z⟩
  | _, _, u, .bl b, r => by cases r; exact ⟨[], .bool b, fun z => nomatch z⟩
  | _, _, u, .int i, r => by obtain ⟨t, rfl⟩ := r; exact ⟨[], .int i t, fun z => nomatch z⟩
  | _, _, u, .str x, r => by obtain ⟨t, rfl⟩ := r; exact ⟨[], .str x t, fun z => nomatch z⟩
  | _, _, u, .lst (a := a) h n sm ra, r => by
    cases r
    obtain ⟨hz, its, k, rv, ho⟩ := I.hok _ _ h
    obtain ⟨as, rd, na⟩ := DvAll.reads I ra rv
    refine ⟨a :: as, .list ho rfl rfl (by simpa using rd), fun z => ?_⟩
    rcases List.mem_cons.mp z with z | z
    · rw [z] at sm
      exact absurd sm (by simp)
    · exact na z
  | _, _, u, .tup h n ra, r => by
    cases r
    obtain ⟨its, rv, ⟨o, ho, hc, k, hd⟩, _⟩ := I.tuple (.inl h)
    obtain ⟨as, rd, na⟩ := DvAll.reads I ra rv
    exact ⟨as, .tuple ho hc hd (by simpa using rd), na⟩
  | _, _, u, .tupK h ra, r => by
    cases r
    obtain ⟨its, rv, ⟨o, ho, hc, k, hd⟩, _⟩ := I.tuple (.inr h)
    obtain ⟨as, rd, na⟩ := DvAll.reads I ra rv
    exact ⟨as, .tuple ho hc hd (by simpa using rd), na⟩
  | _, _, u, .dct (a := a) (ks := ks) (xs := xs) h n e l ra, r => by
    cases r
    obtain ⟨hz, sm, vs, kv, o, es, ep, ho, ex, hd, _, ps, _⟩ := I.hok _ _ h
    rw [e] at kv
    have hl := DvAll.len ra
    obtain ⟨⟨us, vu, eu⟩, rk⟩ := pairs_reads (P := X.prog) (w := X.w) (h := s.heap) (us := []) (l.trans hl.symm) kv ps
    obtain ⟨as, rd, na⟩ := DvAll.reads I ra vu
    rw [← eu] at rd
    refine ⟨a :: [] ++ as, .dict ho ex.1 hd ?_ ?_, fun z => ?_⟩
    · rw [List.map_fst_zip (by rw [List.length_map]; omega)]
      exact rk
    · rw [List.map_snd_zip (by rw [List.length_map]; omega)]
      exact rd
    · rcases List.mem_cons.mp z with z | z
      · rw [z] at sm
        exact absurd sm (by simp)
      · exact na z
theorem DvAll.reads (I : Inv X pins σ H s) : ∀ {vs : List V} {ds : List PyData} {us : List Value}, DvAll M X.K H vs ds → Vals vs us → ∃ as, ReadsAll s.heap us ds as ∧ sysModules ∉ as
  | _, _, _, .nil, r => by cases r; exact ⟨[], .nil, fun z => nomatch z⟩
  | _, _, _, .cons h t, r => by
    cases r with
    | cons r1 r2 =>
      obtain ⟨as, q1, n1⟩ := Dv.reads I h r1
      obtain ⟨bs, q2, n2⟩ := DvAll.reads I t r2
      exact ⟨as ++ bs, .cons q1 q2, fun z => (List.mem_append.mp z).elim n1 n2⟩
end
end
end Gk
namespace Gk
open PySem PySem.Spec PyProof.Rows L2
mutual
def fin : PyData → Nat → Bool
  | .none, _ | .bool _, _ => true
  | .int i, B => decide (i.natAbs ≤ B)
  | .str x, _ => x.cps.all (· < 0x110000)
  | .list xs, B | .tuple xs, B => finAll xs B
  | .dict kvs, B => finKv kvs B
def finAll : List PyData → Nat → Bool
  | [], _ => true
  | x :: xs, B => fin x B && finAll xs B
def finKv : List (PyData × PyData) → Nat → Bool
  | [], _ => true
  | (k, v) :: r, B => fin k B && fin v B && finKv r B
end
mutual
def big : PyData → Nat
  | .none | .bool _ | .int _ => 70
  | .str x => x.cps.size + 1
  | .list xs | .tuple xs => bigAll xs
  | .dict kvs => bigKv kvs
def bigAll : List PyData → Nat
  | [] => 1
  | x :: xs => big x + 1 + bigAll xs
def bigKv : List (PyData × PyData) → Nat
  | [] => 1
  | (k, v) :: r => big k + big v + 2 + bigKv r
end
mutual
theorem fin_facts {B : Nat} (hB : B < 10 ^ 20) : ∀ d : PyData, fin d B = true → d.showable = true ∧ d.leavesShort 21 = true ∧ d.weight ≤ big d
  | .none, _ => ⟨rfl, rfl, Nat.zero_le _⟩
  | .bool _, _ => ⟨rfl, rfl, Nat.zero_le _⟩
  | .int i, h => by
    simp only [fin, decide_eq_true_eq] at h
    have h1 := int_log20 (c := i) (by omega)
    have h2 := int_len20 (c := i) (by omega)
    refine ⟨?_, ?_, ?_⟩
    · simp only [PyData.showable]
      exact decide_eq_true (by omega)
    · simp only [PyData.leavesShort]
      exact decide_eq_true h2
    · simp only [PyData.weight, big]
      split <;> omega
  | .str x, h => by
    have h1 : tame (.str x) = true := by simpa only [fin, tame] using h
    exact ⟨rfl, tame_short _ h1, by simp only [PyData.weight, big]; omega⟩
  | .list xs, h => by
    have := fin_factsAll hB xs (by simpa only [fin] using h)
    simpa only [PyData.showable, PyData.leavesShort, PyData.weight, big] using this
  | .tuple xs, h => by
    have := fin_factsAll hB xs (by simpa only [fin] using h)
    simpa only [PyData.showable, PyData.leavesShort, PyData.weight, big] using this
  | .dict kvs, h => by
    have := fin_factsKv hB kvs (by simpa only [fin] using h)
    simpa only [PyData.showable, PyData.leavesShort, PyData.weight, big] using this
theorem fin_factsAll {B : Nat} (hB : B < 10 ^ 20) : ∀ ds : List PyData, finAll ds B = true → PyData.showableAll ds = true ∧ PyData.leavesShortAll 21 ds = true ∧ PyData.weightAll ds ≤ bigAll ds
  | [], _ => ⟨rfl, rfl, Nat.zero_le _⟩
  | x :: xs, h => by
    simp only [finAll, Bool.and_eq_true] at h
    obtain ⟨a1, a2, a3⟩ := fin_facts hB x h.1
    obtain ⟨b1, b2, b3⟩ := fin_factsAll hB xs h.2
    refine ⟨by simp only [PyData.showableAll, a1, b1, Bool.and_self], by simp only [PyData.leavesShortAll, a2, b2, Bool.and_self], ?_⟩
    simp only [PyData.weightAll, bigAll]
    omega
theorem fin_factsKv {B : Nat} (hB : B < 10 ^ 20) : ∀ kvs : List (PyData × PyData), finKv kvs B = true → PyData.showableKv kvs = true ∧ PyData.leavesShortKv 21 kvs = true ∧ PyData.weightKv kvs ≤ bigKv kvs
  | [], _ => ⟨rfl, rfl, Nat.zero_le _⟩
  | (k, v) :: r, h => by
    simp only [finKv, Bool.and_eq_true] at h
    obtain ⟨a1, a2, a3⟩ := fin_facts hB k h.1.1
    obtain ⟨c1, c2, c3⟩ := fin_facts hB v h.1.2
    obtain ⟨b1, b2, b3⟩ := fin_factsKv hB r h.2
    refine ⟨by simp only [PyData.showableKv, a1, b1, c1, Bool.and_self], by simp only [PyData.leavesShortKv, a2, b2, c2, Bool.and_self], ?_⟩
    simp only [PyData.weightKv, bigKv]
    omega
end
/-- data that may be shown, of any kind -/
structure Show (d : PyData) : Prop where
  a : d.showable = true
  c : d.depth ≤ 40
  e : d.shown.length ≤ sizeLine
theorem Show.of {d : PyData} {B : Nat} (hB : B < 10 ^ 20) (h : fin d B = true) (hd : d.depth ≤ 40) (hc : big d ≤ 500000) : Show d := by
  obtain ⟨a1, a2, a3⟩ := fin_facts hB d h
  refine ⟨a1, hd, ?_⟩
  have h1 := PyData.shown_le 21 (by decide) d a2
  have h3 : sizeLine = 16777216 := sizeLine_eq
  omega
theorem call_reprV {X : Cx} {k : Nat} (M : Addr → Prop) (hr : Room k X.A) (hg : X.A.guards = some []) : CallR X (.builtin "repr") (fun xs H Q => ∃ v d, xs = [v] ∧ Dv M X.K H v d ∧ Show d ∧ Q (.str d.shown) H) := by
  intro pins s σ H xs us Q I r h
  obtain ⟨v, d, rfl, hd, sh, q⟩ := h
  obtain ⟨u, rfl, ru⟩ := vals1 r
  have hun := hr.units
  have hc := sh.c
  obtain ⟨as, rd, na⟩ := Dv.reads I hd ru
  cases hd with
  | non =>
    cases ru
    exact PySem.P.repr_of_none ⟨.str _, H, I.tok _, ⟨_, rfl⟩, q⟩
  | bl b =>
    cases ru
    exact PySem.P.repr_of_bool ⟨.str _, H, I.tok _, ⟨_, rfl⟩, q⟩
  | int i =>
    obtain ⟨t, rfl⟩ := ru
    exact PySem.P.repr_of_int (of_decide_eq_true sh.a) ⟨.str _, H, I.tok _, ⟨_, rfl⟩, q⟩
  | str x =>
    obtain ⟨t, rfl⟩ := ru
    exact PySem.P.repr_of_str ⟨.str _, H, I.tok _, ⟨_, rfl⟩, q⟩ sh.e
  | lst _ _ _ _ =>
    cases ru
    exact repr_of_reads' rd sh.a (fun _ => na) hg (by omega) (fun _ _ e => e) (fun h' t tk hk => ⟨.str _, H, I.kept (t' := tk) hk, ⟨_, rfl⟩, q⟩) sh.e
  | tupK _ _ =>
    cases ru
    exact repr_of_reads' rd sh.a (fun _ => na) hg (by omega) (fun _ _ e => e) (fun h' t tk hk => ⟨.str _, H, I.kept (t' := tk) hk, ⟨_, rfl⟩, q⟩) sh.e
  | tup _ _ _ =>
    cases ru
    exact repr_of_reads' rd sh.a (fun _ => na) hg (by omega) (fun _ _ e => e) (fun h' t tk hk => ⟨.str _, H, I.kept (t' := tk) hk, ⟨_, rfl⟩, q⟩) sh.e
  | dct _ _ _ _ _ =>
    cases ru
    exact repr_of_reads' rd sh.a (fun _ => na) hg (by omega) (fun _ _ e => e) (fun h' t tk hk => ⟨.str _, H, I.kept (t' := tk) hk, ⟨_, rfl⟩, q⟩) sh.e
/-- a list of written items, its place told apart from the table of modules -/
def tLstN (t : TA) : TE := fun σ H Q => t σ H fun xs H1 => xs.length ≤ sizeLine ∧ ∀ p, H1 p = none → (p == sysModules) = false → Q (.ref p) (upd H1 p (.lst xs))
theorem not_modules {X : Cx} {pins : List (Addr × Obj)} {σ : L2.St} {H : Hp} {s : Shared} (I : Inv X pins σ H s) : (s.heap.objs.size == sysModules) = false := beq_eq_false_iff_ne.mpr (Nat.ne_of_gt I.big)
theorem pe_lstN {X : Cx} {es : List Expr} {t : TA} {pos : Pos} (h : PA X es t) : PE X (.List es pos) (tLstN t) :=
  ⟨fun pins s σ H Q I hq => wpAny_List_spliced (thn (h.run pos pins s σ H _ I hq) fun us s1 ⟨xs, H1, I1, r, z, q⟩ => ⟨by rw [← r.length]; exact z, .ref s1.heap.objs.size, upd H1 s1.heap.objs.size (.lst xs),
    I1.laid (t' := s1.toks) (fun b u e => Heap.get?_push_of_some _ e) (Nat.le_refl _) ⟨z, us, 0, r, Heap.get?_push_size _ rfl⟩, rfl, q _ (I1.hok.fresh (Nat.le_refl _)) (not_modules I1)⟩)⟩
/-- what isinstance says of such a value -/
def tyD : PyData → Value
  | .none => .type "NoneType"
  | .bool _ => .type "bool"
  | .int _ => .type "int"
  | .str _ => .type "str"
  | .list _ => .type "list"
  | .tuple _ => .type "tuple"
  | .dict _ => .type "dict"
theorem Dv.ty {M : Addr → Prop} {K : PySem.W.Frag} {H : Hp} {v : V} {d : PyData} (h : Dv M K H v d) : TyX K H v (tyD d) := by
  cases h with
  | non => exact .base .non
  | bl b => exact .base (.bl b)
  | int i => exact .base (.int i)
  | str x => exact .base (.str x)
  | lst h _ _ _ => exact .base (.lst h)
  | tup h _ _ =>
    rcases h with h | ⟨o, h⟩
    · exact .base (.tup h)
    · exact .fTuple h
  | tupK h _ =>
    obtain ⟨o, _, _, e, c, _⟩ := h
    exact .kTuple e c
  | dct h _ _ _ _ => exact .base (.dK h)
def isTup : PyData → Bool
  | .tuple _ => true
  | _ => false
def isIn : PyData → Bool
  | .int _ | .bool _ => true
  | _ => false
def isBo : PyData → Bool
  | .bool _ => true
  | _ => false
theorem kit_tup {K : PySem.W.Frag} (d : PyData) : PySem.W.kitOne K (tyD d) (.type "tuple") = some (isTup d) := by
  have t : ∀ x ∈ ["NoneType", "bool", "int", "str", "list", "dict"], kitB x "tuple" = some false := by decide +kernel
  cases d with
  | none => exact L2.kit_ty (t "NoneType" (by decide))
  | bool _ => exact L2.kit_ty (t "bool" (by decide))
  | int _ => exact L2.kit_ty (t "int" (by decide))
  | str _ => exact L2.kit_ty (t "str" (by decide))
  | list _ => exact L2.kit_ty (t "list" (by decide))
  | dict _ => exact L2.kit_ty (t "dict" (by decide))
  | tuple _ => exact L2.kit_ty (show kitB "tuple" "tuple" = some true by decide +kernel)
theorem kit_int {K : PySem.W.Frag} (d : PyData) : PySem.W.kitOne K (tyD d) (.type "int") = some (isIn d) := by
  have t : ∀ x ∈ ["NoneType", "str", "list", "tuple", "dict"], kitB x "int" = some false := by decide +kernel
  have u : ∀ x ∈ ["bool", "int"], kitB x "int" = some true := by decide +kernel
  cases d with
  | none => exact L2.kit_ty (t "NoneType" (by decide))
  | bool _ => exact L2.kit_ty (u "bool" (by decide))
  | int _ => exact L2.kit_ty (u "int" (by decide))
  | str _ => exact L2.kit_ty (t "str" (by decide))
  | list _ => exact L2.kit_ty (t "list" (by decide))
  | dict _ => exact L2.kit_ty (t "dict" (by decide))
  | tuple _ => exact L2.kit_ty (t "tuple" (by decide))
theorem kit_bool {K : PySem.W.Frag} (d : PyData) : PySem.W.kitOne K (tyD d) (.type "bool") = some (isBo d) := by
  have t : ∀ x ∈ ["NoneType", "int", "str", "list", "tuple", "dict"], kitB x "bool" = some false := by decide +kernel
  cases d with
  | none => exact L2.kit_ty (t "NoneType" (by decide))
  | int _ => exact L2.kit_ty (t "int" (by decide))
  | str _ => exact L2.kit_ty (t "str" (by decide))
  | list _ => exact L2.kit_ty (t "list" (by decide))
  | dict _ => exact L2.kit_ty (t "dict" (by decide))
  | tuple _ => exact L2.kit_ty (t "tuple" (by decide))
  | bool _ => exact L2.kit_ty (show kitB "bool" "bool" = some true by decide +kernel)
end Gk
namespace Gk
open PySem PySem.Spec PyProof.Rows L2
/-! ### expressions that make data -/
theorem same_new2 {H : Hp} {p : Addr} {o o' : HO} (h : H p = none) : Same H (upd (upd H p o) p o') := fun a u e => by
  rw [upd_ne (ne_of_none e h), upd_ne (ne_of_none e h)]; exact e
/-- what M speaks of stands on the heap -/
def Stands (M : Addr → Prop) (H : Hp) : Prop := ∀ a, M a → ∃ o, H a = some o
theorem Stands.same {M : Addr → Prop} {H H' : Hp} (h : Stands M H) (s : Same H H') : Stands M H' := fun a m => by
  obtain ⟨o, e⟩ := h a m
  exact ⟨o, s _ _ e⟩
theorem Stands.new {M : Addr → Prop} {H : Hp} {p : Addr} (h : Stands M H) (n : H p = none) : ¬ M p := fun m => by
  obtain ⟨o, e⟩ := h p m
  rw [n] at e; cases e
def Mk (M : Addr → Prop) (K : PySem.W.Frag) (t : TE) (σ : L2.St) (H0 : Hp) (d : PyData) : Prop :=
  ∀ (H : Hp) (M' : Addr → Prop) (Q : VK), Same H0 H → (∀ a, M a → M' a) → (∀ a, M' a → M a ∨ H0 a = none) → Stands M' H → (∀ v H', Same H H' → Dv M' K H' v d → Q v H') → t σ H Q
def MkA (M : Addr → Prop) (K : PySem.W.Frag) (t : TA) (σ : L2.St) (H0 : Hp) (ds : List PyData) : Prop :=
  ∀ (H : Hp) (M' : Addr → Prop) (Q : List V → Hp → Prop), Same H0 H → (∀ a, M a → M' a) → (∀ a, M' a → M a ∨ H0 a = none) → Stands M' H → (∀ vs H', Same H H' → DvAll M' K H' vs ds → Q vs H') → t σ H Q
theorem none_of {H H' : Hp} {p : Addr} (s : Same H H') (n : H' p = none) : H p = none := by
  cases e : H p with
  | none => rfl
  | some o => rw [s _ _ e] at n; cases n
section
variable {M : Addr → Prop} {K : PySem.W.Frag} {σ : L2.St} {H0 : Hp}
theorem mk_c {v : V} {d : PyData} (h : ∀ M H, Dv M K H v d) : Mk M K (tC v) σ H0 d := fun H M' Q s u w z q => q _ _ (Same.refl _) (h M' H)
theorem mk_int {i : Int} : Mk M K (tC (.int i)) σ H0 (.int i) := mk_c fun _ _ => .int i
theorem mk_str {x : Str} : Mk M K (tC (.str x)) σ H0 (.str x) := mk_c fun _ _ => .str x
theorem mk_non : Mk M K (tC .non) σ H0 .none := mk_c fun _ _ => .non
theorem mk_bl {b : Bool} : Mk M K (tC (.bl b)) σ H0 (.bool b) := mk_c fun _ _ => .bl b
theorem mk_neg {i : Int} : Mk M K (tUn (rU fun i => .int (-i)) (tC (.int i))) σ H0 (.int (-i)) := fun H M' Q s u w z q => ⟨_, rfl, q _ _ (Same.refl _) (.int _)⟩
theorem mk_pow {i j : Int} (c : CPow i j) : Mk M K (tOp (rI CPow fun i j => .int (i ^ j.toNat)) (tC (.int i)) (tC (.int j))) σ H0 (.int (i ^ j.toNat)) :=
  fun H M' Q s u w z q => ⟨_, _, rfl, rfl, c, q _ _ (Same.refl _) (.int _)⟩
theorem mk_var {i : Nat} {v : V} {d : PyData} (e : σ[i]? = some (some v)) (h : Dv M K H0 v d) : Mk M K (tVar i) σ H0 d := fun H M' Q s u w z q =>
  ⟨v, e, q _ _ (Same.refl _) (h.keep (Off.same s) fun a o ea na ma => (w a ma).elim na fun en => by rw [ea] at en; cases en)⟩
theorem mkA_nil : MkA M K tNil σ H0 [] := fun H M' Q s u w z q => q _ _ (Same.refl _) .nil
theorem mkA_cons {t : TE} {r : TA} {d : PyData} {ds : List PyData} (h : Mk M K t σ H0 d) (hr : MkA M K r σ H0 ds) : MkA M K (tCons t r) σ H0 (d :: ds) := fun H M' Q s u w z q =>
  h H M' _ s u w z fun v H1 s1 e1 => hr H1 M' _ (s.trans s1) u w (z.same s1) fun vs H2 s2 e2 => q _ _ (s1.trans s2) (.cons (e1.off (Off.same s2)) e2)
theorem mk_tup {t : TA} {ds : List PyData} (h : MkA M K t σ H0 ds) (l : ds.length ≤ 1000) : Mk M K (tTup t) σ H0 (.tuple ds) := fun H M' Q s u w z q =>
  h H M' _ s u w z fun vs H1 s1 e1 => ⟨by rw [e1.len, sizeLine_eq]; omega, fun p n => q _ _ (s1.trans (same_new n)) (.tup (.inl upd_same) ((z.same s1).new n) (e1.off (Off.same (same_new n))))⟩
theorem mk_lst {t : TA} {ds : List PyData} (h : MkA M K t σ H0 ds) (l : ds.length ≤ 1000) : Mk M K (tLstN t) σ H0 (.list ds) := fun H M' Q s u w z q =>
  h H M' _ s u w z fun vs H1 s1 e1 => ⟨by rw [e1.len, sizeLine_eq]; omega, fun p n y => q _ _ (s1.trans (same_new n)) (.lst upd_same ((z.same s1).new n) y (e1.off (Off.same (same_new n))))⟩
theorem mk_dct {t : TE} {k : Str} {d : PyData} (h : Mk M K t σ H0 d) : Mk M K (tDisp [(tC (.str k), t)]) σ H0 (.dict [(.str k, d)]) := fun H M' Q s u w z q => by
  intro p n
  show t σ _ _
  refine h _ (fun a => M' a ∨ a = p) _ (s.trans (same_new n)) (fun a ma => .inl (u a ma)) (fun a ma => ma.elim (w a) fun e => .inr (by rw [e]; exact none_of s n)) (fun a ma => ?_) fun v H1 s1 e1 => ?_
  · rcases ma with ma | rfl
    · obtain ⟨o, e⟩ := z a ma
      exact ⟨o, same_new n _ _ e⟩
    · exact ⟨_, upd_same⟩
  · have hp : H1 p = some (.dK []) := s1 _ _ upd_same
    have sm : Same H (upd H1 p (.dK [(Sum.inr k, v)])) := fun a o e => by
      rw [upd_ne (ne_of_none e n)]
      exact s1 _ _ (same_new n _ _ e)
    refine ⟨hp, [(Sum.inr k, v)], rfl, by show 1 ≤ 15; decide, q _ _ sm ?_⟩
    exact Dv.dct (ks := [k]) (xs := [v]) (ds := [d]) upd_same (z.new n) rfl rfl (.cons (e1.keep (Off.mut (.inr rfl)) fun a o _ na ma => na (.inl ma)) .nil)
theorem mk_dct0 : Mk M K tDNewK σ H0 (.dict []) := fun H M' Q s u w z q => by
  intro p n
  exact q _ _ (same_new n) (.dct (ks := []) (xs := []) (ds := []) upd_same (z.new n) rfl rfl .nil)
/-- a list of made things -/
theorem mk_some {t : TA} {ds : List PyData} {Q : VK} (h : MkA M K t σ H0 ds) (z : Stands M H0) (l : ds.length ≤ 1000) (q : ∀ p xs H', Same H0 H' → H0 p = none → H' p = some (.lst xs) → DvAll M K H' xs ds → xs.length = ds.length → Q (.ref p) H') : tLst t σ H0 Q :=
  h H0 M _ (Same.refl _) (fun _ m => m) (fun _ m => .inl m) z fun vs H1 s1 e1 => ⟨by rw [e1.len, sizeLine_eq]; omega, fun p n => q p vs _ (s1.trans (same_new n)) (none_of s1 n) upd_same (e1.off (Off.same (same_new n))) e1.len⟩
end
end Gk
namespace Gk
open PySem PySem.Spec PyProof.Rows L2
/-! ### sets of ints made by a comprehension -/
section
variable {X : Cx}
/-- {elt for target in iter}: D is the new set -/
def tSi (w : World) (src : TI) (g : TG) (te : TE) (own : List Nat) : TE := fun σ H Q => src σ H fun J G => ∀ D, G D = none → ∃ Stage : Nat → Nat → Hp → Prop,
  (∃ k, Stage 0 k (upd G D (L2.SetO w D (fun _ => false) 0))) ∧ ∀ i k G', Stage i k G' → (J.stop i G' ∧ Q (.ref D) G') ∨
    (J.go i G' ∧ ∃ After : Hp → Prop, (∀ G2, After G2 → ∃ j, j < k ∧ Stage (i + 1) j G2) ∧ ∀ x G2, J.yld i G' x G2 → g x (wipe σ own) G2 fun τ G3 => wipe τ own = wipe σ own ∧
      te τ G3 fun y G4 => ∃ (c : Int) (S : Int → Bool) (n : Nat), y = .int c ∧ G4 D = some (L2.SetO w D S n) ∧ n + 1 < scanBound ∧ After (upd G4 D (L2.SetO w D (fun j => S j || decide (j = c)) (if S c = true then n else n + 1))))
theorem pe_si {elt tg iter : Expr} {scope : Scope} {own : List (PySem.Str × Nat)} {pos : Pos} {src : TI} {g : TG} {te : TE} (calm : X.calm = true) (nd : X.N.Nodup) (walk : PI X tg iter src) (blk : BlkOk X.N X.env.scope scope own)
    (put : ∀ (s : Shared) (G : Hp) (C : Addr) (cl : List (PySem.Str × Addr)) (fp : List Addr), PG (X.blk s G scope (compEnvC scope cl C X.env) fp) tg g)
    (val : ∀ (s : Shared) (G : Hp) (C : Addr) (cl : List (PySem.Str × Addr)) (fp : List Addr), PE (X.blk s G scope (compEnvC scope cl C X.env) fp) elt te)
    (plain : ∀ x, foldedSetIterable iter X.env x = pure x := by intro _; rfl) : PE X (.SetComp elt [⟨tg, iter, [], 0⟩] scope pos) (tSi X.w src g te (own.map (·.2))) := by
  refine ⟨fun pins s σ H Q inv want => ?_⟩
  rw [PpSet.eval_SetComp]
  have free : ∀ y ∈ scope.names, y.2 = .free → ∃ c, X.env.cells.lookup y.1 = some c := fun y hy e =>
    (blk.free y hy e).elim (fun k => inv.ok.has _ (.inl k)) fun k => inv.ok.has _ (.inr k)
  refine wpAny_comprehension_free (use := none) rfl plain (closure_ok free) blk.kind (fun y hy e => by rw [blk.uniq y hy, e]) (thn (walk.run pins s σ H _ inv want) fun xv s1 got => thn got fun itv a have2 => ?_)
  obtain ⟨it, fp, tn, J, G, rfl, invA, T, stA, frA, go⟩ := have2
  refine PpSet.newSet_ok (newEnv_comp ?_)
  generalize eD : a.heap.objs.size = D
  have D0 : G D = none := invA.hok.fresh (Nat.le_of_eq eD)
  obtain ⟨Stage, ⟨k0, first⟩, turn⟩ := go D D0
  generalize eNew : ({ cls := .type "set", dict := none, data := .set #[] 0 (.fresh 0 0 (!X.w.params.followText "set-order")) } : Obj) = new
  generalize eB : ({ a with heap := a.heap.push new } : Shared) = b
  have hB : b.heap = a.heap.push new := by rw [← eB]
  have keepB : ∀ (c : Addr) (o : Obj), a.heap.get? c = some o → b.heap.get? c = some o := fun c o e => by rw [hB]; exact Heap.get?_push_of_some _ e
  have made : SetR X.w b.heap D (fun _ => false) 0 := by
    rw [hB, ← eNew, ← eD]
    exact setR_fresh X.w
  have invB : L2.Inv X pins σ (upd G D (L2.SetO X.w D (fun _ => false) 0)) b := by
    rw [← eB]
    refine invA.laid (t' := a.toks) (fun c o e => Heap.get?_push_of_some _ e) (Nat.le_of_eq eD) ?_
    have := L2.setO_new (P := X.prog) (H := upd G D (L2.SetO X.w D (fun _ => false) 0)) made
    rwa [hB] at this
  have small : ∀ c ∈ fp, c < a.heap.objs.size := fun c hc => let ⟨o, e, _⟩ := T.obj _ _ stA c hc; Heap.lt_size e
  have frB : ∀ c ∈ fp, FpOk X pins (upd G D (L2.SetO X.w D (fun _ => false) 0)) c ∧ c < b.heap.objs.size := fun c hc => by
    have lt := small c hc
    refine ⟨⟨?_, (frA c hc).2⟩, by rw [hB, Heap.size_push]; exact Nat.lt_succ_of_lt lt⟩
    rw [upd_ne (show c ≠ D by rw [← eD]; exact Nat.ne_of_lt lt)]
    exact (frA c hc).1
  have stB : tn 0 b.heap := T.keep _ _ _ stA fun c _ o e => keepB c o e
  generalize eG : upd G D (L2.SetO X.w D (fun _ => false) 0) = GB at first invB frB
  have invC := block_start invB blk nd frB
  have free0 : ∀ c ∈ fp, GB c = none := fun c hc => (frB c hc).1.1
  generalize eCl : cellsFrom (b.heap.objs.size + 1) scope.names (cloFrom X.env.cells scope.names []) = cl at invC
  have aim := put b GB b.heap.objs.size cl fp
  have made2 := val b GB b.heap.objs.size cl fp
  show codeAny (model X.prog X.w) X.A (.compStart (.SetComp elt [⟨tg, iter, [], 0⟩] scope pos) 0 (.ref it) (.ref D) (compEnvC scope cl b.heap.objs.size X.env)) (compPost (model X.prog X.w) X.A X.xe none (EP X pins σ Q) (.ref D) b.heap.objs.size) { b with heap := pushCells (b.heap.push { cls := .type "dict", data := .dict #[] }) scope.names }
  generalize eCe : compEnvC scope cl b.heap.objs.size X.env = ce at invC aim made2 ⊢
  have place : ce.locals = b.heap.objs.size := by rw [← eCe]; rfl
  generalize eC : ({ b with heap := pushCells (b.heap.push { cls := .type "dict", data := .dict #[] }) scope.names } : Shared) = c0 at invC ⊢
  have stC : tn 0 c0.heap := T.keep _ _ _ stB fun c _ o e => by
    rw [← eC]
    exact pushCells_keeps _ _ _ _ (Heap.get?_push_of_some _ e)
  have inside : ∀ {τ : L2.St} {G' : Hp} {s' : Shared}, L2.Inv (X.blk b GB scope ce fp) [] τ G' s' → (∀ c ∈ fp, G' c = none) → ∀ c ∈ fp, FpOk (X.blk b GB scope ce fp) [] G' c := fun {τ G' s'} inv' no c hc =>
    ⟨no c hc, (inv'.ok.exf c hc).1, inv'.ok.exfs c hc, .inl hc, fun x d e => (inv'.ok.exf c hc).2 x d e, fun p hp => absurd (show p ∈ ([] : List (Addr × Obj)) ++ [] from hp) (by simp)⟩
  have whole : codeAny (model X.prog X.w) X.A (.compLoop (.SetComp elt [⟨tg, iter, [], 0⟩] scope pos) 0 (.ref it) (.ref D) ce) (compPost (model X.prog X.w) X.A X.xe none (EP X pins σ Q) (.ref D) b.heap.objs.size) c0 := by
    refine PpSet.compLoopS_any (fun k s' => ∃ i G', L2.Inv (X.blk b GB scope ce fp) [] (wipe σ (own.map (·.2))) G' s' ∧ tn i s'.heap ∧ (∀ c ∈ fp, G' c = none) ∧ Stage i k G') (fun k s5 now => ?_) k0 ⟨0, GB, invC, stC, free0, first⟩
    obtain ⟨i, G5, inv5, st5, no5, stage⟩ := now
    rcases turn i k G5 stage with ⟨stop, fin⟩ | ⟨more, After, less, step⟩
    · refine thnF (T.done (X.blk b GB scope ce fp) rfl rfl rfl calm i [] s5 _ G5 (fun _ _ => False) inv5 (inside inv5 no5) st5 stop) fun r s6 ⟨hr, inv6⟩ => ?_
      subst hr
      have out := invB.call' (ch := fp) inv6.os inv6.base inv6.hok inv6.bare fun c hc => ⟨(frB c hc).1.2.2.2.1, (frB c hc).1.2.1, (frB c hc).1.2.2.2.2.1, (frB c hc).1.2.2.2.2.2⟩
      have nC : G5 b.heap.objs.size = none := by
        have z : G5 ce.locals = none := inv6.free
        rwa [place] at z
      obtain ⟨names, hm, _⟩ := inv6.loc
      have hm : s6.heap.Ns ce.locals names := hm
      rw [place] at hm
      obtain ⟨f0, f1, _, f3, f4, f5⟩ := invB.fpOk (Nat.le_refl _) nC
      exact ⟨names, hm, fun h2 sb => ⟨.ref D, G5, out.turned (t' := s6.toks) (fun c o hc e => (sb.2 c hc).trans e) f0 f1 f3 f4 f5, rfl, fin⟩⟩
    · refine thnF (T.item (X.blk b GB scope ce fp) rfl rfl rfl calm i [] s5 _ G5 (fun _ _ => False) inv5 (inside inv5 no5) st5 more) fun r s6 ⟨u, hr, h6⟩ => ?_
      subst hr
      refine thnF h6 fun _ s7 ⟨x, G7, inv7, rx, y7, st7, no7⟩ => ?_
      refine thnF (aim.run _ s7 _ G7 x u _ (inv7.pinned (inside inv7 no7) (T.obj _ _ st7)) rx (step x G7 y7)) fun _ s8 ⟨τ, G8, inv8, same8, q8⟩ => ?_
      show wpAny _ _ (pure true) _ _ s8
      refine wpAny_pure ?_
      simp only [if_true]
      refine thnF (made2.run _ s8 τ G8 _ inv8 q8) fun z s9 ⟨yv, G9, inv9, rz, c, S, n, ey, hD9, room, aft⟩ => ?_
      subst ey
      refine thnF (L2.mt_sadd (X := X.blk b GB scope ce fp) _ s9 τ G9 (.ref D) [.int c] (.ref D) [z] (fun _ G10 => After G10) inv9 rfl (.cons rz .nil) ⟨D, c, S, n, rfl, rfl, hD9, room, aft⟩) fun _ s10 ⟨_, G10, inv10, _, aft10⟩ => ?_
      obtain ⟨j, lt, stage2⟩ := less G10 aft10
      have pin : ∀ c ∈ fp, ∀ o, s7.heap.get? c = some o → s10.heap.get? c = some o ∧ G10 c = none := fun c hc o e =>
        let held := inv10.pin (c, o) (List.mem_append_right _ (List.mem_append_right _ (mem_pinsAt hc e)))
        ⟨held.1, held.2.1⟩
      refine ⟨j, lt, i + 1, G10, (inv10.unpinned (pins := [])).weak (by rw [← same8, wipe_length]) (fun q v e => ?_), T.keep _ _ _ st7 fun c hc o e => (pin c hc o e).1, fun c hc => ?_, stage2⟩
      · rw [← same8] at e
        exact (wipe_some e).1
      · obtain ⟨o, e, _⟩ := T.obj _ _ st7 c hc
        exact (pin c hc o e).2
  exact PpSet.codeAny_compStart_set whole (T.self X.A 0 _ _ _ stC whole)
end
end Gk
namespace Pf
open PySem PySem.Spec PyProof.Rows L2 Gk
theorem ps_dead {X : Cx} {st : Stmt} : PS X st (fun _ _ _ => False) := ⟨fun _ _ _ _ _ _ h => h.elim⟩
theorem bool_is : bootBuiltins "bool" = some (.type "bool") := by decide +kernel
theorem isi_is : PySem.bootBuiltins "isinstance" = some (.builtin "isinstance") := by decide +kernel
theorem pe_isi {X : Cx} {e : Expr} {te : TE} {T : Str} {n : String} {p p2 pos : Pos} (hg : Gl X "isinstance") (hm : X.mg "isinstance" = none) (he : PE X e te) (hT : Gl X T) (mT : X.mg T = none) (bT : bootBuiltins T = some (.type n)) (nT : T ≠ "__name__" := by decide) (dT : (T == ("__debug__" : Str)) = false := by decide)
    (h1 : starEach [e, .Name T p2] X.env = (false, eval e X.env) :: starEach [.Name T p2] X.env := by rfl) (h2 : starEach [.Name T p2] X.env = (false, eval (.Name T p2) X.env) :: starEach [] X.env := by rfl) (hpl : (backTo pos (starEach [.Name T p2] X.env)).any (·.1) = false := by rfl) :
    PE X (.Call (.Name "isinstance" p) [e, .Name T p2] [] pos) (tCB (rIsi X.K) (tCons te (tCons (tC (.ty n)) tNil))) :=
  pe_callB call_isi hg hm isi_is (pa_cons he (pa_cons (pe_bltn hT mT bT rfl nT dT) pa_nil h2) h1) (he := h1) (hpl := hpl)
/-- a set that a comprehension makes -/
theorem si_walk {w : World} {J : It} {n : Nat} {Gd : Hp → Prop} {Y : Nat → Hp → V → Hp → Prop} {g : TG} {te : TE} {vs : List Nat} {σ : L2.St} {H1 : Hp} {D : Addr} {Qd : Hp → Prop} (wk : Walk J n Gd Y) (Pv : Nat → Hp → Prop) (h0 : Pv 0 (upd H1 D (SetO w D (fun _ => false) 0))) (hg : ∀ i H, Pv i H → Gd H)
    (hs : ∀ i x H H', i < n → Pv i H → Y i H x H' → g x (wipe σ vs) H' fun τ G3 => wipe τ vs = wipe σ vs ∧ te τ G3 fun y G4 => ∃ (c : Int) (S : Int → Bool) (m : Nat), y = .int c ∧ G4 D = some (SetO w D S m) ∧ m + 1 < scanBound ∧ Pv (i + 1) (upd G4 D (SetO w D (fun j => S j || decide (j = c)) (if S c = true then m else m + 1))))
    (hd : ∀ H, Pv n H → Qd H) : ∃ Stage : Nat → Nat → Hp → Prop, (∃ k, Stage 0 k (upd H1 D (SetO w D (fun _ => false) 0))) ∧ ∀ i k G', Stage i k G' → (J.stop i G' ∧ Qd G') ∨
    (J.go i G' ∧ ∃ After : Hp → Prop, (∀ G2, After G2 → ∃ j, j < k ∧ Stage (i + 1) j G2) ∧ ∀ x G2, J.yld i G' x G2 → g x (wipe σ vs) G2 fun τ G3 => wipe τ vs = wipe σ vs ∧
      te τ G3 fun y G4 => ∃ (c : Int) (S : Int → Bool) (m : Nat), y = .int c ∧ G4 D = some (SetO w D S m) ∧ m + 1 < scanBound ∧ After (upd G4 D (SetO w D (fun j => S j || decide (j = c)) (if S c = true then m else m + 1)))) := by
  refine ⟨fun i k G => k = n - i ∧ i ≤ n ∧ Pv i G, ⟨n, by simp, Nat.zero_le _, h0⟩, ?_⟩
  rintro i k G ⟨rfl, hi, p⟩
  by_cases lt : i < n
  · exact .inr ⟨wk.goes i G lt (hg i G p), Pv (i + 1), fun G2 p2 => ⟨n - (i + 1), by omega, rfl, lt, p2⟩, fun x G2 y => hs i x G G2 lt p (wk.yields i G x G2 lt (hg i G p) y)⟩
  · have e : i = n := by omega
    subst e
    exact .inl ⟨wk.stops G (hg i G p), hd G p⟩
end Pf
namespace Pf
open PySem PySem.Spec PyProof.Rows L2 Gk
abbrev sBrs : Stmt := topS 5
abbrev sOuts : Stmt := topS 6
abbrev sAll : Stmt := topS 7
abbrev nBrs : List Str := ["trace", "branch", "outcome"]
abbrev nOuts : List Str := ["trace", "branch", "outcome", "other"]
abbrev nAll : List Str := ["trace", "outcome", "branch"]
theorem scBrs : FnScope nBrs ["trace"] (defScope sBrs) := ⟨rfl, rfl, rfl, by decide +kernel, rfl, by decide +kernel, by decide +kernel⟩
theorem scOuts : FnScope nOuts ["trace", "branch"] (defScope sOuts) := ⟨rfl, rfl, rfl, by decide +kernel, rfl, by decide +kernel, by decide +kernel⟩
theorem scAll : FnScope nAll ["trace"] (defScope sAll) := ⟨rfl, rfl, rfl, by decide +kernel, rfl, by decide +kernel, by decide +kernel⟩
/-- how many of the branches from 0 to 7 are in the set -/
def eight (S : Int → Bool) : Nat := (S 0).toNat + (S 1).toNat + (S 2).toNat + (S 3).toNat + (S 4).toNat + (S 5).toNat + (S 6).toNat + (S 7).toNat
theorem eight_le (S : Int → Bool) : eight S ≤ 8 := by
  have h : ∀ b : Bool, b.toNat ≤ 1 := fun b => by cases b <;> decide
  unfold eight
  have := h (S 0); have := h (S 1); have := h (S 2); have := h (S 3); have := h (S 4); have := h (S 5); have := h (S 6); have := h (S 7)
  omega
theorem eight_add {S : Int → Bool} {c : Int} (h0 : 0 ≤ c) (h1 : c ≤ 7) : eight (fun j => S j || decide (j = c)) = if S c = true then eight S else eight S + 1 := by
  have : c = 0 ∨ c = 1 ∨ c = 2 ∨ c = 3 ∨ c = 4 ∨ c = 5 ∨ c = 6 ∨ c = 7 := by omega
  rcases this with rfl | rfl | rfl | rfl | rfl | rfl | rfl | rfl
  · cases e : S 0 <;> simp [eight, e]; omega
  · cases e : S 1 <;> simp [eight, e]; omega
  · cases e : S 2 <;> simp [eight, e]; omega
  · cases e : S 3 <;> simp [eight, e]; omega
  · cases e : S 4 <;> simp [eight, e]; omega
  · cases e : S 5 <;> simp [eight, e]; omega
  · cases e : S 6 <;> simp [eight, e]; omega
  · cases e : S 7 <;> simp [eight, e]
/-- the outcomes of a branch -/
def outs (b : Int) (l : List (Int × Int)) : List Int := (l.filter fun x => decide (x.1 = b)).map (·.2)
theorem outs_take {b : Int} {l : List (Int × Int)} {i : Nat} {x : Int × Int} (h : l[i]? = some x) : outs b (l.take (i + 1)) = outs b (l.take i) ++ (if x.1 = b then [x.2] else []) := by
  unfold outs
  rw [List.take_add_one, h, List.filter_append, List.map_append]
  congr 1
  by_cases e : x.1 = b
  · simp [e]
  · simp [e]
theorem outs_len (b : Int) (l : List (Int × Int)) : (outs b l).length ≤ l.length := by
  unfold outs
  rw [List.length_map]
  exact List.length_filter_le _ _
theorem outs_bits {b : Int} {l : List (Int × Int)} (h : Fair l) : Bits (outs b l) := fun o ho => by
  unfold outs at ho
  obtain ⟨x, hx, rfl⟩ := List.mem_map.mp ho
  exact (h x (List.mem_filter.mp hx).1).2
theorem pd_at {K : PySem.W.Frag} {H : Hp} {xs : List V} {l : List (Int × Int)} (hA : DpAll K H xs (l.map pd)) {i : Nat} {v : V} (hv : xs[i]? = some v) : ∃ x a, l[i]? = some x ∧ v = .ref a ∧ SqT K H a [.int x.1, .int x.2] := by
  have hi : i < l.length := by
    have := (List.getElem?_eq_some_iff.mp hv).1
    rwa [lc_len hA] at this
  have g : (l.map pd)[i]? = some (pd l[i]) := by rw [List.getElem?_map, List.getElem?_eq_getElem hi]; rfl
  obtain ⟨a, rfl, s⟩ := pair_at (DpAll.at hA hv g)
  exact ⟨l[i], a, List.getElem?_eq_getElem hi, rfl, s⟩
theorem PairsAt.out {K : PySem.W.Frag} {H : Hp} {t : Addr} {l : List (Int × Int)} (h : PairsAt K H t l) : ∃ xs, SqT K H t xs ∧ DpAll K H xs (l.map pd) ∧ xs.length = l.length := by
  obtain ⟨xs, a, b, c⟩ := ItsAt.out h
  exact ⟨xs, a, b, by rw [c, List.length_map]⟩
section
variable {P : Program} {w : World} {K : PySem.W.Frag} {mg : Str → Option Value} {base : Heap}
def spBrs (K : PySem.W.Frag) : Sp := fun vs H Q _ => ∃ (t : Addr) (l : List (Int × Int)), vs = [.ref t] ∧ PairsAt K H t l ∧ Fair l ∧
  ∀ H' p (bs : List Int), Same H H' → SqT K H' p (bs.map V.int) → bs.Pairwise (· < ·) → (∀ k, k ∈ bs ↔ ∃ x ∈ l, x.1 = k) → Q (.ref p) H'
theorem ok_brs {f : Addr} {fd : FuncData} {k : Nat} (mt : mg "tuple" = none) (ms : mg "sorted" = none) (F : L2.Fun K "branches" "branches" sBrs f fd) : FnOk P w K mg base L2.CX0 (k + 1) f fd ["trace"] (spBrs K) := by
  refine F.ok scBrs (fun vs H Q E h => ?_) (fun cdv A outer s H vs Q E hr h => ?_)
  · obtain ⟨t, l, rfl, _⟩ := h
    rfl
  · obtain ⟨t, l, rfl, hl, fair, q⟩ := h
    obtain ⟨xs, sq, hA, len⟩ := PairsAt.out hl
    refine ⟨_, pss_one (ps_ret (pe_callTy call_tuple_of (by rfl) mt (by decide +kernel) (pa_cons (pe_callB (cr_sortedSet (by rfl)) (by rfl) ms (by decide +kernel) (pa_cons (pe_si (own := [("branch", 1), ("outcome", 2)]) (g := gTup K 2 (gCons (gName 1) (gCons (gName 2) gNil))) (by rfl) scBrs.nd (pi_tup (pv 0))
        (blkOk_by (N := nBrs) (sc := defScope sBrs) (by decide +kernel)) (fun _ _ _ _ _ => pg_tup rfl (pgs_cons (pg_name (i := 1) scBrs.nd rfl (.inl rfl)) (pgs_cons (pg_name (i := 2) scBrs.nd rfl (.inl rfl)) pgs_nil))) (fun _ _ _ _ _ => pv 1)) pa_nil)) pa_nil))), ?_⟩
    refine ⟨.ref t, rfl, t, rfl, ⟨_, sq⟩, fun D nD => si_walk (walk_tup (K := K) (a := t) (xs := xs)) (fun i H' => Same H H' ∧ ∃ S, H' D = some (SetO w D S (eight S)) ∧ ∀ k, S k = true ↔ ∃ x ∈ l.take i, x.1 = k) ⟨same_new nD, _, upd_same, fun k => by simp⟩
      (fun i H' hp => Same.seqT hp.1 sq) (fun i x G G' hi hp hy => ?_) (fun G hp => ?_)⟩
    · obtain ⟨sm, S, hD, hS⟩ := hp
      obtain ⟨rfl, hx⟩ := hy
      obtain ⟨y, a, hy, rfl, sa⟩ := pd_at hA hx
      have fy := fair y (List.mem_of_getElem? hy)
      have e8 := eight_le S
      refine ⟨a, _, rfl, Same.seqT sm sa, rfl, _, _, rfl, _, _, rfl, rfl, rfl, .int y.1, rfl, y.1, S, eight S, rfl, hD, Nat.lt_of_le_of_lt (show eight S + 1 ≤ 9 by omega) (by decide), ?_, (fun j => S j || decide (j = y.1)), ?_, fun k => ?_⟩
      · intro c o h
        rw [upd_ne (ne_of_none h nD)]
        exact sm c o h
      · rw [upd_same, ← eight_add fy.1.1 fy.1.2]
        rfl
      · rw [List.take_add_one, hy]
        simp only [Bool.or_eq_true, decide_eq_true_eq, hS k, Option.toList_some, List.mem_append, List.mem_singleton]
        constructor
        · rintro (⟨x, hx, e⟩ | e)
          · exact ⟨x, .inl hx, e⟩
          · exact ⟨y, .inr rfl, e.symm⟩
        · rintro ⟨x, hx | rfl, e⟩
          · exact .inl ⟨x, hx, e⟩
          · exact .inr e.symm
    · obtain ⟨sm, S, hD, hS⟩ := hp
      rw [len, List.take_length] at hS
      refine ⟨D, S, eight S, rfl, hD, Nat.lt_of_le_of_lt (eight_le S) (by decide), fun ns p pw mem _ np => ⟨p, _, rfl, .inl ⟨.inl (.inl upd_same), fun p2 np2 => ?_⟩⟩⟩
      exact q _ p2 ns ((sm.trans (same_new np)).trans (same_new np2)) (.inl (.inl upd_same)) pw fun k => (mem k).trans (hS k)
def spAll (K : PySem.W.Frag) : Sp := fun vs H Q _ => ∃ (t : Addr) (l : List (Int × Int)), vs = [.ref t] ∧ PairsAt K H t l ∧ l.length ≤ 64 ∧ ∀ H' p, Same H H' → SqT K H' p ((l.map (·.2)).map V.int) → Q (.ref p) H'
theorem ok_all {f : Addr} {fd : FuncData} {k : Nat} (mt : mg "tuple" = none) (F : L2.Fun K "all_outcomes" "all_outcomes" sAll f fd) : FnOk P w K mg base L2.CX0 (k + 1) f fd ["trace"] (spAll K) := by
  refine F.ok scAll (fun vs H Q E h => ?_) (fun cdv A outer s H vs Q E hr h => ?_)
  · obtain ⟨t, l, rfl, _⟩ := h
    rfl
  · obtain ⟨t, l, rfl, hl, l64, q⟩ := h
    obtain ⟨xs, sq, hA, len⟩ := PairsAt.out hl
    refine ⟨_, pss_one (ps_ret (pe_callTy call_tuple_of (by rfl) mt (by decide +kernel) (pa_cons (pe_lc (own := [("branch", 2), ("outcome", 1)]) (g := gTup K 2 (gCons (gName 2) (gCons (gName 1) gNil))) (by rfl) scAll.nd (pi_tup (pv 0))
        (blkOk_by (N := nAll) (sc := defScope sAll) (by decide +kernel)) (fun _ _ _ _ _ => pg_tup rfl (pgs_cons (pg_name (i := 2) scAll.nd rfl (.inl rfl)) (pgs_cons (pg_name (i := 1) scAll.nd rfl (.inl rfl)) pgs_nil)))
        (fun _ _ _ _ _ => pts_nil) (fun _ _ _ _ _ => pv 1)) pa_nil))), ?_⟩
    refine ⟨.ref t, rfl, t, rfl, ⟨_, sq⟩, fun D nD => lc_tup (K := K) (a := t) (xs := xs) (fun i H' => Same H H' ∧ H' D = some (.lst (((l.take i).map (·.2)).map V.int))) ⟨same_new nD, upd_same⟩ (fun i H' _ hp => Same.seqT hp.1 sq) (fun i x H4 hx hp => ?_) (fun H4 hp => ?_)⟩
    · obtain ⟨sm, hD⟩ := hp
      obtain ⟨y, a, hy, rfl, sa⟩ := pd_at hA hx
      refine ⟨a, _, rfl, Same.seqT sm sa, rfl, _, _, rfl, _, _, rfl, rfl, rfl, .int y.2, rfl, _, hD, ?_, ?_, ?_⟩
      · rw [List.length_map, List.length_map, List.length_take]
        exact small1000 (by omega)
      · intro c o h
        rw [upd_ne (ne_of_none h nD)]
        exact sm c o h
      · rw [upd_same, List.take_add_one, hy, List.map_append, List.map_append]
        rfl
    · obtain ⟨sm, hD⟩ := hp
      rw [len, List.take_length] at hD
      exact ⟨D, _, rfl, .inl ⟨.inl (.inl hD), fun p2 np2 => q _ p2 (sm.trans (same_new np2)) (.inl (.inl upd_same))⟩⟩
end
end Pf
namespace Gk
open PySem PySem.Spec PyProof.Rows L2 HT
/-! ### a tuple from behind -/
section
variable {prog : Program} {w : World} {A : Around} {E : Value → Shared → Prop} {s : Shared}
theorem adjust_rev (n : Nat) : Builtin.Slice.sliceAdjust none none (-1) (n : Int) = ((n : Int) - 1, -1) := by
  have h1 : ((-1 : Int) < 0) := by decide
  unfold Builtin.Slice.sliceAdjust
  simp only [h1, if_true]
theorem places_rev (n : Nat) : Builtin.Slice.slicePlaces ((n : Int) - 1) (-1) (-1) = n := by
  unfold Builtin.Slice.slicePlaces
  have h1 : ¬ ((-1 : Int) > 0) := by decide
  have h2 : (-(-1) : Int) = 1 := by decide
  simp only [h1, if_false, h2, Int.ediv_one]
  split <;> omega
theorem applied_rev {sl : Addr} {vs : Value} {n : Nat} {Q : Int × Int × Nat → Shared → Prop} (hs : s.heap.IsSliceOf sl .none .none vs) (ps : IsPart vs (some (-1)))
    (h : Q ((n : Int) - 1, -1, n) s) : wpAny (model prog w) A (Builtin.Slice.sliceApplied (.ref sl) (pure (n : Int))) Q E s := by
  obtain ⟨os, hos, hcs, hds⟩ := id hs
  unfold Builtin.Slice.sliceApplied Builtin.Slice.sliceFields
  refine wpAny_bind (wpAny_bind (wpAny_field hos hds (x := .none) rfl (wpAny_bind (wpAny_field hos hds (x := .none) rfl (wpAny_bind (wpAny_field hos hds (x := vs) rfl (wpAny_pure ?_)))))))
  refine wpAny_bind (slicePart_ ps ?_)
  show wpAny _ _ (if ((-1 : Int) == 0) = true then _ else _) _ _ s
  rw [if_neg (by decide)]
  refine wpAny_bind (slicePart_none (wpAny_bind (slicePart_none (wpAny_bind (wpAny_pure ?_)))))
  show wpAny _ _ (match Builtin.Slice.sliceAdjust none none (-1) (n : Int) with | (lo, hi) => pure (lo, (-1 : Int), Builtin.Slice.slicePlaces lo hi (-1))) _ _ s
  rw [adjust_rev n]
  show wpAny _ _ (pure ((n : Int) - 1, (-1 : Int), Builtin.Slice.slicePlaces ((n : Int) - 1) (-1) (-1))) _ _ s
  rw [places_rev]
  exact wpAny_pure h
theorem fm_congr {α β : Type} {f g : α → Option β} : ∀ l : List α, (∀ m ∈ l, f m = g m) → l.filterMap f = l.filterMap g
  | [], _ => rfl
  | a :: l, h => by
    rw [List.filterMap_cons, List.filterMap_cons, h a List.mem_cons_self, fm_congr l fun m hm => h m (List.mem_cons_of_mem _ hm)]
theorem pick_rev (xs : Array Value) : ((List.range xs.size).filterMap fun (m : Nat) => xs[(((xs.size : Int) - 1) + (m : Int) * (-1)).toNat]?).toArray = xs.toList.reverse.toArray := by
  have e : ((List.range xs.size).filterMap fun (m : Nat) => xs[(((xs.size : Int) - 1) + (m : Int) * (-1)).toNat]?) = ((List.range xs.size).map fun k => xs.size - 1 - k).filterMap (xs[·]?) := by
    rw [List.filterMap_map]
    refine fm_congr _ fun m hm => ?_
    have hm := List.mem_range.mp hm
    show xs[(((xs.size : Int) - 1) + (m : Int) * (-1)).toNat]? = xs[xs.size - 1 - m]?
    have : (((xs.size : Int) - 1) + (m : Int) * (-1)).toNat = xs.size - 1 - m := by omega
    rw [this]
  rw [e, PySem.W.krv_range, List.filterMap_reverse, PySem.W.krv_all]
theorem getItem_tuple_rev {t sl : Addr} {items : Array Value} {vs : Value} {Q : Value → Shared → Prop} (ht : IsTup s.heap t items) (hs : s.heap.IsSliceOf sl .none .none vs) (ps : IsPart vs (some (-1)))
    (h : Q (.ref s.heap.objs.size) { s with heap := s.heap.push { cls := .type "tuple", data := .seq items.toList.reverse.toArray } })
    (hsz : items.size ≤ sizeLine) : wpAny (model prog w) A (getItem (.ref t) (.ref sl)) Q E s := by
  have htake : sizeOk (.seq items.toList.reverse.toArray) := by
    show items.toList.reverse.toArray.size ≤ sizeLine
    rw [List.size_toArray, List.length_reverse, Array.length_toList]
    exact hsz
  obtain ⟨os, hos, hcs, hds⟩ := id hs
  have hTs : s.TypeIs (.ref sl) "slice" := ⟨os, hos, hcs⟩
  unfold getItem
  try with_reducible refine wpAny_holding ?_
  first | refine wpAny_bind (wpAny_pure ?_) | skip
  refine wpAny_bind (wpAny_sequenceKey ht.typeIs (by decide) ?_)
  refine wpAny_bind (wpAny_callSpecial?_slot (name := Str.ofString "__getitem__") ht.typeIs PyProof.Rows.slot_tuple_getitem
    (wpAny_call_entry PyProof.Rows.slot_tuple_getitem ht.typeIs entry_tuple_getitem ?_ (args_tuple_getitem _ _)))
  show wpAny _ _ (Builtin.Tuple.tupleItemsOf (.ref t) >>= _) _ _ s
  refine wpAny_bind (tupleItemsOf_ ht ?_)
  refine wpAny_bind (wpAny_typeOf hTs ?_)
  rw [if_pos (by decide)]
  refine wpAny_bind (applied_rev hs ps ?_)
  have hno : ¬ (((((items.size : Int) - 1) : Int) == 0 && (-1 : Int) == 1 && items.size == items.size) = true) := by simp
  show wpAny _ _ (if ((((items.size : Int) - 1) : Int) == 0 && (-1 : Int) == 1 && items.size == items.size) = true then _ else _) _ _ s
  rw [if_neg hno, pick_rev]
  first
    | exact wpAny_bind (m := Builtin.Tuple.tupleExact _) (wpAny_newObj_type (wpAny_pure ⟨_, rfl, wpAny_pure h⟩) htake)
    | exact wpAny_bind (m := Builtin.Tuple.tupleExact _) (wpAny_newObj_type (wpAny_bind (wpAny_pure (wpAny_pure ⟨_, rfl, wpAny_pure h⟩))) htake)
    | exact wpAny_bind (wpAny_bind (m := Builtin.Tuple.tupleExact _) (wpAny_newObj_type (wpAny_pure (wpAny_pure ⟨_, rfl, wpAny_pure h⟩)) htake))
    | exact wpAny_bind (wpAny_bind (m := Builtin.Tuple.tupleExact _) (wpAny_newObj_type (wpAny_pure ⟨_, rfl, wpAny_pure h⟩) htake))
end
def tRevU (K : PySem.W.Frag) (te : TE) : TE := fun σ H Q => te σ H fun x H1 => ∃ a xs, x = .ref a ∧ SqT K H1 a xs ∧ ∀ p, H1 p = none → Q (.ref p) (upd H1 p (.tup xs.reverse))
theorem pe_revU {X : Cx} {e : Expr} {te : TE} {k : Nat} {p1 p2 p3 pos : Pos} (he : PE X e te) : PE X (.Subscript e (.Slice none none (some (.UnaryOp .USub (.Constant (.int 1) k p1) p2)) p3) pos) (tRevU X.K te) := by
  refine ⟨fun pins s σ H Q I h => ?_⟩
  refine Subscript_ (thn (he.run pins s σ H _ I h) fun v s1 ⟨x, H1, I1, r1, q1⟩ => ?_)
  obtain ⟨a, xs, ex, hx, q⟩ := q1
  subst ex
  cases r1
  have hst : PO X (some (.UnaryOp .USub (.Constant (.int 1) k p1) p2)) (tPart (tUn (rU fun i => .int (-i)) (tC (.int 1)))) := po_some (pe_un un_neg pe_int)
  refine wpAny_Slice (thn (po_none.run pins s1 σ H1 (fun o H2 => o = none ∧ H2 = H1) I1 ⟨rfl, rfl⟩) fun vl s2 ⟨l, H2, I2, pl, el, e2⟩ => ?_)
  subst el e2
  refine thn (po_none.run pins s2 σ H2 (fun o H3 => o = none ∧ H3 = H2) I2 ⟨rfl, rfl⟩) fun vu s3 ⟨u, H3, I3, pu, eu, e3⟩ => ?_
  subst eu e3
  refine thn (hst.run pins s3 σ H3 (fun o H4 => o = some (-1) ∧ H4 = H3) I3 ⟨1, rfl, -1, rfl, rfl, rfl⟩) fun vs s4 ⟨o, H4, I4, ps, eo, e4⟩ => ?_
  subst eo e4
  cases pl
  cases pu
  have I5 : Inv X pins σ H4 { s4 with heap := s4.heap.push { cls := .type "slice", data := .fields #[.none, .none, vs] } } := I4.kept (t' := s4.toks) fun b ob q => Heap.get?_push_of_some _ q
  obtain ⟨its, r, ht, hz⟩ := I5.tuple hx
  have hlen := r.length
  refine tail_any (ops := [.ref a, .ref s4.heap.objs.size]) ht.typeIs (PyProof.Rows.slot_tuple_getitem.lookup) ?_ (by with_unfolding_all rfl)
  refine getItem_tuple_rev ht (Heap.IsSliceOf.new _ .none .none vs) ps ?_ (by rw [List.size_toArray]; omega)
  refine ⟨.ref _, _, I5.laid (t' := s4.toks) (o := .tup xs.reverse) (fun b ob q => Heap.get?_push_of_some _ q) (Nat.le_refl _) ?_, rfl, q _ (I5.hok.fresh (Nat.le_refl _))⟩
  exact ⟨by rw [List.length_reverse]; exact hz, _, r.reverse, IsTup.new _ _⟩
/-! ### whether a tuple is not () -/
def rNe0 (K : PySem.W.Frag) : R2 := fun x y H Q => ∃ a b xs, x = .ref a ∧ y = .ref b ∧ SqT K H a xs ∧ SqT K H b [] ∧ Q (.bl (!decide (xs = []))) H
theorem op_ne0 {X : Cx} (hu : X.A.units < cLine) : OpR X (compareOp .NotEq) (rNe0 X.K) := by
  intro pins s σ H x y v u Q I rx ry h
  obtain ⟨a, b, xs, rfl, rfl, ha, hb, q⟩ := h
  cases rx
  cases ry
  obtain ⟨its, r1, p1, _⟩ := I.tuple ha
  obtain ⟨its2, r2, p2, _⟩ := I.tuple hb
  cases r2
  have t1 : s.heap.IsTuple a its.toArray := by
    obtain ⟨o, ho, hc, n, hd⟩ := p1
    exact ⟨o, ho, hc, n, hd⟩
  have t2 : s.heap.IsTuple b ([] : List Value).toArray := by
    obtain ⟨o, ho, hc, n, hd⟩ := p2
    exact ⟨o, ho, hc, n, hd⟩
  refine SeqAt.RcNeAt.tuples (e := fun _ => true) t1 t2 hu (fun j h1 h2 => absurd h2 (Nat.not_lt_zero _)) X.prog X.w X.xe (EP X pins σ Q) ⟨.bl _, H, I, ?_, q⟩
  have hl := r1.length
  show Value.bool _ = Value.bool _
  congr 1
  cases xs with
  | nil =>
    cases r1
    rfl
  | cons x xs =>
    cases r1
    simp
end Gk
namespace Gk
open PySem PySem.Spec PyProof.Rows L2
/-! ### a list from a tuple, its place told apart from the table of modules -/
def rLstN (K : PySem.W.Frag) : List V → Hp → VK → Prop := fun xs H Q => ∃ p ys, xs = [.ref p] ∧ SqT K H p ys ∧ ∀ l, H l = none → (l == sysModules) = false → Q (.ref l) (upd H l (.lst ys))
theorem call_listN {X : Cx} : CallR X (.type "list") (rLstN X.K) := by
  intro pins s σ H xs us Q I r h
  obtain ⟨p, ys, rfl, hq, q⟩ := h
  obtain ⟨u, rfl, rx⟩ := vals1 r
  cases rx
  obtain ⟨its, r', pl, hz⟩ := I.tuple hq
  have hlen := r'.length
  obtain ⟨o, ho, hc, n, hd⟩ := pl
  refine call_list_seq p (.inr rfl) ho hc hd (fun h' c' kp e => ?_) (by simp only [List.size_toArray] <;> omega)
  exact ⟨.ref s.heap.objs.size, _, I.laid (t' := s.toks) kp (Nat.le_refl _) (show ObjOk X.prog X.w _ h' _ (.lst ys) from ⟨hz, its, c', r', e⟩), rfl, q _ (I.hok.fresh (Nat.le_refl _)) (not_modules I)⟩
/-! ### readings, taken apart -/
theorem go_op {r : R2} {ta tb : TE} {σ : L2.St} {H : Hp} {Q : VK} (h : ta σ H fun x H1 => tb σ H1 fun y H2 => r x y H2 Q) : tOp r ta tb σ H Q := h
theorem go_ret {te : TE} {D : Ends} {σ : L2.St} {H : Hp} (h : te σ H D.rt) : tRet te D σ H := h
theorem go_asg {te : TE} {g : TG} {u : TS} {D : Ends} {σ : L2.St} {H : Hp} (h : te σ H fun v H' => g v σ H' (u D)) : tSeq (tAsg te g) u D σ H := h
theorem go_as {te : TE} {g : TG} {D : Ends} {σ : L2.St} {H : Hp} (h : te σ H fun v H' => g v σ H' D.nx) : tAsg te g D σ H := h
theorem go_name {i : Nat} {v : V} {σ : L2.St} {H : Hp} {Q : L2.St → Hp → Prop} (h : Q (σ.set i (some v)) H) : gName i v σ H Q := h
section
variable {M : Addr → Prop} {K : PySem.W.Frag} {σ : L2.St} {H H0 : Hp}
theorem tup_of {v : V} {ds : List PyData} (h : Dv M K H v (.tuple ds)) : ∃ a xs, v = .ref a ∧ SqT K H a xs ∧ (∀ H', Off M H H' → SqT K H' a xs) ∧ DvAll M K H xs ds := by
  cases h with
  | tup h n r => exact ⟨_, _, rfl, .inl h, fun H' k => .inl (k.rd n h), r⟩
  | tupK h r => exact ⟨_, _, rfl, .inr h, fun _ _ => .inr h, r⟩
theorem sq_tup {a : Addr} {xs : List V} (h : H a = some (.tup xs)) : SqT K H a xs := .inl (.inl h)
/-- a tuple that other rules made, as data -/
theorem dv_sq {a : Addr} {xs : List V} {ds : List PyData} (h : SqT K H a xs) (n : ¬ M a) (r : DvAll M K H xs ds) : Dv M K H (.ref a) (.tuple ds) := h.elim (fun h => .tup h n r) fun h => .tupK h r
/-- two tuples joined -/
theorem cat_go {x y : V} {ds es : List PyData} {Q : VK} (hx : Dv M K H x (.tuple ds)) (hy : Dv M K H y (.tuple es)) (l : ds.length + es.length ≤ 1000000) (z : Stands M H)
    (q : ∀ v H', Same H H' → Dv M K H' v (.tuple (ds ++ es)) → Q v H') : rCatA K x y H Q := by
  obtain ⟨a, xs, rfl, ha, na, da⟩ := tup_of hx
  obtain ⟨b, ys, rfl, hb, nb, db⟩ := tup_of hy
  have l1 := da.len
  have l2 := db.len
  refine ⟨a, b, xs, ys, rfl, rfl, ha, hb, by rw [sizeLine_eq]; omega, fun e => ?_, fun _ e => ?_, fun _ _ p n => q _ _ (same_new n) (.tup (.inl upd_same) (z.new n) ((da.app db).off (Off.same (same_new n))))⟩
  · subst e
    cases da
    exact q _ _ (Same.refl _) hy
  · subst e
    cases db
    rw [List.append_nil] at q
    exact q _ _ (Same.refl _) hx
theorem mk_cat {t u : TE} {ds es : List PyData} (h : Mk M K t σ H0 (.tuple ds)) (g : Mk M K u σ H0 (.tuple es)) (l : ds.length + es.length ≤ 1000000) : Mk M K (tOp (rCatA K) t u) σ H0 (.tuple (ds ++ es)) := fun H M' Q s u' w z q =>
  h H M' _ s u' w z fun v1 H1 s1 d1 => g H1 M' _ (s.trans s1) u' w (z.same s1) fun v2 H2 s2 d2 => cat_go (d1.off (Off.same s2)) d2 l ((z.same s1).same s2) fun v H' s3 d3 => q _ _ ((s1.trans s2).trans s3) d3
/-- a bound that is read -/
def Pt (tl : TO) (σ : L2.St) (o : Option Int) : Prop := ∀ H Q, Q o H → tl σ H Q
theorem pt_none : Pt tNoPart σ none := fun _ _ q => q
theorem pt_v {i : Nat} {n : Int} (e : σ[i]? = some (some (.int n))) : Pt (tPart (tVar i)) σ (some n) := fun _ _ q => ⟨_, e, n, rfl, q⟩
theorem pt_v1 {i : Nat} {n : Int} (e : σ[i]? = some (some (.int n))) : Pt (tPart (tOp (rI0 fun i j => .int (i + j)) (tVar i) (tC (.int 1)))) σ (some (n + 1)) := fun _ _ q => ⟨_, e, n, 1, rfl, rfl, _, rfl, q⟩
def cutD {α : Type} (xs : List α) (lo hi : Option Int) : List α := (xs.drop (HT.sIx xs.length 0 lo)).take (HT.sIx xs.length xs.length hi - HT.sIx xs.length 0 lo)
theorem cutD_to {α : Type} {xs : List α} (n : Nat) : cutD xs none (some (n : Int)) = xs.take n := by
  unfold cutD
  rw [HT.sIx_none, HT.sIx_nat]
  show ((xs.drop 0).take (min n xs.length - 0)) = _
  rw [List.drop_zero, Nat.sub_zero, Nat.min_comm, List.take_eq_take_iff]
  omega
theorem cutD_from {α : Type} {xs : List α} (n : Nat) : cutD xs (some (n : Int)) none = xs.drop n := by
  unfold cutD
  rw [HT.sIx_none, HT.sIx_nat]
  by_cases h : n ≤ xs.length
  · rw [Nat.min_eq_left h, List.take_of_length_le (by rw [List.length_drop]; exact Nat.le_refl _)]
  · rw [Nat.min_eq_right (by omega), List.drop_eq_nil_of_le (Nat.le_refl _), List.drop_eq_nil_of_le (by omega)]
    exact List.take_nil
theorem mk_cut {t : TE} {tl th : TO} {lo hi : Option Int} {ds : List PyData} (h : Mk M K t σ H0 (.tuple ds)) (pl : Pt tl σ lo) (ph : Pt th σ hi) : Mk M K (tSl (rSlA K) t tl th) σ H0 (.tuple (cutD ds lo hi)) := fun H M' Q s u w z q =>
  h H M' _ s u w z fun v1 H1 s1 d1 => pl _ _ (ph _ _ (by
    obtain ⟨a, xs, rfl, ha, na, da⟩ := tup_of d1
    have l1 := da.len
    refine ⟨a, xs, rfl, ha, fun e => ?_, fun _ p n => q _ _ (s1.trans (same_new n)) (.tup (.inl upd_same) ((z.same s1).new n) ?_)⟩
    · have : cutD ds lo hi = ds := by
        unfold cutD
        rw [← l1, e.1, e.2, List.drop_zero, Nat.sub_zero]
        exact List.take_of_length_le (Nat.le_of_eq l1.symm)
      rw [this] at q
      exact q _ _ s1 d1
    · refine DvAll.off ?_ (Off.same (same_new n))
      unfold cutV cutD
      rw [l1]
      exact (da.drop _).take _))
theorem mk_to {t : TE} {tl th : TO} {n : Nat} {ds : List PyData} (h : Mk M K t σ H0 (.tuple ds)) (pl : Pt tl σ none) (ph : Pt th σ (some (n : Int))) : Mk M K (tSl (rSlA K) t tl th) σ H0 (.tuple (ds.take n)) := by
  have := mk_cut h pl ph
  rwa [cutD_to] at this
theorem mk_from {t : TE} {tl th : TO} {n : Nat} {ds : List PyData} (h : Mk M K t σ H0 (.tuple ds)) (pl : Pt tl σ (some (n : Int))) (ph : Pt th σ none) : Mk M K (tSl (rSlA K) t tl th) σ H0 (.tuple (ds.drop n)) := by
  have := mk_cut h pl ph
  rwa [cutD_from] at this
theorem mk_rev {t : TE} {ds : List PyData} (h : Mk M K t σ H0 (.tuple ds)) : Mk M K (tRevU K t) σ H0 (.tuple ds.reverse) := fun H M' Q s u w z q =>
  h H M' _ s u w z fun v1 H1 s1 d1 => by
    obtain ⟨a, xs, rfl, ha, na, da⟩ := tup_of d1
    exact ⟨a, xs, rfl, ha, fun p n => q _ _ (s1.trans (same_new n)) (.tup (.inl upd_same) ((z.same s1).new n) (da.rev.off (Off.same (same_new n))))⟩
theorem mk_list {t : TE} {ds : List PyData} (h : Mk M K t σ H0 (.tuple ds)) : Mk M K (tCB (rLstN K) (tCons t tNil)) σ H0 (.list ds) := fun H M' Q s u w z q =>
  h H M' _ s u w z fun v1 H1 s1 d1 => by
    obtain ⟨a, xs, rfl, ha, na, da⟩ := tup_of d1
    exact ⟨a, xs, rfl, ha, fun p n y => q _ _ (s1.trans (same_new n)) (.lst upd_same ((z.same s1).new n) y (da.off (Off.same (same_new n))))⟩
/-- a plain value that is read -/
theorem mk_gv {t : TE} {v : V} {d : PyData} (g : ∀ H Q, Q v H → t σ H Q) (h : ∀ M H, Dv M K H v d) : Mk M K t σ H0 d := fun H M' Q s u w z q => g _ _ (q _ _ (Same.refl _) (h M' H))
end
/-! ### sizes -/
theorem int_cps (i : Int) : fin (.str (Str.ofString (toString i))) 0 = true := by
  simp only [fin, Array.all_eq_true', decide_eq_true_eq]
  intro c hc
  refine Nat.lt_of_not_le fun h => int_text_free' c ⟨by omega, .inr (by omega)⟩ i ?_
  exact Array.mem_toList_iff.mpr hc
mutual
theorem fin_mono {B C : Nat} (h : B ≤ C) : ∀ d : PyData, fin d B = true → fin d C = true
  | .none, _ => rfl
  | .bool _, _ => rfl
  | .int i, g => by
    simp only [fin, decide_eq_true_eq] at g ⊢
    omega
  | .str x, g => by simpa only [fin] using g
  | .list xs, g => by
    simp only [fin] at g ⊢
    exact fin_monoAll h xs g
  | .tuple xs, g => by
    simp only [fin] at g ⊢
    exact fin_monoAll h xs g
  | .dict kvs, g => by
    simp only [fin] at g ⊢
    exact fin_monoKv h kvs g
theorem fin_monoAll {B C : Nat} (h : B ≤ C) : ∀ ds : List PyData, finAll ds B = true → finAll ds C = true
  | [], _ => rfl
  | x :: xs, g => by
    simp only [finAll, Bool.and_eq_true] at g ⊢
    exact ⟨fin_mono h x g.1, fin_monoAll h xs g.2⟩
theorem fin_monoKv {B C : Nat} (h : B ≤ C) : ∀ kvs : List (PyData × PyData), finKv kvs B = true → finKv kvs C = true
  | [], _ => rfl
  | (k, v) :: r, g => by
    simp only [finKv, Bool.and_eq_true] at g ⊢
    exact ⟨⟨fin_mono h k g.1.1, fin_mono h v g.1.2⟩, fin_monoKv h r g.2⟩
end
theorem finAll_iff {B : Nat} : ∀ {ds : List PyData}, finAll ds B = true ↔ ∀ d ∈ ds, fin d B = true
  | [] => by simp [finAll]
  | x :: xs => by
    simp only [finAll, Bool.and_eq_true, List.mem_cons, forall_eq_or_imp]
    rw [finAll_iff]
theorem bigAll_app : ∀ ds es : List PyData, bigAll (ds ++ es) + 1 = bigAll ds + bigAll es
  | [], es => by simp only [List.nil_append, bigAll]; omega
  | d :: ds, es => by
    have := bigAll_app ds es
    simp only [List.cons_append, bigAll]
    omega
theorem bigAll_rev : ∀ ds : List PyData, bigAll ds.reverse = bigAll ds
  | [] => rfl
  | d :: ds => by
    have := bigAll_app ds.reverse [d]
    have h := bigAll_rev ds
    rw [List.reverse_cons]
    simp only [bigAll] at this ⊢
    omega
theorem bigAll_len : ∀ ds : List PyData, ds.length + 1 ≤ bigAll ds
  | [] => Nat.le_refl _
  | d :: ds => by
    have := bigAll_len ds
    simp only [List.length_cons, bigAll]
    omega
theorem bigAll_split (ds : List PyData) (n : Nat) : bigAll (ds.take n) + bigAll (ds.drop n) = bigAll ds + 1 := by
  have := bigAll_app (ds.take n) (ds.drop n)
  rw [List.take_append_drop] at this
  omega
theorem depthAll_iff {n : Nat} : ∀ {ds : List PyData}, PyData.depthAll ds ≤ n ↔ ∀ d ∈ ds, d.depth ≤ n
  | [] => by simp [PyData.depthAll]
  | x :: xs => by
    simp only [PyData.depthAll, List.mem_cons, forall_eq_or_imp]
    rw [← depthAll_iff (ds := xs)]
    omega
end Gk
namespace Gk
open PySem PySem.Spec PyProof.Rows L2
/-! ### what is bent stays small -/
theorem depth_tup (ds : List PyData) : (PyData.tuple ds).depth = PyData.depthAll ds + 1 := by simp only [PyData.depth]
theorem depth_lst (ds : List PyData) : (PyData.list ds).depth = PyData.depthAll ds + 1 := by simp only [PyData.depth]
theorem el_ok {ds : List PyData} {d : PyData} {B : Nat} (f : fin (.tuple ds) B = true) (h : d ∈ ds) : fin d B = true ∧ d.depth + 1 ≤ (PyData.tuple ds).depth := by
  simp only [fin] at f
  refine ⟨finAll_iff.mp f d h, ?_⟩
  rw [depth_tup]
  exact Nat.succ_le_succ (depthAll_iff.mp (Nat.le_refl _) d h)
theorem drop_at {α : Type} {ds : List α} {i : Nat} {d : α} (g : ds[i]? = some d) : ds.drop i = d :: ds.drop (i + 1) := by
  obtain ⟨hi, e⟩ := List.getElem?_eq_some_iff.mp g
  rw [List.drop_eq_getElem_cons hi, e]
theorem el_big {ds : List PyData} {i : Nat} {d : PyData} (g : ds[i]? = some d) : bigAll (ds.take i) + big d + bigAll (ds.drop (i + 1)) = bigAll ds := by
  have h := bigAll_split ds i
  rw [drop_at g] at h
  simp only [bigAll] at h
  omega
theorem el_le {ds : List PyData} {i : Nat} {d : PyData} (g : ds[i]? = some d) : big d ≤ big (.tuple ds) := by
  have h := el_big g
  simp only [big]
  omega
/-- one item put for another -/
theorem put_ok {ds : List PyData} {i : Nat} {d e : PyData} {B : Nat} (g : ds[i]? = some d) (f : fin (.tuple ds) B = true) (f1 : fin e (B + 1) = true) (f2 : e.depth ≤ d.depth + 9) (f3 : big e ≤ 2 * big d + 1100) :
    fin (.tuple (ds.take i ++ [e] ++ ds.drop (i + 1))) (B + 1) = true ∧ (PyData.tuple (ds.take i ++ [e] ++ ds.drop (i + 1))).depth ≤ (PyData.tuple ds).depth + 9 ∧ big (.tuple (ds.take i ++ [e] ++ ds.drop (i + 1))) ≤ 2 * big (.tuple ds) + 1100 := by
  have hm := List.mem_of_getElem? g
  have ok := el_ok f hm
  refine ⟨?_, ?_, ?_⟩
  · simp only [fin]
    refine finAll_iff.mpr fun x hx => ?_
    simp only [List.mem_append, List.mem_cons, List.not_mem_nil, or_false] at hx
    rcases hx with (hx | rfl) | hx
    · exact fin_mono (Nat.le_succ B) _ (el_ok f (List.mem_of_mem_take hx)).1
    · exact f1
    · exact fin_mono (Nat.le_succ B) _ (el_ok f (List.mem_of_mem_drop hx)).1
  · rw [depth_tup (ds.take i ++ [e] ++ ds.drop (i + 1))]
    have : PyData.depthAll (ds.take i ++ [e] ++ ds.drop (i + 1)) ≤ (PyData.tuple ds).depth + 8 := depthAll_iff.mpr fun x hx => by
      simp only [List.mem_append, List.mem_cons, List.not_mem_nil, or_false] at hx
      rcases hx with (hx | rfl) | hx
      · have := (el_ok f (List.mem_of_mem_take hx)).2
        omega
      · omega
      · have := (el_ok f (List.mem_of_mem_drop hx)).2
        omega
    omega
  · have h1 := bigAll_app (ds.take i ++ [e]) (ds.drop (i + 1))
    have h2 := bigAll_app (ds.take i) [e]
    have h3 := el_big g
    simp only [bigAll] at h2
    simp only [big]
    omega
/-- items left out, twice, turned round, as a list -/
theorem sub_ok {ds : List PyData} {i : Nat} {e : PyData} {B : Nat} (f : fin (.tuple ds) B = true) (h : e ∈ [PyData.tuple (ds.take i ++ ds.drop (i + 1)), .tuple (ds.take (i + 1) ++ ds.drop i), .tuple ds.reverse, .list ds]) :
    fin e (B + 1) = true ∧ e.depth ≤ (PyData.tuple ds).depth + 9 ∧ big e ≤ 2 * big (.tuple ds) + 1100 := by
  have go : ∀ es : List PyData, (∀ x ∈ es, x ∈ ds) → finAll es (B + 1) = true ∧ PyData.depthAll es ≤ PyData.depthAll ds := fun es s =>
    ⟨finAll_iff.mpr fun x hx => fin_mono (Nat.le_succ B) _ (el_ok f (s x hx)).1, depthAll_iff.mpr fun x hx => depthAll_iff.mp (Nat.le_refl _) x (s x hx)⟩
  have a1 := bigAll_app (ds.take i) (ds.drop (i + 1))
  have a2 := bigAll_app (ds.take (i + 1)) (ds.drop i)
  have b1 := bigAll_split ds i
  have b2 := bigAll_split ds (i + 1)
  have c1 := bigAll_len (ds.take i)
  have c2 := bigAll_len (ds.drop i)
  have c3 := bigAll_len (ds.take (i + 1))
  have c4 := bigAll_len (ds.drop (i + 1))
  have mono : bigAll (ds.drop (i + 1)) ≤ bigAll (ds.drop i) := by
    cases g : ds[i]? with
    | some d =>
      rw [drop_at g]
      simp only [bigAll]
      omega
    | none =>
      have := List.getElem?_eq_none_iff.mp g
      rw [List.drop_eq_nil_of_le this, List.drop_eq_nil_of_le (by omega)]
      exact Nat.le_refl _
  simp only [List.mem_cons, List.not_mem_nil, or_false] at h
  rcases h with rfl | rfl | rfl | rfl
  · obtain ⟨g1, g2⟩ := go (ds.take i ++ ds.drop (i + 1)) fun x hx => (List.mem_append.mp hx).elim List.mem_of_mem_take List.mem_of_mem_drop
    refine ⟨by simpa only [fin] using g1, by rw [depth_tup, depth_tup]; omega, by simp only [big]; omega⟩
  · obtain ⟨g1, g2⟩ := go (ds.take (i + 1) ++ ds.drop i) fun x hx => (List.mem_append.mp hx).elim List.mem_of_mem_take List.mem_of_mem_drop
    refine ⟨by simpa only [fin] using g1, by rw [depth_tup, depth_tup]; omega, by simp only [big]; omega⟩
  · obtain ⟨g1, g2⟩ := go ds.reverse fun x hx => List.mem_reverse.mp hx
    refine ⟨by simpa only [fin] using g1, by rw [depth_tup, depth_tup]; omega, by simp only [big, bigAll_rev]; omega⟩
  · obtain ⟨g1, g2⟩ := go ds fun x hx => hx
    refine ⟨by simpa only [fin] using g1, by rw [depth_tup, depth_lst]; omega, by simp only [big]; omega⟩
/-- what an int is bent to -/
theorem int_ok {i : Int} {e : PyData} {B : Nat} (f : fin (.int i) B = true) (hB : 10 ^ 17 ≤ B) (hC : B ≤ 10 ^ 19)
    (h : e ∈ [PyData.int (i + 1), .int (i - 1), .int (1 - i), .bool (decide (V.int i = V.int 1)), .str (Str.ofString (toString i)), .tuple [.int i], .none, .int 64, .int 65]) :
    fin e (B + 1) = true ∧ e.depth ≤ (PyData.int i).depth + 9 ∧ big e ≤ 2 * big (.int i) + 1100 := by
  have hi : i.natAbs ≤ B := by simpa only [fin, decide_eq_true_eq] using f
  have bi : big (.int i) = 70 := rfl
  have dz : ∀ j : Int, (PyData.int j).depth = 0 := fun j => by simp only [PyData.depth]
  have fi : ∀ j : Int, j.natAbs ≤ B + 1 → fin (.int j) (B + 1) = true := fun j hj => by simpa only [fin, decide_eq_true_eq] using hj
  simp only [List.mem_cons, List.not_mem_nil, or_false] at h
  rcases h with rfl | rfl | rfl | rfl | rfl | rfl | rfl | rfl | rfl
  · exact ⟨fi _ (by omega), by rw [dz]; omega, by simp only [big]; omega⟩
  · exact ⟨fi _ (by omega), by rw [dz]; omega, by simp only [big]; omega⟩
  · exact ⟨fi _ (by omega), by rw [dz]; omega, by simp only [big]; omega⟩
  · exact ⟨rfl, by simp only [PyData.depth]; omega, by simp only [big]; omega⟩
  · refine ⟨fin_mono (Nat.zero_le _) _ (int_cps i), by simp only [PyData.depth]; omega, ?_⟩
    have h1 := int_len20 (c := i) (by omega)
    have h2 : (Str.ofString (toString i)).cps.size ≤ 21 := h1
    simp only [big]
    omega
  · refine ⟨by simp only [fin, finAll, Bool.and_true]; exact fi i (by omega), by rw [depth_tup]; simp only [PyData.depthAll, dz]; omega, by simp only [big, bigAll]; omega⟩
  · exact ⟨rfl, by simp only [PyData.depth]; omega, by simp only [big]; omega⟩
  · exact ⟨fi _ (by omega), by rw [dz]; omega, by simp only [big]; omega⟩
  · exact ⟨fi _ (by omega), by rw [dz]; omega, by simp only [big]; omega⟩
end Gk
namespace Gk
open PySem PySem.Spec PyProof.Rows L2
theorem stands_box {m : Nat} {H : Hp} {b : Addr} (h : Box m H b) : Stands (fun a => a = b) H := by
  rintro a rfl
  obtain ⟨x, y, z, e, _⟩ := h
  exact ⟨_, e⟩
theorem Stands.but {M : Addr → Prop} {H H' : Hp} {b : Addr} {m : Nat} (h : Stands M H) (bt : But b H H') (bx : Box m H' b) : Stands M H' := fun a ma => by
  by_cases e : a = b
  · subst e
    obtain ⟨x, y, z, e, _⟩ := bx
    exact ⟨_, e⟩
  · obtain ⟨o, eo⟩ := h a ma
    exact ⟨o, bt a o e eo⟩
theorem Stands.or {M : Addr → Prop} {H : Hp} {p : Addr} {o : HO} (h : Stands M H) (e : H p = some o) : Stands (fun a => M a ∨ a = p) H := fun a ma => ma.elim (h a) fun z => ⟨o, by rw [z]; exact e⟩
/-- what M speaks of are lists -/
def Lists (M : Addr → Prop) (H : Hp) : Prop := ∀ a, M a → ∃ xs, H a = some (.lst xs)
theorem Lists.not {M : Addr → Prop} {K : PySem.W.Frag} {H : Hp} {a : Addr} {xs : List V} (h : Lists M H) (r : Rd H a (.tup xs)) : ¬ M a := fun m => by
  obtain ⟨ys, e⟩ := h a m
  rcases r with r | ⟨o, r⟩ <;> rw [e] at r <;> cases r
mutual
/-- tuples wherever they stand, as data -/
theorem dv_dp {M : Addr → Prop} {K : PySem.W.Frag} {H : Hp} (l : Lists M H) : ∀ (d : PyData) (v : V), tups d = true → Dp K H v d → Dv M K H v d
  | .none, _, _, h => by cases h; exact .non
  | .bool _, _, _, h => by cases h; exact .bl _
  | .int _, _, _, h => by cases h; exact .int _
  | .str _, _, _, h => by cases h; exact .str _
  | .list _, _, t, _ => by simp [tups] at t
  | .dict _, _, t, _ => by simp [tups] at t
  | .tuple ds, _, t, h => by
    cases h with
    | tup hs r =>
      have r' := dv_dpAll l ds _ (by simpa only [tups] using t) r
      rcases hs with hs | hs
      · exact .tup hs (l.not (K := K) hs) r'
      · exact .tupK hs r'
theorem dv_dpAll {M : Addr → Prop} {K : PySem.W.Frag} {H : Hp} (l : Lists M H) : ∀ (ds : List PyData) (vs : List V), tupsAll ds = true → DpAll K H vs ds → DvAll M K H vs ds
  | [], _, _, h => by cases h; exact .nil
  | d :: ds, _, t, h => by
    simp only [tupsAll, Bool.and_eq_true] at t
    cases h with
    | cons h1 h2 => exact .cons (dv_dp l d _ t.1 h1) (dv_dpAll l ds _ t.2 h2)
end
end Gk
namespace Gk
open PySem PySem.Spec PyProof.Rows L2
/-! ### texts compared with any data -/
section low
open PySem.SeqAt PySem.MeetsSeq PySem.AutoSeq1
variable {A : Around} {s : Shared}
theorem dictEqText (l : Addr) (dd : Option Addr) (data : Data) (sl : Array (Option Value)) (z : Str) (t : Tok) :
    Meets (Builtin.«dict.__eq__» ⟨[.ref l, .str z t], []⟩) (fun _ R s => s.heap.get? l = some { cls := .type "dict", dict := dd, data := data, slots := sl } ∧ R (.ok (.ret .notImplemented)) s) :=
  .of_wp fun prog w A R s h => by
    obtain ⟨hp, g, d, tk, os⟩ := s
    obtain ⟨here, h⟩ := h
    have no := PySem.F.sub_str_dict
    wp_walk using wpAny_load here
    exact ⟨_, rfl, h⟩
theorem textEqDict (l : Addr) (c : Value) (dd : Option Addr) (es : Array DictEntry) (ep : Nat) (sl : Array (Option Value)) (z : Str) (t : Tok) :
    Meets (Builtin.«str.__eq__» ⟨[.str z t, .ref l], []⟩) (fun _ R s => s.heap.get? l = some { cls := c, dict := dd, data := .dict es ep, slots := sl } ∧ R (.ok (.ret .notImplemented)) s) :=
  .of_wp fun prog w A R s h => by
    obtain ⟨hp, g, d, tk, os⟩ := s
    obtain ⟨here, h⟩ := h
    wp_walk using wpAny_loadPart' here, wpAny_load here
    exact ⟨_, rfl, h⟩
theorem rcDictText {l : Addr} {o : Obj} (z : Str) (t : Tok) (here : s.heap.get? l = some o) (c : o.cls = .type "dict" ∧ ∃ es ep, o.data = .dict es ep) (room : A.units < cLine) : RcAt A s (.ref l) (.str z t) false := fun prog w E Q done => by
  obtain ⟨cls, dd, data, sl⟩ := o
  obtain ⟨c, es, ep, e⟩ := c
  have c : cls = .type "dict" := c
  have e : data = .dict es ep := e
  subst c e
  have one : ∀ Q' : Value → Shared → Prop, Q' .notImplemented s → wpAny (model prog w) A (call (.builtin "dict.__eq__") [.ref l, .str z t]) Q' E s := fun Q' hq =>
    call_meets PySem.F.slot_dict_eq ⟨_, here, rfl⟩ PySem.F.entry_dict_eq (PySem.F.args_dict_eq_2 _ _) (dictEqText l dd _ sl z t) ⟨here, hq⟩
  have two : ∀ Q' : Value → Shared → Prop, Q' .notImplemented s → wpAny (model prog w) A (call (.builtin "str.__eq__") [.str z t, .ref l]) Q' E s := fun Q' hq =>
    call_meets PySem.F.slot_str_eq_refl (typeIs_str s z t) PySem.F.entry_str_eq (PySem.F.args_str_eq_2 _ _) (textEqDict l (.type "dict") dd es ep sl z t) ⟨here, hq⟩
  refine rc_eq_decline_or (k := false) ⟨_, here, rfl⟩ (typeIs_str s z t) ?_ PySem.F.sub_str_dict PySem.F.slot_dict_eq PySem.F.slot_str_eq_refl one two ?_ (.inr room) done
  · decide
  · exact fun Q' hq => wpAny_of_eq (rfl : isSame (.ref l) (.str z t) = pure false) hq
theorem rcTextDict {l : Addr} {o : Obj} (z : Str) (t : Tok) (here : s.heap.get? l = some o) (c : o.cls = .type "dict" ∧ ∃ es ep, o.data = .dict es ep) (room : A.units < cLine) : RcAt A s (.str z t) (.ref l) false := fun prog w E Q done => by
  obtain ⟨cls, dd, data, sl⟩ := o
  obtain ⟨c, es, ep, e⟩ := c
  have c : cls = .type "dict" := c
  have e : data = .dict es ep := e
  subst c e
  have one : ∀ Q' : Value → Shared → Prop, Q' .notImplemented s → wpAny (model prog w) A (call (.builtin "str.__eq__") [.str z t, .ref l]) Q' E s := fun Q' hq =>
    call_meets PySem.F.slot_str_eq (typeIs_str s z t) PySem.F.entry_str_eq (PySem.F.args_str_eq_2 _ _) (textEqDict l (.type "dict") dd es ep sl z t) ⟨here, hq⟩
  have two : ∀ Q' : Value → Shared → Prop, Q' .notImplemented s → wpAny (model prog w) A (call (.builtin "dict.__eq__") [.ref l, .str z t]) Q' E s := fun Q' hq =>
    call_meets PySem.F.slot_dict_eq_refl ⟨_, here, rfl⟩ PySem.F.entry_dict_eq (PySem.F.args_dict_eq_2 _ _) (dictEqText l dd _ sl z t) ⟨here, hq⟩
  refine rc_eq_decline_or (k := false) (typeIs_str s z t) ⟨_, here, rfl⟩ ?_ PySem.F.sub_dict_str PySem.F.slot_str_eq PySem.F.slot_dict_eq_refl one two ?_ (.inr room) done
  · decide
  · exact fun Q' hq => wpAny_of_eq (rfl : isSame (.str z t) (.ref l) = pure false) hq
theorem eqTextDict {l : Addr} {o : Obj} (z : Str) (t : Tok) (here : s.heap.get? l = some o) (c : o.cls = .type "dict" ∧ ∃ es ep, o.data = .dict es ep) (room : A.units < cLine) : EqAt A s (.str z t) (.ref l) false := fun prog w E Q done => by
  unfold eqBool
  refine wpAny_holding (wpAny_ite_split (fun same => nomatch eq_of_beq same) (fun _ => wpAny_bind ?_))
  exact rcTextDict z t here c room prog w E _ (wpAny_truthy_bool done)
/-- whether data is just this text -/
def isTxt (z : Str) : PyData → Bool
  | .str t => t == z
  | _ => false
def isTxt' (z : Str) : PyData → Bool
  | .str t => z == t
  | _ => false
theorem isTxt_flip (z : Str) (d : PyData) : isTxt' z d = isTxt z d := by
  cases d <;> try rfl
  exact Bool.eq_iff_iff.mpr ⟨fun h => beq_iff_eq.mpr (beq_iff_eq.mp h).symm, fun h => beq_iff_eq.mpr (beq_iff_eq.mp h).symm⟩
end low
section
variable {X : Cx} {pins : List (Addr × Obj)} {σ : L2.St} {H : Hp} {s : Shared}
open PySem.SeqAt
theorem dct_here {a : Addr} {kvs : List (Key × V)} (I : Inv X pins σ H s) (h : H a = some (.dK kvs)) : ∃ o, s.heap.get? a = some o ∧ o.cls = .type "dict" ∧ ∃ es ep, o.data = .dict es ep := by
  obtain ⟨_, _, vs, _, o, es, ep, h1, h2, h3, _⟩ := (show ObjOk X.prog X.w H s.heap a (.dK kvs) from I.hok a _ h)
  exact ⟨o, h1, h2.1, es, ep, h3⟩
theorem lst_here {a : Addr} {xs : List V} (I : Inv X pins σ H s) (h : SqL X.K H a xs) : ∃ its, s.heap.IsList a its := by
  obtain ⟨its, _, p, _⟩ := I.list h
  exact ⟨_, p.isList⟩
theorem tup_here {a : Addr} {xs : List V} (I : Inv X pins σ H s) (h : SqT X.K H a xs) : ∃ its, s.heap.IsTuple a its := by
  obtain ⟨its, _, p, _⟩ := I.tuple h
  obtain ⟨o, ho, hc, n, hd⟩ := p
  exact ⟨_, _, ho, hc, n, hd⟩
theorem rc_txt {M : Addr → Prop} {A : Around} {x : V} {v : Value} {d : PyData} (I : Inv X pins σ H s) (hx : Dv M X.K H x d) (rx : RelV x v) (z : Str) (t : Tok) (room : A.units < cLine) : RcAt A s v (.str z t) (isTxt z d) := by
  cases hx with
  | non => cases rx; exact RcAt.none_str _ _
  | bl b => cases rx; exact RcAt.bool_str _ _ _
  | int i => obtain ⟨u, rfl⟩ := rx; exact RcAt.int_str _ _ _ _
  | str y => obtain ⟨u, rfl⟩ := rx; exact RcAt.str_str _ _ _ _
  | lst h _ _ _ =>
    cases rx
    obtain ⟨its, g⟩ := lst_here I (SqL.of h)
    exact RcAt.list_str _ _ g room
  | tup h n r =>
    cases rx
    obtain ⟨its, g⟩ := tup_here I (.inl h)
    exact RcAt.tuple_str _ _ g room
  | tupK h r =>
    cases rx
    obtain ⟨its, g⟩ := tup_here I (.inr h)
    exact RcAt.tuple_str _ _ g room
  | dct h _ _ _ _ =>
    cases rx
    obtain ⟨o, g, c⟩ := dct_here I h
    exact rcDictText _ _ g c room
theorem eq_txt {M : Addr → Prop} {A : Around} {x : V} {v : Value} {d : PyData} (I : Inv X pins σ H s) (hx : Dv M X.K H x d) (rx : RelV x v) (z : Str) (t : Tok) (room : A.units < cLine) : EqAt A s (.str z t) v (isTxt' z d) := by
  cases hx with
  | non => cases rx; exact EqAt.str_none _ _
  | bl b => cases rx; exact EqAt.str_bool _ _ _
  | int i => obtain ⟨u, rfl⟩ := rx; exact EqAt.str_int _ _ _ _
  | str y => obtain ⟨u, rfl⟩ := rx; exact EqAt.str_str _ _ _ _
  | lst h _ _ _ =>
    cases rx
    obtain ⟨its, g⟩ := lst_here I (SqL.of h)
    exact EqAt.str_list _ _ g room
  | tup h n r =>
    cases rx
    obtain ⟨its, g⟩ := tup_here I (.inl h)
    exact EqAt.str_tuple _ _ g room
  | tupK h r =>
    cases rx
    obtain ⟨its, g⟩ := tup_here I (.inr h)
    exact EqAt.str_tuple _ _ g room
  | dct h _ _ _ _ =>
    cases rx
    obtain ⟨o, g, c⟩ := dct_here I h
    exact eqTextDict _ _ g c room
end
/-! the operators -/
def rEqTxt (K : PySem.W.Frag) : R2 := fun x y H Q => ∃ (M : Addr → Prop) (d : PyData) (z : Str), Dv M K H x d ∧ y = .str z ∧ Q (.bl (isTxt z d)) H
theorem op_eqTxt {X : Cx} (hu : X.A.units < cLine) : OpR X (compareOp .Eq) (rEqTxt X.K) := by
  intro pins s σ H x y v u Q I rx ry h
  obtain ⟨M, d, z, hd, rfl, q⟩ := h
  obtain ⟨t, rfl⟩ := ry
  exact rc_txt I hd rx z t hu X.prog X.w X.xe (EP X pins σ Q) ⟨.bl _, H, I, rfl, q⟩
def rInTxt (K : PySem.W.Frag) : R2 := fun x y H Q => ∃ (M : Addr → Prop) (d : PyData) (a : Addr) (zs : List Str), Dv M K H x d ∧ y = .ref a ∧ SqT K H a (zs.map V.str) ∧ Q (.bl (zs.any fun z => isTxt z d)) H
theorem any_txt {zs : List Str} : ∀ {its : List Value}, Vals (zs.map V.str) its → ∀ d : PyData, (its.toArray.any fun y => match y with | .str z _ => isTxt' z d | _ => false) = zs.any fun z => isTxt z d := by
  induction zs with
  | nil => intro its h d; cases h; simp
  | cons z zs ih =>
    intro its h d
    cases h with
    | cons h t =>
      obtain ⟨u, rfl⟩ := h
      have := ih t d
      simp only [List.any_toArray, List.any_cons] at this ⊢
      rw [this, isTxt_flip]
theorem vals_str {zs : List Str} : ∀ {its : List Value}, Vals (zs.map V.str) its → ∀ y ∈ its, ∃ z t, y = Value.str z t := by
  induction zs with
  | nil => intro its h y hy; cases h; cases hy
  | cons z zs ih =>
    intro its h y hy
    cases h with
    | cons h t =>
      obtain ⟨u, rfl⟩ := h
      rcases List.mem_cons.mp hy with e | hy
      · exact ⟨z, u, e⟩
      · exact ih t y hy
theorem op_inTxt {X : Cx} (hu : X.A.units + 1 < cLine) : OpR X (compareOp .In) (rInTxt X.K) := by
  intro pins s σ H x y v u Q I rx ry h
  obtain ⟨M, d, a, zs, hd, rfl, ha, q⟩ := h
  cases ry
  obtain ⟨its, r, p, _⟩ := I.tuple ha
  obtain ⟨o, ho, hc, n, hdt⟩ := p
  have seen : ∀ y, y ∈ its.toArray → ∃ z t, y = Value.str z t := fun y hy => vals_str r y (by simpa using hy)
  refine SeqAt.in_tupleAt (fun y => match y with | .str z _ => isTxt' z d | _ => false) ⟨o, ho, hc, n, hdt⟩ (fun y hy => ?_) ⟨.bl _, H, I, ?_, q⟩
  · obtain ⟨z, t, rfl⟩ := seen y hy
    exact eq_txt I hd rx z t hu
  · show Value.bool _ = Value.bool _
    rw [any_txt r d]
end Gk
namespace Gk
open PySem PySem.Spec PyProof.Rows L2
/-! ### whole numbers compared with any data -/
section low
open PySem.SeqAt PySem.MeetsSeq PySem.AutoSeq1
variable {A : Around} {s : Shared}
theorem dictEqNum (l : Addr) (dd : Option Addr) (data : Data) (sl : Array (Option Value)) (z : Int) (t : Tok) :
    Meets (Builtin.«dict.__eq__» ⟨[.ref l, .int z t], []⟩) (fun _ R s => s.heap.get? l = some { cls := .type "dict", dict := dd, data := data, slots := sl } ∧ R (.ok (.ret .notImplemented)) s) :=
  .of_wp fun prog w A R s h => by
    obtain ⟨hp, g, d, tk, os⟩ := s
    obtain ⟨here, h⟩ := h
    have no := PySem.F.sub_int_dict
    wp_walk using wpAny_load here
    exact ⟨_, rfl, h⟩
theorem numEqDict (l : Addr) (c : Value) (dd : Option Addr) (es : Array DictEntry) (ep : Nat) (sl : Array (Option Value)) (z : Int) (t : Tok) :
    Meets (Builtin.«int.__eq__» ⟨[.int z t, .ref l], []⟩) (fun _ R s => s.heap.get? l = some { cls := c, dict := dd, data := .dict es ep, slots := sl } ∧ R (.ok (.ret .notImplemented)) s) :=
  .of_wp fun prog w A R s h => by
    obtain ⟨hp, g, d, tk, os⟩ := s
    obtain ⟨here, h⟩ := h
    wp_walk using wpAny_loadPart' here, wpAny_load here
    exact ⟨_, rfl, h⟩
theorem rcNumDict {l : Addr} {o : Obj} (z : Int) (t : Tok) (here : s.heap.get? l = some o) (c : o.cls = .type "dict" ∧ ∃ es ep, o.data = .dict es ep) (room : A.units < cLine) : RcAt A s (.int z t) (.ref l) false := fun prog w E Q done => by
  obtain ⟨cls, dd, data, sl⟩ := o
  obtain ⟨c, es, ep, e⟩ := c
  have c : cls = .type "dict" := c
  have e : data = .dict es ep := e
  subst c e
  have one : ∀ Q' : Value → Shared → Prop, Q' .notImplemented s → wpAny (model prog w) A (call (.builtin "int.__eq__") [.int z t, .ref l]) Q' E s := fun Q' hq =>
    call_meets PySem.F.slot_int_eq (typeIs_int s z t) PySem.F.entry_int_eq (PySem.F.args_int_eq_2 _ _) (numEqDict l (.type "dict") dd es ep sl z t) ⟨here, hq⟩
  have two : ∀ Q' : Value → Shared → Prop, Q' .notImplemented s → wpAny (model prog w) A (call (.builtin "dict.__eq__") [.ref l, .int z t]) Q' E s := fun Q' hq =>
    call_meets PySem.F.slot_dict_eq_refl ⟨_, here, rfl⟩ PySem.F.entry_dict_eq (PySem.F.args_dict_eq_2 _ _) (dictEqNum l dd _ sl z t) ⟨here, hq⟩
  refine rc_eq_decline_or (k := false) (typeIs_int s z t) ⟨_, here, rfl⟩ ?_ PySem.F.sub_dict_int PySem.F.slot_int_eq PySem.F.slot_dict_eq_refl one two ?_ (.inr room) done
  · decide
  · exact fun Q' hq => wpAny_of_eq (rfl : isSame (.int z t) (.ref l) = pure false) hq
theorem eqNumDict {l : Addr} {o : Obj} (z : Int) (t : Tok) (here : s.heap.get? l = some o) (c : o.cls = .type "dict" ∧ ∃ es ep, o.data = .dict es ep) (room : A.units < cLine) : EqAt A s (.int z t) (.ref l) false := fun prog w E Q done => by
  unfold eqBool
  refine wpAny_holding (wpAny_ite_split (fun same => nomatch eq_of_beq same) (fun _ => wpAny_bind ?_))
  exact rcNumDict z t here c room prog w E _ (wpAny_truthy_bool done)
/-- whether data is just this number -/
def isNum (z : Int) : PyData → Bool
  | .int i => z == i
  | .bool b => z == (if b then 1 else 0)
  | _ => false
end low
section
variable {X : Cx} {pins : List (Addr × Obj)} {σ : L2.St} {H : Hp} {s : Shared}
open PySem.SeqAt
theorem eq_num {M : Addr → Prop} {A : Around} {x : V} {v : Value} {d : PyData} (I : Inv X pins σ H s) (hx : Dv M X.K H x d) (rx : RelV x v) (z : Int) (t : Tok) (room : A.units < cLine) : EqAt A s (.int z t) v (isNum z d) := by
  cases hx with
  | non => cases rx; exact EqAt.int_none _ _
  | bl b => cases rx; exact EqAt.int_bool _ _ _
  | int i => obtain ⟨u, rfl⟩ := rx; exact EqAt.int_int _ _ _ _
  | str y => obtain ⟨u, rfl⟩ := rx; exact EqAt.int_str _ _ _ _
  | lst h _ _ _ =>
    cases rx
    obtain ⟨its, g⟩ := lst_here I (SqL.of h)
    exact EqAt.int_list _ _ g room
  | tup h n r =>
    cases rx
    obtain ⟨its, g⟩ := tup_here I (.inl h)
    exact EqAt.int_tuple _ _ g room
  | tupK h r =>
    cases rx
    obtain ⟨its, g⟩ := tup_here I (.inr h)
    exact EqAt.int_tuple _ _ g room
  | dct h _ _ _ _ =>
    cases rx
    obtain ⟨o, g, c⟩ := dct_here I h
    exact eqNumDict _ _ g c room
end
/-! the operators -/
theorem any_num {zs : List Int} : ∀ {its : List Value}, Vals (zs.map V.int) its → ∀ d : PyData, (its.toArray.any fun y => match y with | .int z _ => isNum z d | _ => false) = zs.any fun z => isNum z d := by
  induction zs with
  | nil => intro its h d; cases h; simp
  | cons z zs ih =>
    intro its h d
    cases h with
    | cons h t =>
      obtain ⟨u, rfl⟩ := h
      have := ih t d
      simp only [List.any_toArray, List.any_cons] at this ⊢
      rw [this]
theorem vals_num {zs : List Int} : ∀ {its : List Value}, Vals (zs.map V.int) its → ∀ y ∈ its, ∃ z t, y = Value.int z t := by
  induction zs with
  | nil => intro its h y hy; cases h; cases hy
  | cons z zs ih =>
    intro its h y hy
    cases h with
    | cons h t =>
      obtain ⟨u, rfl⟩ := h
      rcases List.mem_cons.mp hy with e | hy
      · exact ⟨z, u, e⟩
      · exact ih t y hy
def rInNum (K : PySem.W.Frag) : R2 := fun x y H Q => ∃ (M : Addr → Prop) (d : PyData) (a : Addr) (zs : List Int), Dv M K H x d ∧ y = .ref a ∧ SqT K H a (zs.map V.int) ∧ Q (.bl (zs.any fun z => isNum z d)) H
theorem op_inNum {X : Cx} (hu : X.A.units + 1 < cLine) : OpR X (compareOp .In) (rInNum X.K) := by
  intro pins s σ H x y v u Q I rx ry h
  obtain ⟨M, d, a, zs, hd, rfl, ha, q⟩ := h
  cases ry
  obtain ⟨its, r, p, _⟩ := I.tuple ha
  obtain ⟨o, ho, hc, n, hdt⟩ := p
  have seen : ∀ y, y ∈ its.toArray → ∃ z t, y = Value.int z t := fun y hy => vals_num r y (by simpa using hy)
  refine SeqAt.in_tupleAt (fun y => match y with | .int z _ => isNum z d | _ => false) ⟨o, ho, hc, n, hdt⟩ (fun y hy => ?_) ⟨.bl _, H, I, ?_, q⟩
  · obtain ⟨z, t, rfl⟩ := seen y hy
    exact eq_num I hd rx z t hu
  · show Value.bool _ = Value.bool _
    rw [any_num r d]
def rNotInNum (K : PySem.W.Frag) : R2 := fun x y H Q => ∃ (M : Addr → Prop) (d : PyData) (a : Addr) (zs : List Int), Dv M K H x d ∧ y = .ref a ∧ SqT K H a (zs.map V.int) ∧ Q (.bl (!zs.any fun z => isNum z d)) H
theorem op_notInNum {X : Cx} (hu : X.A.units + 1 < cLine) : OpR X (compareOp .NotIn) (rNotInNum X.K) := by
  intro pins s σ H x y v u Q I rx ry h
  obtain ⟨M, d, a, zs, hd, rfl, ha, q⟩ := h
  cases ry
  obtain ⟨its, r, p, _⟩ := I.tuple ha
  obtain ⟨o, ho, hc, n, hdt⟩ := p
  have seen : ∀ y, y ∈ its.toArray → ∃ z t, y = Value.int z t := fun y hy => vals_num r y (by simpa using hy)
  refine SeqAt.notIn_tupleAt (fun y => match y with | .int z _ => isNum z d | _ => false) ⟨o, ho, hc, n, hdt⟩ (fun y hy => ?_) ⟨.bl _, H, I, ?_, q⟩
  · obtain ⟨z, t, rfl⟩ := seen y hy
    exact eq_num I hd rx z t hu
  · show Value.bool _ = Value.bool _
    rw [any_num r d]
end Gk
/-! set(list of whole numbers), its order led. -/
namespace Gk
open PySem PySem.Spec PyProof.Rows L2
abbrev bareSet (w : World) : Obj := ⟨.type "set", none, .set #[] 0 (.fresh 0 0 (!w.params.followText "set-order")), #[]⟩
abbrev setHeap (w : World) (s : Shared) : Heap := s.heap.push (bareSet w)
/-- what the set's __init__ leaves behind -/
def Filled (w : World) (s : Shared) (ns : List Int) (s2 : Shared) : Prop :=
  ∃ g t c, s2 = { s with heap := g, toks := t } ∧ SetR w g s.heap.objs.size (fun j => decide (j ∈ ns)) c ∧ ∀ b o, s.heap.get? b = some o → g.get? b = some o
section
variable {P : Program} {w : World} {A : Around} {E : Value → Shared → Prop} {s : Shared}
set_option maxHeartbeats 3000000 in
theorem set_ints {l : Addr} {its : List Value} {ns : List Int} {Q : Value → Shared → Prop} (calm : A.handled = none) (hl : s.heap.IsList l its.toArray) (hit : IntsAre its ns) (few : ns.length + 1 < scanBound)
    (fin : ∀ s2, Filled w s ns s2 → Q (.ref s.heap.objs.size) s2) : wpAny (model P w) A (call (.type "set") [.ref l]) Q E s := by
  have new : (setHeap w s).get? s.heap.objs.size = some (bareSet w) := Heap.get?_push_size _ rfl
  have ty : Shared.TypeIs { s with heap := setHeap w s } (.ref s.heap.objs.size) "set" := ⟨_, new, rfl⟩
  have size : its.toArray.size = ns.length := by
    rw [List.size_toArray]
    exact IntsAre.length hit
  obtain ⟨c0, tl0, mro⟩ := PySem.F.called_set.mro
  have k1 := PySem.F.called_set.made
  have k2 := PySem.F.called_set.sub
  have k3 := PySem.F.called_set.notType
  have k4 := PySem.F.called_set.canCreate
  have k5 := PySem.F.typeCall_set_1 (.ref l)
  refine wpAny_call (codeAny_of_tree ?_)
  show wpAny (model P w) _ (callAny (.type "set") _) _ _ s
  refine wpAny_pure ⟨Code.quiet_builtin _ (by decide +kernel), codeAny_builtin PySem.F.entry_type_call ?_⟩
  rw [Around.under_plain (weight_type_call_type "set" [.ref l] []) rfl]
  repeat (any_goals (first | assumption | wp_step))
  refine codeAny_mono (code_set_led1 (.ref l) (E := E) (Q₁ := fun u s1 => u = .ref s.heap.objs.size ∧ s1 = { s with heap := setHeap w s }) ⟨rfl, rfl⟩) fun r s1 hr => ?_
  rcases r with er | fl
  · exact hr
  · cases fl with
    | brk => exact hr.elim
    | cont => exact hr.elim
    | next => exact hr.elim
    | ret u =>
      obtain ⟨rfl, rfl⟩ := hr
      have k6 := PySem.F.called_set.init.lookup
      have k7 := PySem.F.called_set.init.bind (.ref s.heap.objs.size)
      repeat (any_goals (first | assumption | wp_step))
      refine codeAny_mono (codeAny_call_builtin (R := wants (fun r s2 => r = .none ∧ Filled w s ns s2) E) PySem.F.called_set.init.plain PySem.F.entry_set_init (check_set_init_1 ty ?_)) fun r2 s2 hr2 => ?_
      · obtain ⟨⟨cl, dd, da, sl⟩, here, hc, nl, hd⟩ := hl
        simp only at hc hd
        subst hc hd
        have lt : l < s.heap.objs.size := Heap.lt_size here
        have here1 := Heap.get?_push_of_some (bareSet w) here
        have z1 := PySem.F.sub_list_set
        have z2 := PySem.F.sub_list_frozenset
        have z3 : (Value.type "list" == Value.type "dict") = false := by decide
        have hl1 : (setHeap w s).IsList l its.toArray := ⟨_, here1, rfl, nl, rfl⟩
        unfold Builtin.«set.__init__» noKeywords Builtin.Frozenset.updateFrom
        generalize it : pyIter = walk
        wp_walk
        subst it
        refine wpAny_pyIter_list hl1 (wpAny_bind (wpAny_runValue ?_))
        have nx : (setHeap w s).objs.size = s.heap.objs.size + 1 := Heap.size_push ..
        have ne1 : l ≠ (setHeap w s).objs.size := by
          rw [nx]
          exact Nat.ne_of_lt (Nat.lt_succ_of_lt lt)
        have out : s.heap.objs.size ∉ [(setHeap w s).objs.size, l] := by
          rw [nx]
          simp only [List.mem_cons, List.not_mem_nil, or_false, not_or]
          exact ⟨Nat.ne_of_lt (Nat.lt_succ_self _), Nat.ne_of_gt lt⟩
        have vals : ∀ (i : Nat) (v : Value), its.toArray[i]? = some v → ∃ k t, ns[i]? = some k ∧ v = .int k t := fun i v hv => by
          obtain ⟨g1, g2⟩ := Array.getElem?_eq_some_iff.mp hv
          have hi : i < ns.length := by omega
          obtain ⟨t, e⟩ := PyProof.Rows.IntsAre.int_at hit i v (by rwa [List.getElem?_toArray] at hv)
          exact ⟨ns[i], t, List.getElem?_eq_getElem hi, by rw [e, List.getD_eq_getElem?_getD, List.getElem?_eq_getElem hi] <;> rfl⟩
        refine set_update_ints ((Walks.list (by simp [calm]) _ l ne1 its.toArray).toS) s.heap.objs.size out ns size few vals (its.toArray.size - 0) 0 _ (by omega) (Nat.zero_le _) ⟨⟨_, Heap.get?_push_size _ rfl, rfl, rfl⟩, hl1.push _⟩ ?_ ?_
        · exact ⟨0, Nat.le_refl 0, setR_new_at (Heap.get?_push_of_some _ new)⟩
        · intro s3 c mv hc hS
          obtain ⟨h3, g3, d3, t3, o3⟩ := s3
          obtain rfl : g3 = s.gens := mv.gens
          obtain rfl : d3 = s.drawn := mv.drawn
          obtain rfl : o3 = s.os := mv.os
          show wpAny _ _ _ _ _ _
          refine wpAny_pure ?_
          show wpAny _ _ (ret Value.none) _ _ _
          refine wpAny_pure ⟨rfl, h3, t3, c, rfl, hS, fun b o e => ?_⟩
          have hb := Heap.lt_size e
          refine mv.heap b o ?_ (Heap.get?_push_of_some _ (Heap.get?_push_of_some _ e))
          simp only [List.mem_cons, List.not_mem_nil, or_false, not_or]
          show b ≠ s.heap.objs.size ∧ b ≠ (setHeap w s).objs.size
          rw [nx]
          exact ⟨Nat.ne_of_lt hb, Nat.ne_of_lt (Nat.lt_succ_of_lt hb)⟩
      · rcases r2 with er | fl2
        · exact hr2
        · cases fl2 with
          | brk => exact hr2.elim
          | cont => exact hr2.elim
          | next => exact hr2.elim
          | ret u =>
            obtain ⟨rfl, f⟩ := hr2
            repeat (any_goals (first | assumption | wp_step))
            exact fin _ f
end
section
variable {X : Cx}
/-- set(l), l a list of whole numbers -/
def rSetI (K : PySem.W.Frag) (w : World) : List V → Hp → VK → Prop := fun xs H Q => ∃ (l : Addr) (ns : List Int), xs = [.ref l] ∧ SqL K H l (ns.map V.int) ∧ ns.length ≤ 1000 ∧
  ∀ (p : Addr) (ks : List Int), H p = none → ks.Nodup → (∀ k, k ∈ ks ↔ k ∈ ns) → Q (.ref p) (upd H p (SetO w p (fun j => decide (j ∈ ns)) ks.length))
theorem cr_setI (hc : X.calm = true) : CallR X (.type "set") (rSetI X.K X.w) := by
  intro pins s σ H xs us Q I r h
  obtain ⟨l, ns, rfl, hl, few, q⟩ := h
  rw [Vals.ref1 r]
  obtain ⟨its, rv, pl, hz⟩ := I.list hl
  have hn : H s.heap.objs.size = none := I.hok.fresh (Nat.le_refl _)
  refine set_ints (I.ok.hd hc) pl.isList (ints_of_vals rv) (by unfold scanBound; omega) fun s2 f => ?_
  obtain ⟨g, t, c, rfl, R, keep⟩ := f
  have R' := R
  obtain ⟨o, es, ep, tb, ho, hx, hd, ge, nd, hm, hb, hf, hcn, _⟩ := R'
  have len : (es.toList.map keyOf).length = c := by rw [List.length_map, Array.length_toList]; exact hcn
  refine ⟨.ref s.heap.objs.size, upd H s.heap.objs.size (SetO X.w s.heap.objs.size (fun j => decide (j ∈ ns)) c), I.laid (t' := t) keep (Nat.le_refl _) (setO_new R), rfl, ?_⟩
  have := q s.heap.objs.size (es.toList.map keyOf) hn nd fun k => by rw [← hm k, decide_eq_true_eq]
  rwa [len] at this
end
end Gk
/-! An own exception whose __init__ says super().__init__(text); self.f = value. -/
namespace Gk
open PySem PySem.Spec PyProof.Rows L2

section
variable {prog : Program} {w : World} {A : Around} {E : Value → Shared → Prop} {h : Heap} {g : Array GenState} {d : Drawn} {t : Nat} {os : OsState}
variable {nm q : Str} {C N : Addr} {bs bm : List Value} {hdct : Bool} {sn : List Str} {sub : List Value} {ab : Bool} {col : Option Bool} {dd : Option Addr} {k0 k1 k2 k3 k5 : Option Value}
open PySem.HandSPX in
theorem call_mw {u e t0 : Addr} {rest : List Value} {Q : Value → Shared → Prop}
    (hC : h.get? C = some (excClassObj nm q C N bs bm hdct sn sub ab col dd k0 k1 k2 k3 k5 "ValueError.__new__")) (he : h.get? e = some (HandSPX.excO C t0)) (hu : h.get? u = some (PySem.W.kxs_mw "ValueError.__init__" e)) (hrest : rest.length ≤ sizeLine)
    (hq : ∀ h' t1, (∀ b o, b ≠ e → h.get? b = some o → h'.get? b = some o) → h'.get? e = some (HandSPX.excO C t1) → Q .none ⟨h', g, d, t, os⟩) :
    wpAny (model prog w) A (call (.ref u) rest) Q E ⟨h, g, d, t, os⟩ := by
  refine wpAny_call (codeAny_of_tree ?_)
  show wpAny _ A.in1 (callAny (.ref u) ⟨rest, []⟩) _ _ _
  simp only [callAny]
  refine wpAny_bind (wpAny_load hu ?_)
  simp only [PySem.W.kxs_mw, show (Value.type "method-wrapper" == Value.type "method" || Value.type "method-wrapper" == Value.type "builtin_function_or_method" || Value.type "method-wrapper" == Value.type "method-wrapper") = true by decide, if_true]
  refine PySem.W.KFB.if_so (by decide) ?_
  refine wpAny_bind (PySem.ESX.check_bound F.excBase_ValueError hC he rfl ?_)
  refine wpAny_bind (wpAny_pure (wpAny_pure ?_))
  refine ⟨Code.quiet_builtin _ (by decide +kernel), codeAny_builtin F.excBase_ValueError.initEntry ?_⟩
  rw [Around.under_plainId F.excBase_ValueError.init.plain _]
  wp_walk
  refine hq _ h.objs.size (fun b o hb ho => ?_) ?_
  · rw [Heap.get?_update_other _ _ (Ne.symm hb)]
    exact Heap.get?_push_of_some _ ho
  · rw [Heap.get?_update_self _ (Heap.get?_push_of_some _ he) rfl]
    rfl
end

/-- what is written of an own exception's __init__: its def at f, its cell at cc, its class at C -/
structure EInit (P : Program) (K : PySem.W.Frag) (C f cc : Addr) (fd : FuncData) (qual : Str) (params : Arguments) (body : List Stmt) (scope : Scope) (cda : Addr) : Prop where
  oex : OexC K C
  fn : ∃ oc od osl kV doc pm an ct, K.lookup f = some ⟨oc, od, .func (PySem.W.ksFn "__init__" qual params body scope .none kV doc pm an (.ref cda) ct cc), osl⟩ ∧ fd = PySem.W.ksFn "__init__" qual params body scope .none kV doc pm an (.ref cda) ct cc
  code : PySem.W.codeIn K (.ref cda) qual = true
  file : ∃ ccl cdd vs ccs file tf, K.lookup cda = some ⟨ccl, cdd, .fields vs, ccs⟩ ∧ vs[2]? = some (.str file tf) ∧ ((P.main.file : Str) == file) = true
  top : (P.main.scope.names.lookup ("super" : Str)).isSome = false
  cell : ∃ cl cld csl, K.lookup cc = some ⟨cl, cld, .cell (some (.ref C)), csl⟩
  sup : PySem.W.ks_superIn K C C "__init__" = some (some (.builtin "ValueError.__init__"))
  self : PySem.W.mroIn K C (.ref C) = some true
  ve : PySem.W.subIn K (.ref C) (.type "ValueError") = some true
  any : PySem.W.nsIn K cStatics "thirdparty.any" = some none
  iC : PySem.W.findIn K (.ref C) "__init__" = some (some (.ref f))
  tI : PySem.W.typeIn K (.ref f) = some (.type "function")
  kf : PySem.W.keepIn K (.ref f) = true

/-- the context of that __init__ -/
def ecx (P : Program) (w : World) (K : PySem.W.Frag) (mg : Str → Option Value) (base : Heap) (N : List Str) (qual : Str) (scope : Scope) (f : Addr) (cda cc : Addr) (A : Around) (outer : List Env) (s : Shared) (H : Hp) : Cx where
  prog := P
  w := w
  K := K
  mg := mg
  base := base
  A := A.deeper (PySem.W.ksEnv qual scope s.heap.objs.size f (.ref cda) cc)
  N := N
  s_0 := s
  H_0 := H
  env := PySem.W.ksEnv qual scope s.heap.objs.size f (.ref cda) cc
  outer := outer
  stack := PySem.W.ksEnv qual scope s.heap.objs.size f (.ref cda) cc :: outer
  ex := []
  calm := true
  fn := fun _ => false
  pn := []
  xe := fun _ _ => False
/-- its scope -/
structure EScope (N : List Str) (sc : Scope) : Prop where
  kind : sc.kind = .function
  co : sc.isCoroutine = false
  gen : sc.isGenerator = false
  loc : ∀ x ∈ N, sc.names.lookup x = some .local
  nocell : ∀ y ∈ sc.names, y.2 ≠ .cell
  free : ∀ y ∈ sc.names, y.2 = .free → y.1 = "__class__"
  cls : sc.names.lookup ("__class__" : Str) = some .free
  sup : sc.names.lookup ("super" : Str) = some .globalImplicit

end Gk
namespace Gk
open PySem PySem.Spec PyProof.Rows L2
section
variable {P : Program} {w : World} {K : PySem.W.Frag} {mg : Str → Option Value} {base : Heap} {C f cc cda : Addr} {fd : FuncData} {qual : Str} {params : Arguments} {body : List Stmt} {scope : Scope}
theorem einv {par : Str} {A : Around} {outer : List Env} {s : Shared} {H : Hp} {u0 u1 : Value} {v0 v1 : V} {h0 : Heap} {tk : Nat} (T : EInit P K C f cc fd qual params body scope cda) (S : EScope ["self", par] scope) (hp : (("self" : Str) == par) = false) (hd : A.handled = none) (e0 : Env0 P w K mg base A outer s H)
    (r0 : RelV v0 u0) (r1 : RelV v1 u1) (hns : h0.Ns s.heap.objs.size (fun x => ([(par, u1), ("self", u0)] : List (Str × Value)).lookup x)) (k : ∀ b o, s.heap.get? b = some o → h0.get? b = some o) :
    Inv (ecx P w K mg base ["self", par] qual scope f cda cc A outer s H) [] [some v0, some v1] H { s with heap := h0, toks := tk } := by
  obtain ⟨cl, cld, csl, hcell⟩ := T.cell
  have KXb : K.In base := e0.mod.kin
  have bcc := KXb _ _ hcell
  have one : ∀ x c, (ecx P w K mg base ["self", par] qual scope f cda cc A outer s H).env.cells.lookup x = some c → x = "__class__" ∧ c = cc := fun x c h => by
    have h : ([("__class__", cc)] : List (Str × Addr)).lookup x = some c := h
    rw [List.lookup_cons] at h
    split at h
    · rename_i e
      exact ⟨by simpa using e, (Option.some.inj h).symm⟩
    · cases h
  have ok : (ecx P w K mg base ["self", par] qual scope f cda cc A outer s H).Ok := by
    refine ⟨e0.mod, S.kind, rfl, rfl, Nat.le_refl _, fun y z c h1 h2 => ?_, fun y hy => ?_, fun y c hf => (nomatch hf), fun _ => hd, Around.frames_deeper e0.frames, .inr ⟨rfl, rfl⟩, fun b z => (by cases z), e0.bs, e0.bsz, fun b _ _ z => (by cases z), fun b z => (by cases z), e0.funs, e0.frf⟩
    · rw [(one y c h1).1, (one z c h2).1]
    · refine ⟨cc, ?_⟩
      have hy : scope.names.lookup y = some .cell ∨ scope.names.lookup y = some .free := hy
      rcases hy with hy | hy
      · exact absurd rfl (S.nocell _ (PySem.mem_of_lookup hy))
      · have e := S.free _ (PySem.mem_of_lookup hy) rfl
        have e : y = "__class__" := e
        subst e
        rfl
  have look : ∀ (i : Nat) (y : Str) (v : V), (["self", par] : List Str)[i]? = some y → ([some v0, some v1] : List (Option V))[i]? = some (some v) → ∃ u, RelV v u ∧ Look (ecx P w K mg base ["self", par] qual scope f cda cc A outer s H).env h0 (fun x => ([(par, u1), ("self", u0)] : List (Str × Value)).lookup x) y u := by
    intro i y v h1 h2
    rcases i with _ | _ | i
    · have e1 : ("self" : Str) = y := Option.some.inj h1
      have e2 : v0 = v := Option.some.inj (Option.some.inj h2)
      subst e1 e2
      refine ⟨u0, r0, .inl ⟨S.loc _ (List.mem_cons_self ..), ?_⟩⟩
      dsimp only
      rw [List.lookup_cons, hp]
      rfl
    · have e1 : par = y := Option.some.inj h1
      have e2 : v1 = v := Option.some.inj (Option.some.inj h2)
      subst e1 e2
      refine ⟨u1, r1, .inl ⟨S.loc _ (List.mem_cons_of_mem _ (List.mem_cons_self ..)), ?_⟩⟩
      dsimp only
      rw [List.lookup_cons, show (par == par) = true from by simp]
    · cases h1
  exact ⟨ok, rfl, e0.bare, Un.kept k, ⟨_, hns, fun i y v h1 h2 _ => look i y v h1 h2⟩, fun y c h => by
      obtain ⟨_, rfl⟩ := one y c h
      exact ⟨_, _, k _ _ (e0.bs _ _ bcc).1, rfl⟩, e0.hok.fresh (Nat.le_refl _), fun y c h => by
      obtain ⟨_, rfl⟩ := one y c h
      exact (e0.bs _ _ bcc).2, fun p hp => (by cases hp), e0.hok.kept k, rfl⟩
end
end Gk
namespace Gk
open PySem PySem.Spec PyProof.Rows L2
section
variable {P : Program} {w : World} {K : PySem.W.Frag} {mg : Str → Option Value} {base : Heap} {C f cc cda : Addr} {fd : FuncData} {qual : Str} {params : Arguments} {body : List Stmt} {scope : Scope}
/-- super().__init__(text) -/
theorem sup_init {par : Str} {A : Around} {outer : List Env} {s0 s : Shared} {H0 H : Hp} {a : Addr} {v : V} {txt : Str} {k : Nat} {p0 p1 p2 p3 p4 pos : Pos} {rest : List Stmt} {Q : Flow → Shared → Prop}
    (T : EInit P K C f cc fd qual params body scope cda) (S : EScope ["self", par] scope) {pl : Sem Bool} (he : eval (.Call (.Attribute (.Call (.Name "super" p0) [] [] p1) "__init__" p2) [.Constant (.str txt) k p3] [] p4) (PySem.W.ksEnv qual scope s0.heap.objs.size f (.ref cda) cc) = (do
      let ov ← attributeBase (.Call (.Name "super" p0) [] [] p1) "__init__" (PySem.W.ksEnv qual scope s0.heap.objs.size f (.ref cda) cc) (eval (.Call (.Name "super" p0) [] [] p1) (PySem.W.ksEnv qual scope s0.heap.objs.size f (.ref cda) cc))
      standAt p2.atName
      let (f', first) ← holding [ov] (getMethod ov "__init__" pl)
      callWith p4 f' first (backTo p4 (starEach [.Constant (.str txt) k p3] (PySem.W.ksEnv qual scope s0.heap.objs.size f (.ref cda) cc))) []))
    (hi : interactive (PySem.W.ksEnv qual scope s0.heap.objs.size f (.ref cda) cc) = false) (hpar : (params.posonlyargs ++ params.args).head?.map (·.arg) = some "self") (hsup : mg "super" = none)
    (I : Inv (ecx P w K mg base ["self", par] qual scope f cda cc A outer s0 H0) [] [some (.ref a), some v] H s) (ha : H a = some (exo a C none))
    (h : ∀ s', Inv (ecx P w K mg base ["self", par] qual scope f cda cc A outer s0 H0) [] [some (.ref a), some v] H s' → PySem.wpAt (model P w) (A.deeper (PySem.W.ksEnv qual scope s0.heap.objs.size f (.ref cda) cc)) (.func body (PySem.W.ksEnv qual scope s0.heap.objs.size f (.ref cda) cc)) (execs rest (PySem.W.ksEnv qual scope s0.heap.objs.size f (.ref cda) cc)) Q (fun _ _ => False) s') :
    PySem.wpAt (model P w) (A.deeper (PySem.W.ksEnv qual scope s0.heap.objs.size f (.ref cda) cc)) (.func body (PySem.W.ksEnv qual scope s0.heap.objs.size f (.ref cda) cc))
      (execs (.Expr (.Call (.Attribute (.Call (.Name "super" p0) [] [] p1) "__init__" p2) [.Constant (.str txt) k p3] [] p4) pos :: rest) (PySem.W.ksEnv qual scope s0.heap.objs.size f (.ref cda) cc)) Q (fun _ _ => False) s := by
  obtain ⟨oc, od, osl, kV, doc, pm, an, ct, lk, efd⟩ := T.fn
  obtain ⟨ccl, cdd, vs, ccs, file, tf, lcode, hvs, hfile⟩ := T.file
  obtain ⟨cl, cld, csl, lcell⟩ := T.cell
  obtain ⟨nm, q, N, bs, bm, sn, sub, ab, col, dd, k0, k1, k2, k3, k5, hC, hbm⟩ := T.oex.cls
  obtain ⟨ar, har, earg⟩ : ∃ ar, (params.posonlyargs ++ params.args).head? = some ar ∧ ar.arg = "self" := by
    cases e : (params.posonlyargs ++ params.args).head? with
    | none => rw [e] at hpar; cases hpar
    | some ar => rw [e] at hpar; exact ⟨ar, rfl, Option.some.inj hpar⟩
  have X : K.In s.heap := I.kIn
  have hcl : PySem.W.clsIn K C = some { name := nm, bases := bs, mro := .ref C :: bm, ns := N, qualname := q, hasDict := true, slotNames := sn, subclasses := sub, abstract := ab, collection := col, hasDel := false } := by unfold PySem.W.clsIn; rw [hC] <;> rfl
  obtain ⟨t1, ho⟩ := exo_at I.hok ha
  obtain ⟨m, hns, hloc⟩ := id I.loc
  have hm : m "self" = some (.ref a) := by
    obtain ⟨u, ru, l⟩ := hloc 0 "self" (.ref a) rfl rfl (.inl (S.loc _ (List.mem_cons_self ..)))
    obtain rfl : u = Value.ref a := ru
    rcases l with ⟨_, l⟩ | ⟨k, _⟩
    · exact l
    · have z : scope.names.lookup ("self" : Str) = some .local := S.loc _ (List.mem_cons_self ..)
      rcases k with k | k
      · have k : scope.names.lookup ("self" : Str) = some .cell := k
        rw [z] at k; cases k
      · have k : scope.names.lookup ("self" : Str) = some .free := k
        rw [z] at k; cases k
  obtain ⟨mb, hb1, hb2⟩ := I.mod.blt
  refine ks_wpAt_execs_cons (ks_wpAt_Expr_any (ks_wpAt_MethodCall (pl := pl) ?_ he) hi)
  refine ks_wpAt_super_base (env := PySem.W.ksEnv qual scope s0.heap.objs.size f (.ref cda) cc) S.sup S.cls (by decide) rfl (X _ _ lk) rfl har rfl (X _ _ lcode) rfl hvs hfile T.top ?_
  refine PySem.W.ks_loadName_global S.kind S.sup (Calls.loadGlobal_builtin (env := PySem.W.ksEnv qual scope s0.heap.objs.size f (.ref cda) cc) (I.mod.glob.keeps I.bk) hsup (hb1.keeps I.bk) ((hb2 "super" (by decide)).trans (show bootBuiltins "super" = some (.type "super") from by first | boot_by_name | rfl | kernel_rfl)) ⟨rfl, ?_⟩)
  refine wpAny_loadName_free S.kind S.cls rfl ⟨_, X _ _ lcell, rfl⟩ ?_
  rw [earg]
  refine wpAny_loadName_local S.kind (S.loc _ (List.mem_cons_self ..)) hns hm ?_
  obtain ⟨hh, g, d, tk, os⟩ := s
  refine ks_wpAny_isType_cls (X _ _ hC) rfl ⟨rfl, ?_⟩
  refine ks_wpAny_call_super (X _ _ hC) rfl ho rfl (fun c e => by cases e) (PySem.W.looks_mroIn X T.self) (fun h1 e1 kp1 => ?_)
  have X1 : K.In h1 := X.keeps kp1
  have I1 : PySem.W.InstAt h1 a { cls := .ref C, dict := none, data := .fields #[.ref t1, .none, .none, .none, .bool false, .none] } C none := ⟨kp1 _ _ ho, rfl, rfl, trivial⟩
  have hsup' := T.sup
  unfold PySem.W.ks_superIn at hsup'
  rw [hcl] at hsup'
  refine PySem.W.kxs_getMethod PySem.W.kxs_ValueError e1 (PySem.W.looks_opaque X1 T.any) (l₀ := .ref C :: bm) (fun A Q E s k q => wpAny_bind ((PySem.W.looks_clsIn X1 hcl) A _ E s k (wpAny_pure q))) rfl X1 hsup' (I1.type.andThen (PySem.W.looks_subIn X1 T.ve)) (PySem.W.ks_ne X1 I1 hcl) (by decide) ?_
  have kp2 : ∀ b o, hh.get? b = some o → (h1.push (PySem.W.kxs_mw "ValueError.__init__" a)).get? b = some o := fun b o e => Heap.get?_push_of_some _ (kp1 b o e)
  have I2 : Inv (ecx P w K mg base ["self", par] qual scope f cda cc A outer s0 H0) [] [some (.ref a), some v] H ⟨h1.push (PySem.W.kxs_mw "ValueError.__init__" a), g, d, tk + 1, os⟩ := I.kept (t' := tk + 1) kp2
  have hu2 : (h1.push (PySem.W.kxs_mw "ValueError.__init__" a)).get? h1.objs.size = some (PySem.W.kxs_mw "ValueError.__init__" a) := Heap.get?_push_size _ rfl
  refine PySem.W.kxs_callWith (i := "ValueError.__init__") (x := a) rfl ?_
  refine Calls.evalArgs_plain ?_
  have lu : hh.objs.size ≤ h1.objs.size := by
    cases e : h1.get? hh.objs.size with
    | none => rw [e1] at e; cases e
    | some o => exact Nat.le_of_lt (Heap.lt_size e)
  have I3 : Inv (ecx P w K mg base ["self", par] qual scope f cda cc A outer s0 H0) [(h1.objs.size, PySem.W.kxs_mw "ValueError.__init__" a)] [some (.ref a), some v] H ⟨h1.push (PySem.W.kxs_mw "ValueError.__init__" a), g, d, tk + 1, os⟩ :=
    I2.pins_of fun p hp => by
      rw [List.mem_singleton.mp hp]
      refine ⟨hu2, I.hok.fresh lu, Nat.ne_of_gt (Nat.lt_of_lt_of_le I.lt lu), I.nofs lu, fun v q => by cases q⟩
  refine wpAny_mono ((pa_cons (pe_str (X := ecx P w K mg base ["self", par] qual scope f cda cc A outer s0 H0) (x := txt) (j := k) (pos := p3)) pa_nil).run p4 _ _ _ H (fun ys G => ys = [.str txt] ∧ G = H) I3 ⟨rfl, rfl⟩) (fun us s4 ⟨ys, H4, I4, r4, ey, eh⟩ => ?_) fun _ _ z => z
  subst ey eh
  obtain ⟨hu4, _⟩ := I4.pin _ (List.mem_append_right _ (List.mem_singleton.mpr rfl))
  refine ⟨hu4, ?_⟩
  obtain ⟨t4, ho4⟩ := exo_at I4.hok ha
  have hlen : us.length ≤ sizeLine := by
    rw [← Paired.length r4, sizeLine_eq]
    show 1 ≤ _
    omega
  have hC4 := I4.kIn _ _ hC
  obtain ⟨h4, g4, d4, tk4, os4⟩ := s4
  refine call_mw hC4 ho4 hu4 hlen fun h' t2 kk hx => ?_
  have J := I4.write (t' := tk4) (x := a) (e := a) (o := exo a C none) (by rw [ha]; exact True.intro) (.inl rfl) kk ⟨_, hx⟩ (exo_ok hx)
  have eu : upd H4 a (exo a C none) = H4 := by
    funext b
    by_cases hb : b = a
    · rw [hb, upd_same, ha]
    · rw [upd_ne hb]
  rw [eu] at J
  exact h _ (J.pins_of (pins' := []) fun p hp => by cases hp)
end
end Gk
namespace Gk
open PySem PySem.Spec PyProof.Rows L2
/-- an own exception's __init__, called at a new instance: it keeps the value under its name -/
def spInit (C : Addr) (fld : Str) : Sp := fun vs H Q _ => ∃ (a : Addr) (v : V), vs = [.ref a, v] ∧ H a = some (exo a C none) ∧ ∀ dx, H dx = none → dx ≠ a → Q .non (upd (upd H dx (exd dx [(fld, v)])) a (exo a C (some dx)))
section
variable {P : Program} {w : World} {K : PySem.W.Frag} {mg : Str → Option Value} {base : Heap} {C f cc cda : Addr} {fd : FuncData} {qual : Str} {params : Arguments} {scope : Scope}
theorem init_ok {par fld txt : Str} {k : Nat} {p0 p1 p2 p3 p4 pos q1 q2 q3 q4 : Pos} {pl : Addr → Sem Bool}
    (T : EInit P K C f cc fd qual params [.Expr (.Call (.Attribute (.Call (.Name "super" p0) [] [] p1) "__init__" p2) [.Constant (.str txt) k p3] [] p4) pos, .Assign [.Attribute (.Name "self" q1) fld q2] (.Name par q3) q4] scope cda) (S : EScope ["self", par] scope)
    (hp : (("self" : Str) == par) = false) (hfld : PySem.W.findIn K (.ref C) fld = some none) (hd1 : (par == ("__debug__" : Str)) = false) (hd2 : (par == ("__classdict__" : Str)) = false) (hsup : mg "super" = none)
    (hpar : (params.posonlyargs ++ params.args).head?.map (·.arg) = some "self")
    (he : ∀ L, eval (.Call (.Attribute (.Call (.Name "super" p0) [] [] p1) "__init__" p2) [.Constant (.str txt) k p3] [] p4) (PySem.W.ksEnv qual scope L f (.ref cda) cc) = (do
      let ov ← attributeBase (.Call (.Name "super" p0) [] [] p1) "__init__" (PySem.W.ksEnv qual scope L f (.ref cda) cc) (eval (.Call (.Name "super" p0) [] [] p1) (PySem.W.ksEnv qual scope L f (.ref cda) cc))
      standAt p2.atName
      let (f', first) ← holding [ov] (getMethod ov "__init__" (pl L))
      callWith p4 f' first (backTo p4 (starEach [.Constant (.str txt) k p3] (PySem.W.ksEnv qual scope L f (.ref cda) cc))) []))
    (hi : ∀ L, interactive (PySem.W.ksEnv qual scope L f (.ref cda) cc) = false)
    (hsw : ∀ L, swapsWith (.Name par q3) (some (.Attribute (.Name "self" q1) fld q2)) q4.line (PySem.W.ksEnv qual scope L f (.ref cda) cc) = pure false) :
    FnOk P w K mg base L2.CX0 1 f fd ["self", par] (spInit C fld) := by
  refine ⟨fun vs H Q E h => by obtain ⟨a, v, rfl, _⟩ := h; rfl, fun A outer s H args us vs Q E hr e0 hb r hsp => ?_⟩
  obtain ⟨a, v, rfl, ha, q⟩ := hsp
  obtain ⟨oc, od, osl, kV, doc, pm, an, ct, lk, efd⟩ := T.fn
  have KX : K.In s.heap := e0.mod.kin.keeps fun b o e => (e0.bs b o e).1
  have lim : s.heap.NoLimit := e0.mod.nolimit.keeps fun b o e => (e0.bs b o e).1
  subst efd
  cases r with
  | @cons _ u0 _ ur r0 rr =>
    cases rr with
    | @cons _ u1 _ ur' r1 rr' =>
      cases rr'
      refine ks_codeAny_call_defAt (binds := (["self", par] : List Str).zip [u0, u1]) hr.depth (KX _ _ lk) rfl lim (PySem.W.codeRec_of KX T.code) rfl hb S.nocell (fun y hy => S.loc _ (List.of_mem_zip (a := y.1) (b := y.2) hy).1) (fun h0 hns hk => ?_) S.co S.gen S.kind
      have I0 := einv (P := P) (w := w) (mg := mg) (tk := s.toks + ((["self", par] : List Str).zip [u0, u1]).length) T S hp hr.hd e0 r0 r1 hns hk
      refine ks_wpAt_mono (Q := fun fl s' => SP (ecx P w K mg base ["self", par] qual scope f cda cc A outer s H) [] { nx := fun _ H' => Q .non H', rt := Q } fl s') (E := fun _ _ => False)
        (sup_init T S (he _) (hi _) hpar hsup I0 ha fun s' I' => PySem.wpAt_of_wpAny ((pss_one (ps_ost (pe_var (i := 0) rfl (.inl (S.loc _ (List.mem_cons_self ..)))) (pe_var (i := 1) rfl (.inl (S.loc _ (List.mem_cons_of_mem _ (List.mem_cons_self ..)))) hd1 hd2) (hsw s.heap.objs.size))).run [] s' _ H _ I' ⟨v, rfl, .ref a, rfl, a, C, rfl, T.oex, hfld, .inl ⟨ha, q⟩⟩))
        (fun fl s' hs => ?_) fun _ _ z => z.elim
      cases fl with
      | next => obtain ⟨σ', H', J, z⟩ := hs; exact ⟨.non, H', J.os, J.bare, J.base, J.hok, rfl, z⟩
      | ret u => obtain ⟨vv, σ', H', J, rv, z⟩ := hs; exact ⟨vv, H', J.os, J.bare, J.base, J.hok, rv, z⟩
      | brk => obtain ⟨_, _, _, z⟩ := hs; exact False.elim z
      | cont => obtain ⟨_, _, _, z⟩ := hs; exact False.elim z
end
end Gk
/-! An own exception with one value, raised and caught by its name. -/
namespace Gk
open PySem PySem.Spec PyProof.Rows L2
structure Xown (P : Program) (w : World) (K : PySem.W.Frag) (mg : Str → Option Value) (base : Heap) (x par fld : Str) (C : Addr) : Prop where
  g : mg x = some (.ref C)
  oex : OexC K C
  ini : ∃ (f : Addr) (fd : FuncData), FnOk P w K mg base L2.CX0 1 f fd ["self", par] (spInit C fld) ∧ PySem.W.findIn K (.ref C) "__init__" = some (some (.ref f)) ∧ PySem.W.typeIn K (.ref f) = some (.type "function") ∧ Binds K fd ["self", par] []
  no : PySem.W.findIn K (.ref C) fld = some none
  te : PySem.W.exmOne K (.ref C) (.ref C) = some true
  xf : XfC K C
theorem spInit_of {C a : Addr} {fld : Str} {v : V} {H1 : Hp} {Q : XK} {E : XK} (na : H1 a = none) (q : ∀ d, H1 d = none → Q (.ref C) (some d) (upd H1 d (.xd [(fld, v)]))) :
    spInit C fld [.ref a, v] (upd H1 a (exo a C none)) (fun v H2 => v = .non ∧ ∃ (d : Addr) (fs : List (Str × V)), H2 a = some (exo a C (some d)) ∧ H2 d = some (exd d fs) ∧ H1 d = none ∧ Q (.ref C) (some d) (upd (del H2 a) d (.xd fs))) E := by
  refine ⟨a, v, rfl, upd_same, fun dx ndx nda => ?_⟩
  rw [upd_ne nda] at ndx
  refine ⟨rfl, dx, [(fld, v)], upd_same, ?_, ndx, ?_⟩
  · rw [upd_ne nda, upd_same]
  · have e : upd (del (upd (upd (upd H1 a (exo a C none)) dx (exd dx [(fld, v)])) a (exo a C (some dx))) a) dx (.xd [(fld, v)]) = upd H1 dx (.xd [(fld, v)]) := by
      funext b
      by_cases hb : b = dx
      · rw [hb, upd_same, upd_same]
      · rw [upd_ne hb, upd_ne hb]
        by_cases ha : b = a
        · rw [ha, del_same, na]
        · rw [del_ne ha, upd_ne ha, upd_ne hb, upd_ne ha]
    rw [e]
    exact q dx ndx
/-- X(e), raised -/
def tRz (C : Addr) (fld : Str) (te : TE) : L2.St → Hp → XK → Prop := fun σ H Q => te σ H fun v H1 => ∀ d, H1 d = none → Q (.ref C) (some d) (upd H1 d (.xd [(fld, v)]))
section
variable {X : Cx} {x par fld : Str} {C : Addr} {j : Nat} {e : Expr} {te : TE} {p pos : Pos}
theorem pmk_own (T : Xown X.prog X.w X.K X.mg X.base x par fld C) (hr : Room j X.A) (hk : 2 ≤ j) (hg : Gl X x) (he : PE X e te) (hdb : (x == ("__debug__" : Str)) = false := by decide)
    (h1 : starEach [e] X.env = (false, eval e X.env) :: starEach [] X.env := by rfl) (hpl : (backTo pos (starEach [] X.env)).any (·.1) = false := by rfl) : PMk X (.Call (.Name x p) [e] [] pos) (tRz C fld te) := by
  obtain ⟨f, fd, F, i1, i2, b⟩ := T.ini
  intro pins s σ H Q I h
  refine pmk_oex (CX := L2.CX0) T.oex i1 i2 F (hr.mono hk) b .nil (fun _ _ _ _ _ _ _ h => h.elim) hg T.g (pa_cons (pe_mid he) pa_nil (hs := h1)) hdb h1 hpl pins s σ H Q I ?_
  exact ⟨_, h, fun v H1 q => ⟨by show 1 ≤ 1000; decide, fun a na => spInit_of na q⟩⟩
theorem ps_raiseOwn {W : WX} {rp : Pos} (T : Xown X.prog X.w X.K X.mg X.base x par fld C) (hc : X.calm = true) (tk : Takes X W) (hr : Room j X.A) (hk : 2 ≤ j) (hg : Gl X x) (he : PE X e te) (hdb : (x == ("__debug__" : Str)) = false := by decide)
    (h1 : starEach [e] X.env = (false, eval e X.env) :: starEach [] X.env := by rfl) (hpl : (backTo pos (starEach [] X.env)).any (·.1) = false := by rfl) :
    PS X (.Raise (some (.Call (.Name x p) [e] [] pos)) none rp) (fun _ σ H => tRz C fld te σ H fun cls d H' => W cls d σ H') := ps_raise hc tk (pmk_own T hr hk hg he hdb h1 hpl)
end
/-- a def that may raise -/
structure DfX (P : Program) (w : World) (K : PySem.W.Frag) (mg : Str → Option Value) (base : Heap) (k : Nat) (x : Str) (ps : List Str) (sp : Sp) : Prop where
  ex : ∃ (f : Addr) (fd : FuncData), FnOk P w K mg base (L2.CX P w) k f fd ps sp ∧ mg x = some (.ref f) ∧ PySem.W.keepIn K (.ref f) = true ∧ Binds K fd ps []
section
variable {X : Cx} {k j : Nat} {x : Str} {ps : List Str} {sp : Sp} {p pos : Pos} {e : Expr} {es : List Expr} {t : TA}
theorem pe_dx {W : WX} (D : DfX X.prog X.w X.K X.mg X.base k x ps sp) (tk : Takes X W) (hr : Room j X.A) (hk : k ≤ j) (hg : Gl X x) (ha : PA X (e :: es) t)
    (hdb : (x == ("__debug__" : Str)) = false := by decide) (he : starEach (e :: es) X.env = (false, eval e X.env) :: starEach es X.env := by rfl)
    (hpl : (backTo pos (starEach es X.env)).any (·.1) = false := by rfl) : PE X (.Call (.Name x p) (e :: es) [] pos) (tCallS sp (WE W) t) := by
  obtain ⟨f, fd, F, m, kp, b⟩ := D.ex
  exact pe_callS (F.mono hk) hr hg m kp b (fun σ => passAt tk σ) ha hdb he hpl
end
end Gk
/-! An own exception's facts, from what is written. -/
namespace Gk
open PySem PySem.Spec PyProof.Rows L2
/-- an error of a class is what the class names -/
theorem exm_same {K : PySem.W.Frag} {S : Addr} (h1 : PySem.W.subIn K (.ref S) (.type "BaseException") = some true) (h2 : PySem.W.isClsIn K S = true) (h3 : PySem.W.typeIn K (.ref S) = some (.type "type")) (h4 : PySem.W.subIn K (.ref S) (.ref S) = some true) :
    PySem.W.exmOne K (.ref S) (.ref S) = some true := by
  have e1 : (PySem.W.subIn K (.ref S) (.type "BaseException") == some true) = true := by rw [h1] <;> rfl
  have e2 : ((PySem.W.clsIn K S).isSome && PySem.W.typeIn K (.ref S) == some (.type "type")) = true := by
    have h2' : (PySem.W.clsIn K S).isSome = true := h2
    rw [h2', h3] <;> rfl
  show (if (PySem.W.subIn K (.ref S) (.type "BaseException") == some true) = true then (if ((PySem.W.clsIn K S).isSome && PySem.W.typeIn K (.ref S) == some (.type "type")) = true then PySem.W.subIn K (.ref S) (.ref S) else none) else none) = some true
  rw [if_pos e1, if_pos e2]
  exact h4
section
variable {P : Program} {w : World} {K : PySem.W.Frag} {mg : Str → Option Value} {base : Heap} {C f cc cda N : Addr} {x par fld qual txt nm q file : Str} {st : Stmt} {k : Nat} {p0 p1 p2 p3 p4 pos q1 q2 q3 q4 : Pos}
variable {bs bm sub : List Value} {sn : List Str} {ab : Bool} {col : Option Bool} {dd od an cdd cld : Option Addr} {m0 m1 m2 m3 m5 : Option Value} {oc kV doc pm ct ccl cl : Value} {osl ccs csl : Array (Option Value)} {vs : Array Value} {tf : Tok}
theorem own_of (S : EScope ["self", par] (defScope st))
    (hbody : defBody st = [.Expr (.Call (.Attribute (.Call (.Name "super" p0) [] [] p1) "__init__" p2) [.Constant (.str txt) k p3] [] p4) pos, .Assign [.Attribute (.Name "self" q1) fld q2] (.Name par q3) q4])
    (hpar : ((defArgs st).posonlyargs ++ (defArgs st).args).head?.map (·.arg) = some "self")
    (hbind : ∀ (kV doc pm : Value) (an : Option Addr) (cdv ct : Value) (cc : Addr) (us : List Value), us.length = 2 → bindArgs (PySem.W.ksFn "__init__" qual (defArgs st) (defBody st) (defScope st) .none kV doc pm an cdv ct cc) ⟨us, []⟩ = pure ((["self", par] : List Str).zip us))
    {pl : Addr → Sem Bool}
    (he : ∀ L, eval (.Call (.Attribute (.Call (.Name "super" p0) [] [] p1) "__init__" p2) [.Constant (.str txt) k p3] [] p4) (PySem.W.ksEnv qual (defScope st) L f (.ref cda) cc) = (do
      let ov ← attributeBase (.Call (.Name "super" p0) [] [] p1) "__init__" (PySem.W.ksEnv qual (defScope st) L f (.ref cda) cc) (eval (.Call (.Name "super" p0) [] [] p1) (PySem.W.ksEnv qual (defScope st) L f (.ref cda) cc))
      standAt p2.atName
      let (f', first) ← holding [ov] (getMethod ov "__init__" (pl L))
      callWith p4 f' first (backTo p4 (starEach [.Constant (.str txt) k p3] (PySem.W.ksEnv qual (defScope st) L f (.ref cda) cc))) []))
    (hsw : ∀ L, swapsWith (.Name par q3) (some (.Attribute (.Name "self" q1) fld q2)) q4.line (PySem.W.ksEnv qual (defScope st) L f (.ref cda) cc) = pure false)
    (hp : (("self" : Str) == par) = false) (hd1 : (par == ("__debug__" : Str)) = false) (hd2 : (par == ("__classdict__" : Str)) = false)
    (g : mg x = some (.ref C)) (hsup : mg "super" = none)
    (xl : K.lookup C = some (excClassObj nm q C N bs bm true sn sub ab col dd m0 m1 m2 m3 m5 "ValueError.__new__")) (hbm : PySem.HandSPX.refsVE bm = true)
    (sa : PySem.W.findIn K (.ref C) "__setattr__" = some (some (.builtin "object.__setattr__"))) (ga : PySem.W.findIn K (.ref C) "__getattribute__" = some (some (.builtin "BaseException.__getattribute__"))) (gg : PySem.W.findIn K (.ref C) "__getattr__" = some none) (no : PySem.W.findIn K (.ref C) fld = some none)
    (iC : PySem.W.findIn K (.ref C) "__init__" = some (some (.ref f))) (tI : PySem.W.typeIn K (.ref f) = some (.type "function"))
    (xli : K.lookup f = some ⟨oc, od, .func (PySem.W.ksFn "__init__" qual (defArgs st) (defBody st) (defScope st) .none kV doc pm an (.ref cda) ct cc), osl⟩) (co : PySem.W.codeIn K (.ref cda) qual = true)
    (xcx : K.lookup cda = some ⟨ccl, cdd, .fields vs, ccs⟩) (xvx : vs[2]? = some (.str file tf)) (xfi : ((P.main.file : Str) == file) = true) (xto : (P.main.scope.names.lookup ("super" : Str)).isSome = false)
    (xce : K.lookup cc = some ⟨cl, cld, .cell (some (.ref C)), csl⟩) (xsu : PySem.W.ks_superIn K C C "__init__" = some (some (.builtin "ValueError.__init__"))) (xse : PySem.W.mroIn K C (.ref C) = some true) (xve : PySem.W.subIn K (.ref C) (.type "ValueError") = some true)
    (xan : PySem.W.nsIn K cStatics "thirdparty.any" = some none) (xkf : PySem.W.keepIn K (.ref f) = true) (xkC : PySem.W.keepIn K (.ref C) = true) (xeC : PySem.W.subIn K (.ref C) (.type "BaseException") = some true) (xtC : PySem.W.typeIn K (.ref C) = some (.type "type")) (xhC : PySem.W.hasDictIn K C = true)
    (xic : PySem.W.isClsIn K C = true) (xsC : PySem.W.subIn K (.ref C) (.ref C) = some true) : Xown P w K mg base x par fld C := by
  have oex : OexC K C := ⟨⟨nm, q, N, bs, bm, sn, sub, ab, col, dd, m0, m1, m2, m3, m5, xl, hbm⟩, sa, xeC, xtC, xkC⟩
  have T : EInit P K C f cc (PySem.W.ksFn "__init__" qual (defArgs st) (defBody st) (defScope st) .none kV doc pm an (.ref cda) ct cc) qual (defArgs st) (defBody st) (defScope st) cda :=
    ⟨oex, ⟨oc, od, osl, kV, doc, pm, an, ct, xli, rfl⟩, co, ⟨ccl, cdd, vs, ccs, file, tf, xcx, xvx, xfi⟩, xto, ⟨cl, cld, csl, xce⟩, xsu, xse, xve, xan, iC, tI, xkf⟩
  refine ⟨g, oex, ⟨f, _, ?_, iC, tI, .all fun us hl => hbind kV doc pm an (.ref cda) ct cc us hl⟩, no, exm_same xeC xic xtC xsC, ⟨ga, gg, xeC, xhC⟩⟩
  rw [hbody] at T
  rw [hbody]
  exact init_ok (w := w) (mg := mg) (base := base) T S hp no hd1 hd2 hsup hpar he (fun L => by
    have e : (PySem.W.ksEnv qual (defScope st) L f (.ref cda) cc).scope.kind = .function := S.kind
    unfold interactive
    rw [e]
    rfl) hsw
end
end Gk
/-! An own exception that is kept behind the suite that caught it. -/
namespace Gk
open PySem PySem.Spec PyProof.Rows L2
/-- a caught exception, held as a value -/
def exk (a : Addr) (cls : Value) (d : Option Addr) : HO := .ext fun h => ∃ oe vs, h.get? a = some oe ∧ Zc cls d oe ∧ oe.data = .fields vs
theorem exk_ok {P : Program} {w : World} {H : Hp} {h : Heap} {a : Addr} {cls : Value} {d : Option Addr} {oe : Obj} {vs : Array Value} (e : h.get? a = some oe) (z : Zc cls d oe) (v : oe.data = .fields vs) : ObjOk P w H h a (exk a cls d) :=
  ⟨⟨oe, vs, e, z, v⟩, ⟨oe, e⟩, fun _ _ ⟨o, us, e1, z1, v1⟩ k => ⟨o, us, k _ e1, z1, v1⟩⟩
theorem exk_at {P : Program} {w : World} {H : Hp} {h : Heap} {a : Addr} {cls : Value} {d : Option Addr} (x : HOk P w H h) (e : H a = some (exk a cls d)) : ∃ oe vs, h.get? a = some oe ∧ Zc cls d oe ∧ oe.data = .fields vs := (x a _ e).1
section
variable {X : Cx} {pins : List (Addr × Obj)} {σ : L2.St} {H : Hp} {s : Shared}
/-- an object of ours that was not told of is told of from here on -/
theorem adopt {a : Addr} {oe : Obj} {vs : Array Value} {o : HO} (I : Inv X pins σ H s) (ha : s.heap.get? a = some oe) (hd : oe.data = .fields vs) (na : H a = none) (nL : a ≠ X.env.locals) (np : ∀ p ∈ X.pn ++ pins, p.1 ≠ a) (n0 : ∀ u, X.s_0.heap.get? a = some u → a ∉ X.ex → False)
    (new : ObjOk X.prog X.w (upd H a o) s.heap a o) : Inv X pins σ (upd H a o) s := by
  have far : ∀ {b : Addr} {u : HO}, H b = some u → (upd H a o) b = some u := fun {b u} e => by
    rw [upd_ne (fun z => by rw [z, na] at e; cases e)]
    exact e
  refine ⟨I.ok, I.os, I.bare, ⟨I.base.keep, I.base.slot, fun b u e n x => ?_, I.base.there, fun b xs e => far (I.base.tups b xs e), fun b p u e => far (I.base.frzs b p u e), fun b ps e => ?_⟩, I.loc, I.cell, ?_, fun x c e => ?_, fun p hp => ?_, I.hok.laidN (fun _ _ q => q) na new, I.len⟩
  · have : b ≠ a := fun z => by rw [z] at e x; exact n0 u e x
    rw [upd_ne this]
    exact I.base.free b u e n x
  · obtain ⟨more, g⟩ := I.base.tbls b ps e
    exact ⟨more, far g⟩
  · rw [upd_ne (Ne.symm nL)]
    exact I.free
  · have : c ≠ a := fun z => by
      obtain ⟨v, oc, e1, e2⟩ := I.cell x c e
      rw [z, ha] at e1
      cases e1
      rw [hd] at e2
      cases e2
    rw [upd_ne this]
    exact I.freeC x c e
  · obtain ⟨h1, h2, h3⟩ := I.pin p hp
    rw [upd_ne (np p hp)]
    exact ⟨h1, h2, h3⟩
end
/-- the wish of «except c as n» where the clause's suite keeps the exception: it always answers -/
def wKeep (K : PySem.W.Frag) (c : Value) (i : Nat) (ts : Addr → Value → Option Addr → TS) (D : Ends) : WX := fun cls d σ H =>
  PySem.W.exmOne K cls c = some true ∧ ∀ a, H a = none → ts a cls d { nx := fun σ' H' => H' a = none → D.nx (σ'.set i none) (upd H' a (exk a cls d)), rt := fun _ _ => False, bk := fun _ _ => False, ct := fun _ _ => False } (σ.set i (some (.ref a))) H
section
variable {X : Cx} {x n : Str} {c : Value} {i : Nat} {body suite : List Stmt} {b₀ : Stmt} {np pos pos' : Pos} {tb : WX → TS} {ts : Addr → Value → Option Addr → TS}
theorem ps_try_keep (hs : X.stack = X.env :: X.outer) (hf : X.env.frame = some X.env.locals) (hN : X.N.Nodup) (hi : X.N[i]? = some n) (hln : X.env.kindOf n = some .local) (hc : Names X x c)
    (hb : ∀ (W : WX) (pn : List (Addr × Obj)) (xe : Value → Shared → Prop), Takes (X.tr pn xe) W → PassesOwn (model X.prog X.w) X.A X.env xe → PSs (X.tr pn xe) body (tb W))
    (hsu : ∀ (a : Addr) (oe : Obj) (cls : Value) (d : Option Addr) (pn : List (Addr × Obj)), Zc cls d oe → (∃ vs, oe.data = .fields vs) → PSs (X.suite a ((a, oe) :: pn)) (b₀ :: suite) (ts a cls d)) :
    PS X (.Try body [.ExceptHandler (some (.Name x np)) (some n) (b₀ :: suite) pos'] [] [] pos) (fun D σ H => tb (wKeep X.K c i ts D) D σ H) := by
  refine ⟨fun pins s σ H D I h => wpAny_Try_except (wpAny_mono ((hb (wKeep X.K c i ts D) (X.pn ++ pins) _ ?_ PassesOwn.looking).run [] s σ H D (I.toTry _) h) ?_ fun _ _ z => z)⟩
  · intro u s' xx
    obtain ⟨a, B, sI, ps, σ1, H1, cls, d, eu, J0, ground, up, sky, na, hos, hag, match_, wish⟩ := xx
    subst eu
    have ok := I.ok
    have J := J0.ofTry (pins := pins) ok
    have fr : X.A.frames = some (X.env :: X.outer) := by rw [ok.frames, hs]
    have sky1 : Sky B (X.env :: X.outer) a (Zc cls d) X.env.locals s'.heap := hs ▸ sky
    refine Sky.land Zc.steady fr hf sky1 fun g fl ug => ?_
    have Jg : Inv X pins σ1 H1 { s' with heap := g } := J.landed ground fl.1 (up.trans ug) hos hag
    obtain ⟨og, vg, eg, zg, dg⟩ := fl.there
    -- a is no frame, and nothing that stood before
    have far : a ∉ frs (X.env :: X.outer) := fun m => by
      obtain ⟨_, o', e', nf⟩ := fl.2.2.1.mem m
      rw [eg] at e'
      cases e'
      exact nf _ dg
    have frsE : frs (X.env :: X.outer) = X.env.locals :: X.fs := by
      show List.filterMap _ _ = _
      rw [List.filterMap_cons, hf]
      rfl
    have nL : a ≠ X.env.locals := fun z => far (by rw [frsE, z]; exact List.mem_cons_self)
    have nF : a ∉ X.fs := fun m => far (by rw [frsE]; exact List.mem_cons_of_mem _ m)
    have noB : ∀ o, B.get? a = some o → False := fun o e => by rw [fl.2.1] at e; cases e
    have none0 : ∀ o, sI.heap.get? a = some o → False := fun o e => noB o (ground a o e (by rw [show X.stack = X.env :: X.outer from hs] at *; exact far))
    have npn : ∀ p ∈ X.pn ++ pins, p.1 ≠ a := fun p hp z => by
      have q := (J.pin p hp).1
      rw [z] at q
      exact none0 _ q
    have n0 : ∀ o, X.s_0.heap.get? a = some o → a ∉ X.ex → False := fun o e nx => by
      obtain ⟨o', e'⟩ := J.base.there a o e nx
      exact none0 o' e'
    refine PySem.W.exc_clause_as ?_
    have Sg := Jg.suite eg dg na nL nF
    have same : ∀ {Q : Value → Shared → Prop} {E : Value → Shared → Prop}, Q c { s' with heap := g } → wpAny (model X.prog X.w) (X.A.mark (some (.ref a))) (eval (.Name x np) X.env) Q E { s' with heap := g } := fun {Q E} q => by
      rcases hc with ⟨g1, g2, g3 | ⟨g3, g4, g5⟩⟩
      · exact ld_glob (X := X.suite a ((a, og) :: (X.pn ++ pins))) Sg g1 g3 q g2
      · exact ld_blt (X := X.suite a ((a, og) :: (X.pn ++ pins))) Sg g1 g3 g4 q g5 g2
    refine same ⟨true, PySem.W.exm_one (M := model X.prog X.w) Jg.kIn (fun A Q E s k q => wpAny_typeOf_ref (k _ _ eg) (by rw [zg.1]; exact q)) match_, ?_⟩
    show wpAny _ _ (setFlight (.ref a) none) _ _ _
    refine HandSPX.lands_againZ fl fun g2 fl2 ug2 => ?_
    have J2 : Inv X pins σ1 H1 { s' with heap := g2 } := J.landed ground fl2.1 ((up.trans ug).trans ug2) hos hag
    obtain ⟨o2, v2, e2, z2, d2⟩ := fl2.there
    refine store_ok (X := X.suite a ((a, o2) :: (X.pn ++ pins))) (v := .ref a) (J2.suite e2 d2 na nL nF) hN hi (.inl hln) rfl (fun s3 S3 => ?_) (.inr hln)
    refine wpAny_mono ((hsu a o2 cls d (X.pn ++ pins) z2 ⟨_, d2⟩).run [] s3 _ H1 _ S3 (wish a na)) (fun f s4 q4 => ?_) (fun _ _ z => False.elim z)
    cases f with
    | next =>
      obtain ⟨σ4, H4, S4, q4⟩ := q4
      obtain ⟨p1, p2, _⟩ := S4.pin (a, o2) (List.mem_append_left _ List.mem_cons_self)
      have J4 := S4.unsuite (pins := pins) ok
      exact gone_ok (adopt J4 p1 d2 p2 nL npn n0 (exk_ok p1 z2 d2)) hN hi hln fun s5 J5 => ⟨_, _, J5, q4 p2⟩
    | brk => obtain ⟨_, _, _, z⟩ := q4; exact False.elim z
    | cont => obtain ⟨_, _, _, z⟩ := q4; exact False.elim z
    | ret u => obtain ⟨_, _, _, _, _, z⟩ := q4; exact False.elim z
  · intro f s1 q
    have ok := I.ok
    cases f with
    | next => obtain ⟨σ1, H1, J, z⟩ := q; exact wpAny_execs_nil ⟨σ1, H1, J.ofTry ok, z⟩
    | brk => obtain ⟨σ1, H1, J, z⟩ := q; exact ⟨σ1, H1, J.ofTry ok, z⟩
    | cont => obtain ⟨σ1, H1, J, z⟩ := q; exact ⟨σ1, H1, J.ofTry ok, z⟩
    | ret u => obtain ⟨v, σ1, H1, J, r, z⟩ := q; exact ⟨v, σ1, H1, J.ofTry ok, r, z⟩
end
end Gk
/-! What is asked of a kept exception: its kind, its value. -/
namespace Gk
open PySem PySem.Spec PyProof.Rows L2
/-- the exception at a: of the class at D, with what it keeps -/
def Kept (H : Hp) (a D : Addr) (fs : List (Str × V)) : Prop := ∃ d, H a = some (exk a (.ref D) (some d)) ∧ H d = some (.xd fs)
theorem Kept.same {H H' : Hp} {a D : Addr} {fs : List (Str × V)} (h : Kept H a D fs) (s : ∀ b o, H b = some o → H' b = some o) : Kept H' a D fs := by
  obtain ⟨d, h1, h2⟩ := h
  exact ⟨d, s _ _ h1, s _ _ h2⟩
section
variable {X : Cx} {pins : List (Addr × Obj)} {σ : L2.St} {H : Hp} {s : Shared}
/-- what stands there -/
theorem kept_at {a D : Addr} {fs : List (Str × V)} (I : Inv X pins σ H s) (k : Kept H a D fs) : ∃ (oe od : Obj), PySem.W.InstAt s.heap a oe D (some od) ∧ ∀ (n : Str) (v : V), fs.lookup n = some v → ∃ u, PySem.W.lookIn n od = some (some u) ∧ RelV v u := by
  obtain ⟨d, h1, h2⟩ := k
  obtain ⟨oe, vs, e, z, v⟩ := exk_at I.hok h1
  have hd : ObjOk X.prog X.w H s.heap d (.xd fs) := I.hok d _ h2
  obtain ⟨m, ns, rel⟩ := hd
  obtain ⟨od, eo, lo⟩ := lookIn_ns ns
  refine ⟨oe, od, ⟨e, z.1, by unfold PySem.W.notCls; rw [v] <;> rfl, by rw [z.2]; exact eo⟩, fun n x hx => ?_⟩
  have g := rel n
  rw [hx] at g
  obtain ⟨u, hu, ru⟩ := RelO.some_of g
  exact ⟨u, by rw [lo, hu], ru⟩
end
/-- isinstance(e, c) of a kept exception -/
def rIsK (K : PySem.W.Frag) : List V → Hp → VK → Prop := fun xs H Q => ∃ (a D : Addr) (fs : List (Str × V)) (c : V) (cv : Value) (b : Bool), xs = [.ref a, c] ∧ Kept H a D fs ∧ ExcC K D ∧ (∀ u, RelV c u → u = cv) ∧ PySem.W.kitOne K (.ref D) cv = some b ∧ Q (.bl b) H
theorem call_isK {X : Cx} : CallR X (.builtin "isinstance") (rIsK X.K) := by
  intro pins s σ H xs us Q I r h
  obtain ⟨a, D, fs, c, cv, b, rfl, k, C, hcv, e, q⟩ := h
  rcases r with _ | ⟨ra, _ | ⟨rc, _ | _⟩⟩
  obtain ⟨oe, od, J, _⟩ := kept_at I k
  obtain ⟨cd, hcl, _⟩ := PySem.W.any_some C.hd
  cases ra
  obtain rfl := hcv _ rc
  exact PySem.W.kia_one (PySem.W.kitx_exc (by rw [hcl]; rfl) C.hg C.hk C.hs C.ha C.hn C.ht C.hm) I.kIn J e (fun z => nomatch z) fun tk => ⟨.bl b, H, I.kept (t' := tk) fun _ _ z => z, rfl, q⟩
/-- e.n of a kept exception -/
def tXk (K : PySem.W.Frag) (n : Str) (te : TE) : TE := fun σ H Q => te σ H fun x H1 => ∃ (a D : Addr) (fs : List (Str × V)) (v : V), x = .ref a ∧ Kept H1 a D fs ∧ XfC K D ∧ PySem.W.findIn K (.ref D) n = some none ∧ fs.lookup n = some v ∧ Q v H1
theorem pe_xk {X : Cx} {e : Expr} {te : TE} {pos : Pos} {n : Str} (he : PE X e te) (hb : attributeBase e n X.env (eval e X.env) = eval e X.env := by rfl) : PE X (.Attribute e n pos) (tXk X.K n te) := by
  refine ⟨fun pins s σ H Q I h => attr_of hb (thn (he.run pins s σ H _ I h) fun u s1 ⟨x, H1, I1, rx, a, D, fs, v, ex, k, T, no, l, q⟩ => ?_)⟩
  subst ex
  cases rx
  obtain ⟨oe, od, J, own⟩ := kept_at I1 k
  obtain ⟨y, hy, ry⟩ := own n v l
  exact HandSPX.exc_get I1.kIn J T.ga T.gg T.exC (PySem.W.findObj_own T.hdC no rfl hy) (handed_of ry) ⟨v, H1, I1.tok _, ry, q⟩
end Gk
namespace Pf
open PySem PySem.Spec PyProof.Rows L2 Gk
/-- whether data is a branch of the trace -/
def isHome (l : List (Int × Int)) : PyData → Bool
  | .int b => l.any fun x => decide (x.1 = b)
  | _ => false
theorem isHome_ex {l : List (Int × Int)} {d : PyData} (h : isHome l d = true) : ∃ b, d = .int b ∧ ∃ x ∈ l, x.1 = b := by
  cases d with
  | int b =>
    obtain ⟨x, hx, e⟩ := List.any_eq_true.mp h
    exact ⟨b, rfl, x, hx, of_decide_eq_true e⟩
  | _ => exact absurd h Bool.false_ne_true
theorem home_in {l : List (Int × Int)} {bs : List Int} (mem : ∀ k, k ∈ bs ↔ ∃ x ∈ l, x.1 = k) {d : PyData} (nb : isBo d = false) : (bs.any fun z => isNum z d) = isHome l d := by
  have none : (∀ z, isNum z d = false) → (bs.any fun z => isNum z d) = false := fun h => by
    rw [Bool.eq_false_iff]
    intro c
    obtain ⟨z, _, e⟩ := List.any_eq_true.mp c
    rw [h z] at e
    exact absurd e Bool.false_ne_true
  cases d with
  | int b =>
    rw [Bool.eq_iff_iff]
    constructor
    · intro h
      obtain ⟨z, hz, e⟩ := List.any_eq_true.mp h
      have e : z = b := eq_of_beq (show (z == b) = true from e)
      obtain ⟨x, hx, ex⟩ := (mem z).mp hz
      exact List.any_eq_true.mpr ⟨x, hx, decide_eq_true (by rw [ex, e])⟩
    · intro h
      obtain ⟨x, hx, ex⟩ := List.any_eq_true.mp h
      exact List.any_eq_true.mpr ⟨b, (mem b).mpr ⟨x, hx, of_decide_eq_true ex⟩, beq_self_eq_true b⟩
  | bool b => exact Bool.noConfusion (show true = false from nb)
  | _ => exact none fun _ => rfl
section
variable {P : Program} {w : World} {K : PySem.W.Frag} {mg : Str → Option Value} {base : Heap}
/-- the outcomes of a branch of the trace, for any value; NoBranch for what is none -/
def spOutsX (K : PySem.W.Frag) (C : Addr) : Sp := fun vs H Q E => ∃ (M : Addr → Prop) (t : Addr) (l : List (Int × Int)) (v : V) (d : PyData), vs = [.ref t, v] ∧ PairsAt K H t l ∧ Fair l ∧ l.length ≤ 64 ∧ Dv M K H v d ∧
  (∀ b, d = .int b → isHome l d = true → ∀ H' p, Same H H' → SqT K H' p ((outs b l).map V.int) → Q (.ref p) H') ∧
  (isHome l d = false → ∀ H' e, Same H H' → H' e = some (.xd [(("value" : Str), v)]) → E (.ref C) (some e) H')
theorem ok_outsX {f C : Addr} {fd : FuncData} (T : Xown P w K mg base "NoBranch" "value" "value" C) (DB : Dfn P w K mg base 1 "branches" ["trace"] (spBrs K)) (mi : mg "isinstance" = none) (mb : mg "bool" = none) (mt : mg "tuple" = none) (F : L2.Fun K "outcomes_of" "outcomes_of" sOuts f fd) :
    FnOk P w K mg base (L2.CX P w) 3 f fd ["trace", "branch"] (spOutsX K C) := by
  refine F.okX scOuts (fun vs H Q E h => ?_) (fun cdv A outer s H vs Q E hr h => ?_)
  · obtain ⟨M, t, l, v, d, rfl, _⟩ := h
    rfl
  · obtain ⟨M, t, l, v, d, rfl, hl, fair, l64, dv, q, qe⟩ := h
    obtain ⟨xs, sq, hA, len⟩ := PairsAt.out hl
    refine ⟨_, pss_cons (ps_if (PW.pt (pw_or (pt_val (pe_isi (by rfl) mi (pv 1) (by rfl) mb bool_is)) (pw_or1 (pt_cmpR (op_notInNum (Nat.lt_of_le_of_lt (Nat.add_le_add_left (by decide : 1 ≤ 64) _) hr.units)) (pv 1) (pe_d DB hr (by decide) (by rfl) (pa_cons (pv 0) pa_nil)) (by rfl)))))
        (pss_one (ps_raiseOwn T rfl (takes_of rfl rfl rfl rfl) hr (by decide) (by rfl) (pv 1))) pss_nil)
      (pss_one (ps_ret (pe_callTy call_tuple_of (by rfl) mt (by decide +kernel) (pa_cons (pe_lc (own := [("other", 3), ("outcome", 2)]) (g := gTup K 2 (gCons (gName 3) (gCons (gName 2) gNil))) (by rfl) scOuts.nd (pi_tup (pv 0))
        (blkOk_by (N := nOuts) (sc := defScope sOuts) (by decide +kernel)) (fun _ _ _ _ _ => pg_tup rfl (pgs_cons (pg_name (i := 3) scOuts.nd rfl (.inl rfl)) (pgs_cons (pg_name (i := 2) scOuts.nd rfl (.inl rfl)) pgs_nil)))
        (fun _ _ _ _ _ => pts_one (pt_cmpR op_eq (pv 3) (pv 1) (nomark _))) (fun _ _ _ _ _ => pv 2)) pa_nil)))), ?_⟩
    have raised : ∀ H1, Same H H1 → isHome l d = false → ∀ e, H1 e = none → E (.ref C) (some e) (upd H1 e (.xd [(("value" : Str), v)])) := fun H1 s1 no e ne => qe no _ _ (s1.trans (same_new ne)) upd_same
    refine ⟨v, rfl, v, .ty "bool", tyD d, .type "bool", _, rfl, .ty "bool", dv.ty, kit_bool d, _, rfl, ite2 (fun c => ?_) (fun c => ?_)⟩
    · have no : isHome l d = false := by
        cases d with
        | bool _ => rfl
        | _ => exact absurd (show false = true from c) Bool.false_ne_true
      exact ⟨v, rfl, fun e ne => raised H (Same.refl H) no e ne⟩
    · have nb : isBo d = false := by
        cases e : isBo d with
        | true => exact absurd e c
        | false => rfl
      refine ⟨v, rfl, .ref t, rfl, t, l, rfl, hl, fair, fun H1 p bs s1 t1 pw mem => ⟨M, d, p, bs, dv.off (Off.same s1), rfl, t1, _, rfl, ?_⟩⟩
      rw [home_in mem nb]
      refine ite2 (fun z => ?_) (fun z => ?_)
      · have no : isHome l d = false := by simpa using z
        exact ⟨v, rfl, fun e ne => raised H1 s1 no e ne⟩
      · have yes : isHome l d = true := by simpa using z
        obtain ⟨b, rfl, has⟩ := isHome_ex yes
        cases dv
        have sq1 := Same.seqT s1 sq
        have hA1 := pairs_keep hA (Same.keep s1)
        refine ⟨.ref t, rfl, t, rfl, ⟨_, sq1⟩, fun D nD => lc_tup (K := K) (a := t) (xs := xs) (fun i H' => Same H1 H' ∧ H' D = some (.lst ((outs b (l.take i)).map V.int))) ⟨same_new nD, upd_same⟩ (fun i H' _ hp => Same.seqT hp.1 sq1) (fun i x H4 hx hp => ?_) (fun H4 hp => ?_)⟩
        · obtain ⟨sm, hD⟩ := hp
          obtain ⟨y, a, hy, rfl, sa⟩ := pd_at hA1 hx
          have et := outs_take (b := b) hy
          refine ⟨a, _, rfl, Same.seqT sm sa, rfl, _, _, rfl, _, _, rfl, rfl, rfl, .int y.1, rfl, .int b, rfl, rfl, _, rfl, ite2 (fun e => ?_) (fun e => ?_)⟩
          · have e1 : V.int y.1 = V.int b := of_decide_eq_true e
            injection e1 with e1
            refine ⟨.int y.2, rfl, _, hD, ?_, ?_, ?_⟩
            · have h1 := outs_len b (l.take i)
              rw [List.length_take] at h1
              rw [List.length_map]
              exact small1000 (by omega)
            · intro c o h
              rw [upd_ne (ne_of_none h nD)]
              exact sm c o h
            · rw [upd_same, et, if_pos e1, List.map_append]
              rfl
          · have e1 : y.1 ≠ b := fun z => e (decide_eq_true (by rw [z]))
            refine ⟨sm, ?_⟩
            rw [hD, et, if_neg e1, List.append_nil]
        · obtain ⟨sm, hD⟩ := hp
          rw [len, List.take_length] at hD
          exact ⟨D, _, rfl, .inl ⟨.inl (.inl hD), fun p2 np2 => q b rfl yes _ p2 ((s1.trans sm).trans (same_new np2)) (.inl (.inl upd_same))⟩⟩
abbrev sRef : Stmt := topS 17
abbrev nRef : List Str := ["_law_loop_here", "_law_thing", "_law_caught", "error"]
theorem scRef : FnScope nRef ["_law_loop_here", "_law_thing"] (defScope sRef) := ⟨rfl, rfl, rfl, by decide +kernel, rfl, by decide +kernel, by decide +kernel⟩
/-- what comes of a value in the place of a branch -/
def spRef (K : PySem.W.Frag) : Sp := fun vs H Q _ => ∃ (M : Addr → Prop) (t : Addr) (l : List (Int × Int)) (v : V) (d : PyData), vs = [.ref t, v] ∧ PairsAt K H t l ∧ Fair l ∧ l.length ≤ 64 ∧ Dv M K H v d ∧
  (∀ b, d = .int b → isHome l d = true → ∀ H' p, Same H H' → SqT K H' p ((outs b l).map V.int) → Q (.ref p) H') ∧
  (isHome l d = false → ∀ H' p, Same H H' → H p = none → (p == sysModules) = false → H' p = some (.lst [v]) → Q (.ref p) H')
theorem ok_ref {f C CB CP : Addr} {fd : FuncData} (T : Xown P w K mg base "NoBranch" "value" "value" C) (gB : mg "BadBranch" = some (.ref CB)) (gP : mg "PastError" = some (.ref CP)) (mV : mg "ValueError" = none) (mi : mg "isinstance" = none) (ex : ExcC K C)
    (eP : PySem.W.exmOne K (.ref C) (.ref CP) = some true) (kC : PySem.W.kitOne K (.ref C) (.ref C) = some true) (kB : PySem.W.kitOne K (.ref C) (.ref CB) = some false) (kV : PySem.W.kitOne K (.ref C) (.type "ValueError") = some true)
    (DO : DfX P w K mg base 3 "outcomes_of" ["trace", "branch"] (spOutsX K C)) (F : L2.Fun K "_law_refused" "_law_refused" sRef f fd) : FnOk P w K mg base L2.CX0 4 f fd ["_law_loop_here", "_law_thing"] (spRef K) := by
  refine F.ok scRef (fun vs H Q E h => ?_) (fun cdv A outer s H vs Q E hr h => ?_)
  · obtain ⟨M, t, l, v, d, rfl, _⟩ := h
    rfl
  · obtain ⟨M, t, l, v, d, rfl, hl, fair, l64, dv, q, qe⟩ := h
    refine ⟨_, pss_cons (ps_set (i := 2) scRef.nd rfl (.inl rfl) pe_non)
      (C8.pss_cut (ps_try_keep (i := 3) (ts := fun a cls d => tAsg (tVar 3) (gName 2)) rfl rfl scRef.nd rfl rfl ⟨rfl, by decide, Or.inl gP⟩
          (fun W pn xe tk _ => pss_one (ps_ret (pe_dx DO tk hr (by decide) (by rfl) (pa_cons (pv 0) (pa_cons (pv 1) pa_nil)))))
          (fun a oe cls d pn hz hf => pss_one (ps_set (i := 2) scRef.nd rfl (.inl rfl) (pv 3))))
      (pss_cons (ps_if (PW.pt (pw_or (pt_not (pt_val (pe_callB call_isK (by rfl) mi isi_is (pa_cons (pv 2) (pa_cons (pe_glob (v := .ref C) (by rfl) T.g rfl) pa_nil))))) (pw_or (pt_val (pe_callB call_isK (by rfl) mi isi_is (pa_cons (pv 2) (pa_cons (pe_glob (v := .ref CB) (by rfl) gB rfl) pa_nil))))
          (pw_or1 (pt_not (pt_val (pe_callB call_isK (by rfl) mi isi_is (pa_cons (pv 2) (pa_cons (pe_bltn (v := .ty "ValueError") (by rfl) mV (by decide +kernel) rfl) pa_nil))))))))) (pss_one (ps_ret pe_non)) pss_nil)
      (pss_one (ps_ret (pe_lstN (pa_cons (pe_xk (pv 2)) pa_nil)))))), ?_⟩
    refine ⟨fun σ G => ∃ (x : Addr), σ = [some (.ref t), some v, some (.ref x), none] ∧ Same H G ∧ Kept G x C [(("value" : Str), v)] ∧ isHome l d = false, ?_, fun σ' G hM => ?_⟩
    · refine ⟨.ref t, rfl, v, rfl, M, t, l, v, d, rfl, hl, fair, l64, dv, fun b e yes H1 p s1 t1 => q b e yes H1 p s1 t1, fun no H1 e s1 he => ⟨eP, fun x nx => ⟨.ref x, rfl, fun nx2 => ?_⟩⟩⟩
      exact ⟨x, rfl, fun c o h => by rw [upd_ne (ne_of_none (s1 c o h) nx2)]; exact s1 c o h, ⟨e, upd_same, by rw [upd_ne (ne_of_none he nx2)]; exact he⟩, no⟩
    · obtain ⟨x, rfl, sm, kp, no⟩ := hM
      refine ⟨.ref x, rfl, x, C, _, .ref C, .ref C, true, rfl, kp, ex, fun _ r => r, kC, _, rfl, iteF ?_⟩
      refine ⟨.ref x, rfl, x, C, _, .ref CB, .ref CB, false, rfl, kp, ex, fun _ r => r, kB, _, rfl, iteF ?_⟩
      refine ⟨.ref x, rfl, x, C, _, .ty "ValueError", .type "ValueError", true, rfl, kp, ex, fun _ r => r, kV, _, rfl, iteF ?_⟩
      refine ⟨.ref x, rfl, x, C, _, v, rfl, kp, T.xf, T.no, by rfl, by show 1 ≤ sizeLine; decide, fun p np y => qe no _ _ (sm.trans (same_new np)) ?_ y upd_same⟩
      cases e : H p with
      | none => rfl
      | some o => rw [sm _ _ e] at np; cases np
end
end Pf
namespace Pf
open PySem PySem.Spec PyProof.Rows L2 Gk
abbrev sAny : Stmt := topS 15
theorem scAny : FnScope ["_law_box_here", "_law_some", "_law_found", "_law_turn"] ["_law_box_here"] (defScope sAny) := ⟨rfl, rfl, rfl, by decide +kernel, rfl, by decide +kernel, by decide +kernel⟩
def anyA : List PyData := [.none, .bool true, .bool false, .int 0, .int 1, .int (-1), .int 2, .int 7, .int 8, .int 64, .int 65, .int (10 ^ (17 : Int).toNat), .str "", .str "0", .str "own", .str "01", .tuple [], .list [], .dict [], .tuple [.int 0, .int 1], .list [.int 0, .int 1]]
def anyB : List PyData := [.tuple [.tuple [.int 0, .int 1]], .tuple [.str "own", .int 1], .tuple [.str "shared", .int 2], .tuple [.int 2, .int 1], .dict [(.str "a", .int 1)], .tuple [.str "folded", .int 1, .int 1], .tuple [.int 1, .int 1, .int 0]]
theorem any_ok : ((anyA ++ anyB).all fun d => fin d (10 ^ 17) && decide (d.depth ≤ 2) && decide (big d ≤ 400)) = true := by decide +kernel
section
variable {P : Program} {w : World} {K : PySem.W.Frag} {mg : Str → Option Value} {base : Heap}
def spAny (K : PySem.W.Frag) : Sp := fun vs H Q _ => ∃ (M : Addr → Prop) (b : Addr) (m : Nat), vs = [.ref b] ∧ M b ∧ Stands M H ∧ Box m H b ∧ m ≤ 990000 ∧
  ∀ H' v d, But b H H' → Box (m + 20) H' b → Dv M K H' v d → fin d (10 ^ 17) = true → d.depth ≤ 8 → big d ≤ 1000 → Q v H'
theorem dct_a {M : Addr → Prop} {H : Hp} {a : Addr} {v : V} {d : PyData} (h : H a = some (.dK [(Sum.inr "a", v)])) (n : ¬ M a) (hv : Dv M K H v d) : Dv M K H (.ref a) (.dict [(.str "a", d)]) :=
  .dct (ks := ["a"]) (xs := [v]) (ds := [d]) h n rfl rfl (.cons hv .nil)
/-- one of some made things -/
theorem choose {M : Addr → Prop} {ts : TA} {ds : List PyData} {σ : L2.St} {H : Hp} {Q : VK} {i m : Nat} {b : Addr} (eb : σ[i]? = some (some (.ref b))) (h : MkA M K ts σ H ds) (hb : Box m H b) (hMb : M b) (hS : Stands M H) (l0 : 0 < ds.length) (l : ds.length ≤ 1000) (hm : m < 1000000000)
    (q : ∀ v d H', d ∈ ds → But b H H' → Box (m + 1) H' b → Dv M K H' v d → Q v H') : tCall (spOf K) [] E0 (tCons (tVar i) (tCons (tLst ts) tNil)) σ H Q := by
  refine ⟨.ref b, eb, mk_some h hS l fun p xs H1 s1 n1 e1 d1 l1 => ⟨b, p, xs, m, rfl, SqL.of e1, fun z => hb.ne n1 z.symm, by omega, by omega, hb.same s1, hm, fun i v H2 g bt bx same => ?_⟩⟩
  obtain ⟨d, gd, dv⟩ := d1.at g
  exact q v d H2 (List.mem_of_getElem? gd) (fun x o n e => bt x o n (s1 _ _ e)) bx (dv.off (Off.but bt hMb))
theorem nest_ok {d e : PyData} {n c : Nat} (f1 : fin d (10 ^ 17) = true) (f2 : d.depth ≤ n) (f3 : big d ≤ c) (h : e ∈ [PyData.tuple [d], .list [d], .dict [(.str "a", d)], .tuple [d, .int 1]]) : fin e (10 ^ 17) = true ∧ e.depth ≤ n + 1 ∧ big e ≤ c + 100 := by
  have fa : fin (.str "a") (10 ^ 17) = true := by decide +kernel
  have ba : big (.str "a") = 2 := by decide +kernel
  have fo : fin (.int 1) (10 ^ 17) = true := by decide +kernel
  have bo : big (.int 1) = 70 := rfl
  simp only [List.mem_cons, List.not_mem_nil, or_false] at h
  rcases h with rfl | rfl | rfl | rfl
  · refine ⟨by simp only [fin, finAll, f1, Bool.and_self], ?_, by simp only [big, bigAll]; omega⟩
    simp only [PyData.depth, PyData.depthAll]; omega
  · refine ⟨by simp only [fin, finAll, f1, Bool.and_self], ?_, by simp only [big, bigAll]; omega⟩
    simp only [PyData.depth, PyData.depthAll]; omega
  · refine ⟨by simp only [fin, finKv, f1, Bool.and_self, Bool.and_true] ; exact fa, ?_, by simp only [big, bigKv]; have := ba; simp only [big] at this; omega⟩
    simp only [PyData.depth, PyData.depthKv]; omega
  · refine ⟨by simp only [fin, finAll, f1, Bool.true_and, Bool.and_true]; exact fo, ?_, by simp only [big, bigAll]; omega⟩
    simp only [PyData.depth, PyData.depthAll]; omega
theorem ok_any {f : Addr} {fd : FuncData} (DO : Dfn P w K mg base 2 "_law_of" ["_law_box_here", "_law_some"] (spOf K)) (mr : mg "range" = none)
    (F : L2.Fun K "_law_any" "_law_any" sAny f fd) : FnOk P w K mg base L2.CX0 3 f fd ["_law_box_here"] (spAny K) := by
  refine F.ok scAny (fun vs H Q E h => ?_) (fun cdv A outer s H vs Q E hr h => ?_)
  · obtain ⟨M, b, m, rfl, _⟩ := h
    rfl
  · obtain ⟨M, b, m, rfl, hMb, z0, hb, hm, q⟩ := h
    refine ⟨_, pss_cons (ps_set (i := 1) scAny.nd rfl (.inl rfl) (pe_lst (pa_cons pe_non (pa_cons pe_bl (pa_cons pe_bl (pa_cons pe_int (pa_cons pe_int (pa_cons (pe_un un_neg pe_int) (pa_cons pe_int (pa_cons pe_int (pa_cons pe_int (pa_cons pe_int (pa_cons pe_int (pa_cons (pe_op op_pow pe_int pe_int)
          (pa_cons pe_str (pa_cons pe_str (pa_cons pe_str (pa_cons pe_str (pa_cons (pe_tup pa_nil) (pa_cons (pe_lstN pa_nil) (pa_cons pe_dnewK (pa_cons (pe_tup (pa_cons pe_int (pa_cons pe_int pa_nil))) (pa_cons (pe_lstN (pa_cons pe_int (pa_cons pe_int pa_nil))) pa_nil)))))))))))))))))))))))
      (C8.pss_cut (ps_set (i := 2) scAny.nd rfl (.inl rfl) (pe_d DO hr (by decide) (by rfl) (pa_cons (pv 0) (pa_cons (pe_op op_cat (pv 1) (pe_lst (pa_cons (pe_tup (pa_cons (pe_tup (pa_cons pe_int (pa_cons pe_int pa_nil))) pa_nil)) (pa_cons (pe_tup (pa_cons pe_str (pa_cons pe_int pa_nil))) (pa_cons (pe_tup (pa_cons pe_str (pa_cons pe_int pa_nil)))
          (pa_cons (pe_tup (pa_cons pe_int (pa_cons pe_int pa_nil))) (pa_cons (pe_disp (pps_cons pe_str pe_int pps_nil) (by rfl) (by rfl) (fun z => by cases z) (by decide)) (pa_cons (pe_tup (pa_cons pe_str (pa_cons pe_int (pa_cons pe_int pa_nil)))) (pa_cons (pe_tup (pa_cons pe_int (pa_cons pe_int (pa_cons pe_int pa_nil)))) pa_nil))))))))) pa_nil))))
      (pss_cons (ps_for PassesOwn.never rfl (pi_range1 rfl mr (pa_cons (pe_mid (pe_d DO hr (by decide) (by rfl) (pa_cons (pv 0) (pa_cons (pe_lst (pa_cons pe_int (pa_cons pe_int (pa_cons pe_int (pa_cons pe_int (pa_cons pe_int (pa_cons pe_int pa_nil))))))) pa_nil)))) pa_nil)) (pg_name (i := 3) scAny.nd rfl (.inl rfl))
        (pss_one (ps_set (i := 2) scAny.nd rfl (.inl rfl) (pe_d DO hr (by decide) (by rfl) (pa_cons (pv 0) (pa_cons (pe_lst (pa_cons (pe_tup (pa_cons (pv 2) pa_nil)) (pa_cons (pe_lstN (pa_cons (pv 2) pa_nil)) (pa_cons (pe_disp (pps_cons pe_str (pv 2) pps_nil) (by rfl) (by rfl) (fun z => by cases z) (by decide)) (pa_cons (pe_tup (pa_cons (pv 2) (pa_cons pe_int pa_nil))) pa_nil))))) pa_nil))))))
      (pss_one (ps_ret (pv 2))))), ?_⟩
    refine go_asg ?_
    refine mk_some (K := K) (ds := anyA) (mkA_cons mk_non (mkA_cons mk_bl (mkA_cons mk_bl (mkA_cons mk_int (mkA_cons mk_int (mkA_cons mk_neg (mkA_cons mk_int (mkA_cons mk_int (mkA_cons mk_int (mkA_cons mk_int (mkA_cons mk_int (mkA_cons (mk_pow ⟨by decide, by decide, by decide⟩) (mkA_cons mk_str (mkA_cons mk_str (mkA_cons mk_str (mkA_cons mk_str
      (mkA_cons (mk_tup mkA_nil (by decide)) (mkA_cons (mk_lst mkA_nil (by decide)) (mkA_cons mk_dct0 (mkA_cons (mk_tup (mkA_cons mk_int (mkA_cons mk_int mkA_nil)) (by decide)) (mkA_cons (mk_lst (mkA_cons mk_int (mkA_cons mk_int mkA_nil)) (by decide)) mkA_nil))))))))))))))))))))) z0 (by decide) fun a xs H1 s1 n1 e1 d1 l1 => ?_
    have hb1 := hb.same s1
    have ab : a ≠ b := fun z => hb.ne n1 z.symm
    refine ⟨fun σ' H' => ∃ v d, σ' = [some (.ref b), some (.ref a), some v, none] ∧ But b H H' ∧ Box (m + 1) H' b ∧ Dv M K H' v d ∧ fin d (10 ^ 17) = true ∧ d.depth ≤ 2 ∧ big d ≤ 400, ?_, fun σ' H' hM => ?_⟩
    · refine go_as ?_
      refine ⟨.ref b, rfl, .ref a, rfl, mk_some (K := K) (ds := anyB) (mkA_cons (mk_tup (mkA_cons (mk_tup (mkA_cons mk_int (mkA_cons mk_int mkA_nil)) (by decide)) mkA_nil) (by decide)) (mkA_cons (mk_tup (mkA_cons mk_str (mkA_cons mk_int mkA_nil)) (by decide)) (mkA_cons (mk_tup (mkA_cons mk_str (mkA_cons mk_int mkA_nil)) (by decide))
        (mkA_cons (mk_tup (mkA_cons mk_int (mkA_cons mk_int mkA_nil)) (by decide)) (mkA_cons (mk_dct mk_int) (mkA_cons (mk_tup (mkA_cons mk_str (mkA_cons mk_int (mkA_cons mk_int mkA_nil))) (by decide)) (mkA_cons (mk_tup (mkA_cons mk_int (mkA_cons mk_int (mkA_cons mk_int mkA_nil))) (by decide)) mkA_nil)))))))
        (z0.same s1) (by decide) fun p ys H2 s2 n2 e2 d2 l2 => ?_⟩
      have hx : xs.length = 21 := l1
      have hy : ys.length = 7 := l2
      refine ⟨a, p, xs, ys, rfl, rfl, s2 _ _ e1, e2, by rw [hx, hy, sizeLine_eq]; decide, fun r nr => ?_⟩
      have s3 := same_new (o := HO.lst (xs ++ ys)) nr
      have hb3 := (hb1.same s2).same s3
      refine ⟨b, r, xs ++ ys, m, rfl, SqL.of upd_same, fun z => ((hb1.same s2).ne nr) z.symm, by rw [List.length_append, hx, hy]; decide, by rw [List.length_append, hx, hy]; decide, hb3, by omega, fun i v H4 g bt bx same => ?_⟩
      have dall := (DvAll.app (d1.off (Off.same s2)) d2).off (Off.same s3)
      obtain ⟨d, gd, dv⟩ := dall.at g
      have dm := List.mem_of_getElem? gd
      have ok := List.all_eq_true.mp any_ok d dm
      simp only [Bool.and_eq_true, decide_eq_true_eq] at ok
      exact ⟨v, d, rfl, fun x o n e => bt x o n (s3 _ _ (s2 _ _ (s1 _ _ e))), bx, dv.off (Off.but bt hMb), ok.1.1, ok.1.2, ok.2⟩
    · obtain ⟨v, d, rfl, bt, bx, dv, f1, f2, f3⟩ := hM
      refine ⟨fun x H2 => ∃ j : Int, x = .int j ∧ 0 ≤ j ∧ j ≤ 6 ∧ But b H H2 ∧ Box (m + 2) H2 b ∧ Dv M K H2 v d, ?_, fun x H2 hx => ?_⟩
      · refine choose (ds := [.int 0, .int 0, .int 0, .int 1, .int 2, .int 6]) rfl (mkA_cons mk_int (mkA_cons mk_int (mkA_cons mk_int (mkA_cons mk_int (mkA_cons mk_int (mkA_cons mk_int mkA_nil)))))) bx hMb (z0.but bt bx) (by decide) (by decide) (by omega) fun x e H2 em bt2 bx2 dx => ?_
        have hj : ∃ j : Int, e = .int j ∧ 0 ≤ j ∧ j ≤ 6 := by
          simp only [List.mem_cons, List.not_mem_nil, or_false] at em
          rcases em with h | h | h | h | h | h <;> exact ⟨_, h, by decide, by decide⟩
        obtain ⟨j, rfl, j0, j6⟩ := hj
        cases dx
        exact ⟨j, rfl, j0, j6, bt.trans bt2, bx2, dv.off (Off.but bt2 hMb)⟩
      · obtain ⟨j, rfl, j0, j6, bt2, bx2, dv2⟩ := hx
        refine ⟨j, rfl, by omega, by omega, fun i k σ' H' => ∃ v d y, σ' = [some (.ref b), some (.ref a), some v, y] ∧ k = j.toNat - i ∧ i ≤ j.toNat ∧ But b H H' ∧ Box (m + 2 + i) H' b ∧ Dv M K H' v d ∧ fin d (10 ^ 17) = true ∧ d.depth ≤ 2 + i ∧ big d ≤ 400 + 100 * i, ⟨_, v, d, none, rfl, rfl, Nat.zero_le _, bt2, bx2, dv2, f1, f2, f3⟩, ?_⟩
        rintro i k σ' H' ⟨v, d, y, rfl, rfl, hi, bt, bx, dv, f1, f2, f3⟩
        by_cases c : i < j.toNat
        · refine .inr ⟨c, fun σ' H' => ∃ v d y, σ' = [some (.ref b), some (.ref a), some v, y] ∧ But b H H' ∧ Box (m + 2 + (i + 1)) H' b ∧ Dv M K H' v d ∧ fin d (10 ^ 17) = true ∧ d.depth ≤ 2 + (i + 1) ∧ big d ≤ 400 + 100 * (i + 1), ?_, ?_⟩
          · rintro σ' H' ⟨v, d, y, e, x1, x2, x3, x4, x5, x6⟩
            exact ⟨j.toNat - (i + 1), by omega, v, d, y, e, rfl, c, x1, x2, x3, x4, x5, x6⟩
          · rintro x H3 ⟨rfl, rfl⟩
            refine go_name ?_
            refine go_as ?_
            refine choose (ds := [.tuple [d], .list [d], .dict [(.str "a", d)], .tuple [d, .int 1]]) rfl (mkA_cons (mk_tup (mkA_cons (mk_var rfl dv) mkA_nil) (Nat.le_of_ble_eq_true rfl)) (mkA_cons (mk_lst (mkA_cons (mk_var rfl dv) mkA_nil) (Nat.le_of_ble_eq_true rfl)) (mkA_cons (mk_dct (mk_var rfl dv))
              (mkA_cons (mk_tup (mkA_cons (mk_var rfl dv) (mkA_cons mk_int mkA_nil)) (Nat.le_of_ble_eq_true rfl)) mkA_nil)))) bx hMb (z0.but bt bx) (Nat.lt_of_lt_of_eq (by decide : 0 < 4) rfl) (Nat.le_of_ble_eq_true rfl) (by omega) fun x e H2 em bt2 bx2 dx => ?_
            obtain ⟨g1, g2, g3⟩ := nest_ok f1 f2 f3 em
            exact ⟨x, e, _, rfl, bt.trans bt2, bx2, dx, g1, g2, g3⟩
        · refine .inl ⟨Nat.le_of_not_lt c, v, rfl, ?_⟩
          have i6 : i ≤ 6 := by omega
          exact q _ _ d bt (bx.up (by omega)) dv f1 (by omega) (by omega)
end
end Pf
namespace Pf
open PySem PySem.Spec PyProof.Rows L2 Gk
abbrev sTrOf : Stmt := topS 8
theorem scTrOf : FnScope ["pattern", "outcome"] ["pattern"] (defScope sTrOf) := ⟨rfl, rfl, rfl, by decide +kernel, rfl, by decide +kernel, by decide +kernel⟩
def tr (os : List Int) : List (Int × Int) := os.map fun o => (0, o)
theorem tr_len (os : List Int) : (tr os).length = os.length := List.length_map ..
theorem tr_fair {os : List Int} (hb : Bits os) : Fair (tr os) := fun x hx => by
  obtain ⟨o, ho, rfl⟩ := List.mem_map.mp hx
  exact ⟨⟨Int.le_refl 0, (by decide : (0 : Int) ≤ 7)⟩, hb o ho⟩
section
variable {P : Program} {w : World} {K : PySem.W.Frag} {mg : Str → Option Value} {base : Heap}
def spTrOf (K : PySem.W.Frag) : Sp := fun vs H Q _ => ∃ (p : Addr) (os : List Int), vs = [.ref p] ∧ SqT K H p (os.map V.int) ∧ Bits os ∧ os.length ≤ 64 ∧ ∀ H' t, Same H H' → PairsAt K H' t (tr os) → Q (.ref t) H'
theorem ok_trof {f : Addr} {fd : FuncData} {k : Nat} (mt : mg "tuple" = none) (F : L2.Fun K "trace_of" "trace_of" sTrOf f fd) : FnOk P w K mg base L2.CX0 (k + 1) f fd ["pattern"] (spTrOf K) := by
  refine F.ok scTrOf (fun vs H Q E h => ?_) (fun cdv A outer s H vs Q E hr h => ?_)
  · obtain ⟨p, os, rfl, _⟩ := h
    rfl
  · obtain ⟨p, os, rfl, sq, hb, l2, q⟩ := h
    refine ⟨_, pss_one (ps_ret (pe_callTy call_tuple_of (by rfl) mt (by decide +kernel) (pa_cons (pe_lc (own := [("outcome", 1)]) (g := gName 1) (by rfl) scTrOf.nd (pi_tup (pv 0)) (blkOk_by (N := ["pattern", "outcome"]) (sc := defScope sTrOf) (by decide +kernel))
          (fun _ _ _ _ _ => pg_name (i := 1) scTrOf.nd rfl (.inl rfl)) (fun _ _ _ _ _ => pts_nil) (fun _ _ _ _ _ => pe_tup (pa_cons pe_int (pa_cons (pv 1) pa_nil)))) pa_nil))), ?_⟩
    refine ⟨.ref p, rfl, p, rfl, ⟨_, sq⟩, fun D nD => lc_tup (K := K) (a := p) (xs := os.map V.int)
      (fun i H' => Same H H' ∧ ∃ (as : List V), H' D = some (.lst as) ∧ DpAll K H' as ((tr (os.take i)).map pd)) ⟨same_new nD, [], upd_same, .nil⟩
      (fun i H' _ hp => Same.seqT hp.1 sq) (fun i x H4 hx hp => ?_) (fun H4 hp => ?_)⟩
    · obtain ⟨sm, as, hD, hA⟩ := hp
      have hx' : i < os.length := by
        have := (List.getElem?_eq_some_iff.mp hx).1
        rwa [List.length_map] at this
      have ex : x = .int os[i] := by
        rw [List.getElem?_map, List.getElem?_eq_getElem hx'] at hx
        exact (Option.some.inj hx).symm
      subst ex
      have et : tr (os.take (i + 1)) = tr (os.take i) ++ [(0, os[i])] := by
        unfold tr
        rw [List.take_add_one, List.getElem?_eq_getElem hx', List.map_append]
        rfl
      refine ⟨rfl, .int os[i], rfl, by show 2 ≤ sizeLine; decide, fun T nT => ⟨as, by rw [upd_ne (ne_of_none hD nT)]; exact hD, ?_, ?_, as ++ [.ref T], upd_same, ?_⟩⟩
      · rw [lc_len hA]
        exact small1000 (by rw [tr_len, List.length_take]; omega)
      · intro a u h
        rw [upd_ne (ne_of_none h nD)]
        exact same_new nT a u (sm a u h)
      · rw [et]
        exact pairs_snoc hA hD nT
    · obtain ⟨sm, as, hD, hA⟩ := hp
      rw [List.length_map, List.take_length] at hA
      refine ⟨D, as, rfl, .inl ⟨.inl (.inl hD), fun t nt => q _ t (sm.trans (same_new nt)) ?_⟩⟩
      exact .tup (.inl (.inl upd_same)) (pairs_keep hA (Same.keep (same_new nt)))
end
end Pf
namespace Pf
open PySem PySem.Spec PyProof.Rows L2 Gk
theorem boot_int' : bootBuiltins "int" = some (.type "int") := by decide +kernel
theorem boot_boo : bootBuiltins "bool" = some (.type "bool") := by decide +kernel
def isInt (lo hi : Int) : PyData → Bool
  | .int i => decide (lo ≤ i) && decide (i ≤ hi)
  | _ => false
theorem isiV_go {M : Addr → Prop} {K : PySem.W.Frag} {H : Hp} {x : V} {d : PyData} {σ : L2.St} {i : Nat} {n : String} {r : Bool} {Q : VK} (h : Dv M K H x d) (e : σ[i]? = some (some x)) (k : PySem.W.kitOne K (tyD d) (.type n) = some r) (q : Q (.bl r) H) :
    tCB (rIsi K) (tCons (tVar i) (tCons (tC (.ty n)) tNil)) σ H Q := ⟨x, e, x, .ty n, tyD d, .type n, r, rfl, .ty n, h.ty, k, q⟩
def spWithin (K : PySem.W.Frag) : Sp := fun vs H Q _ => ∃ (M : Addr → Prop) (x : V) (d : PyData) (lo hi : Int), vs = [x, .int lo, .int hi] ∧ Dv M K H x d ∧ Q (.bl (isInt lo hi d)) H
section
variable {P : Program} {w : World} {K : PySem.W.Frag} {mg : Str → Option Value} {base : Heap}
theorem within_go {M : Addr → Prop} {H : Hp} {x : V} {d : PyData} {lo hi : Int} {Q : VK} (h : Dv M K H x d) (q : Q (.bl (isInt lo hi d)) H) :
    tAndV (tCB (rIsi K) (tCons (tVar 0) (tCons (tC (.ty "int")) tNil))) (tAndV (tNotV (tCB (rIsi K) (tCons (tVar 0) (tCons (tC (.ty "bool")) tNil))))
      (tChain (rI0 fun i j => .bl (decide (i ≤ j))) (rI0 fun i j => .bl (decide (i ≤ j))) (tVar 1) (tVar 0) (tVar 2))) [some x, some (.int lo), some (.int hi)] H Q := by
  refine isiV_go h rfl (kit_int d) ⟨_, rfl, ite2 (fun c => ?_) (fun c => ?_)⟩
  · refine isiV_go h rfl (kit_bool d) ⟨_, rfl, ⟨_, rfl, ite2 (fun c2 => ?_) (fun c2 => ?_)⟩⟩
    · obtain ⟨i, rfl⟩ : ∃ i, d = .int i := by
        cases d with
        | int i => exact ⟨i, rfl⟩
        | bool _ => exact absurd c2 Bool.false_ne_true
        | _ => exact absurd c Bool.false_ne_true
      cases h
      refine ⟨.int lo, rfl, .int i, rfl, lo, i, rfl, rfl, _, rfl, ite2 (fun e => ?_) (fun e => ?_)⟩
      · refine ⟨.int hi, rfl, i, hi, rfl, rfl, ?_⟩
        have : isInt lo hi (.int i) = decide (i ≤ hi) := by
          show (decide (lo ≤ i) && decide (i ≤ hi)) = _
          rw [e, Bool.true_and]
        rwa [this] at q
      · have : isInt lo hi (.int i) = false := by
          show (decide (lo ≤ i) && decide (i ≤ hi)) = _
          rw [Bool.eq_false_iff.mpr e, Bool.false_and]
        rwa [this] at q
    · have : isInt lo hi d = false := by cases d <;> first | rfl | exact absurd rfl c2
      rwa [this] at q
  · have : isInt lo hi d = false := by cases d <;> first | rfl | exact absurd rfl c
    rwa [this] at q
abbrev sIsInt : Stmt := topS 16
theorem scIsInt : FnScope ["_law_thing", "_law_least", "_law_most"] ["_law_thing", "_law_least", "_law_most"] (defScope sIsInt) := ⟨rfl, rfl, rfl, by decide +kernel, rfl, by decide +kernel, by decide +kernel⟩
theorem ok_isint {f : Addr} {fd : FuncData} (mi : mg "isinstance" = none) (mn : mg "int" = none) (mb : mg "bool" = none) (F : L2.Fun K "_law_is_int" "_law_is_int" sIsInt f fd) : FnOk P w K mg base L2.CX0 1 f fd ["_law_thing", "_law_least", "_law_most"] (spWithin K) := by
  refine F.ok scIsInt (fun vs H Q E h => ?_) (fun cdv A outer s H vs Q E hr h => ?_)
  · obtain ⟨M, x, d, lo, hi, rfl, _⟩ := h
    rfl
  · obtain ⟨M, x, d, lo, hi, rfl, dv, q⟩ := h
    exact ⟨_, pss_one (ps_ret (pe_and (pe_isi (by rfl) mi (pv 0) (by rfl) mn boot_int') (pe_and (pe_not (pe_isi (by rfl) mi (pv 0) (by rfl) mb boot_boo)) (pe_one (pe_chain op_le op_le (pv 1) (pv 0) (pv 2)))))), within_go dv q⟩
end
end Pf
namespace Pf
open PySem PySem.Spec PyProof.Rows L2 Gk
abbrev sRight : Stmt := topS 18
abbrev nRight : List Str := ["_law_box_here", "_law_loop_here", "_law_row_here", "_law_kept", "_law_homes", "_law_due", "_law_thing", "_law_is_there", "_law_home", "_law_deed"]
theorem scRight : FnScope nRight ["_law_box_here"] (defScope sRight) := ⟨rfl, rfl, rfl, by decide +kernel, rfl, by decide +kernel, by decide +kernel⟩
theorem fine_show {d : PyData} (h : Fine d) : Show d := ⟨h.a, h.c, h.e⟩
/-- what is due for a value in the place of a branch -/
def dueD (l : List (Int × Int)) (d : PyData) : PyData := match d with
  | .int b => if isHome l d = true then .tuple ((outs b l).map PyData.int) else .list [d]
  | _ => .list [d]
theorem due_yes {l : List (Int × Int)} {b : Int} (h : isHome l (.int b) = true) : dueD l (.int b) = .tuple ((outs b l).map PyData.int) := by
  show (if isHome l (.int b) = true then _ else _) = _
  rw [if_pos h]
theorem due_no {l : List (Int × Int)} {d : PyData} (h : isHome l d = false) : dueD l d = .list [d] := by
  cases d with
  | int b =>
    show (if isHome l (.int b) = true then _ else _) = _
    rw [if_neg (by rw [h]; decide)]
  | _ => rfl
/-- the values that are asked for -/
def Asked (d : PyData) : Prop := fin d (10 ^ 19) = true ∧ d.depth ≤ 30 ∧ big d ≤ 2000
theorem ask_show {l : List (Int × Int)} {d : PyData} (h : Asked d) (fair : Fair l) (l64 : l.length ≤ 64) : Show (dueD l d) := by
  have one : Show (.list [d]) := by
    refine Show.of (B := 10 ^ 19) (by decide) ?_ ?_ ?_
    · simp only [fin, finAll, h.1, Bool.and_self]
    · have := h.2.1
      simp only [PyData.depth, PyData.depthAll]
      omega
    · have := h.2.2
      simp only [big, bigAll]
      omega
  cases e : isHome l d with
  | false => rw [due_no e]; exact one
  | true =>
    obtain ⟨b, rfl, _⟩ := isHome_ex e
    rw [due_yes e]
    refine fine_show ((plain_bits (outs_bits fair)).fine ?_)
    rw [List.length_map]
    have := outs_len b l
    omega
theorem dv_ints {M : Addr → Prop} {K : PySem.W.Frag} {H : Hp} : ∀ ns : List Int, DvAll M K H (ns.map V.int) (ns.map PyData.int)
  | [] => .nil
  | n :: ns => .cons (.int n) (dv_ints ns)
theorem dp_ints {K : PySem.W.Frag} {H : Hp} : ∀ ns : List Int, DpAll K H (ns.map V.int) (ns.map PyData.int)
  | [] => .nil
  | n :: ns => .cons (.int n) (dp_ints ns)
theorem tups_ints : ∀ ns : List Int, tupsAll (ns.map PyData.int) = true
  | [] => rfl
  | n :: ns => by
    rw [List.map_cons, tupsAll, tups_ints ns]
    rfl
theorem box_lists {m : Nat} {H : Hp} {b : Addr} (h : Box m H b) : Lists (fun a => a = b) H := by
  rintro a rfl
  obtain ⟨x, y, z, e, _⟩ := h
  exact ⟨_, e⟩
/-- sorted branches are told by their members -/
theorem sorted_same {as bs : List Int} (ha : as.Pairwise (· < ·)) (hb : bs.Pairwise (· < ·)) (h : ∀ k, k ∈ as ↔ k ∈ bs) : as = bs := by
  induction as generalizing bs with
  | nil =>
    cases bs with
    | nil => rfl
    | cons b bs => exact absurd ((h b).mpr List.mem_cons_self) (by simp)
  | cons a as ih =>
    cases bs with
    | nil => exact absurd ((h a).mp List.mem_cons_self) (by simp)
    | cons b bs =>
      obtain ⟨a1, a2⟩ := List.pairwise_cons.mp ha
      obtain ⟨b1, b2⟩ := List.pairwise_cons.mp hb
      have e : a = b := by
        rcases List.mem_cons.mp ((h a).mp List.mem_cons_self) with e | e
        · exact e
        · rcases List.mem_cons.mp ((h b).mpr List.mem_cons_self) with z | z
          · exact z.symm
          · have := a1 _ z; have := b1 _ e; omega
      subst e
      rw [ih a2 b2 fun k => ?_]
      constructor
      · intro hk
        rcases List.mem_cons.mp ((h k).mp (List.mem_cons_of_mem _ hk)) with e | e
        · have := a1 _ hk; omega
        · exact e
      · intro hk
        rcases List.mem_cons.mp ((h k).mpr (List.mem_cons_of_mem _ hk)) with e | e
        · have := b1 _ hk; omega
        · exact e
theorem nodup_le : ∀ (ks u : List Int), ks.Nodup → (∀ k ∈ ks, k ∈ u) → ks.length ≤ u.length
  | [], _, _, _ => Nat.zero_le _
  | k :: ks, u, nd, h => by
    obtain ⟨n1, n2⟩ := List.nodup_cons.mp nd
    have ku := h k List.mem_cons_self
    have := nodup_le ks (u.erase k) n2 fun j hj => (List.mem_erase_of_ne (fun e => n1 (by rw [← e]; exact hj))).mpr (h j (List.mem_cons_of_mem _ hj))
    rw [List.length_erase_of_mem ku] at this
    have := List.length_pos_of_mem ku
    rw [List.length_cons]
    omega
/-- at most eight branches -/
theorem homes_few {l : List (Int × Int)} (fair : Fair l) {ks : List Int} (nd : ks.Nodup) (mem : ∀ k, k ∈ ks ↔ k ∈ l.map (·.1)) : ks.length ≤ 8 := by
  have sub : ks ⊆ [0, 1, 2, 3, 4, 5, 6, 7] := fun k hk => by
    obtain ⟨x, hx, rfl⟩ := List.mem_map.mp ((mem k).mp hk)
    have := (fair x hx).1
    have : x.1 = 0 ∨ x.1 = 1 ∨ x.1 = 2 ∨ x.1 = 3 ∨ x.1 = 4 ∨ x.1 = 5 ∨ x.1 = 6 ∨ x.1 = 7 := by omega
    simp only [List.mem_cons, List.not_mem_nil, or_false]
    exact this
  exact nodup_le ks _ nd sub
theorem plain_small {l : List Int} (h : ∀ o ∈ l, 0 ≤ o ∧ o ≤ 7) : Plain (l.map PyData.int) := fun d hd => by
  obtain ⟨x, hx, rfl⟩ := List.mem_map.mp hd
  have g := h x hx
  refine ⟨rfl, rfl, ?_, by simp [PyData.depth], by simp only [Gk.cost]; omega⟩
  simp only [Gk.tame, decide_eq_true_eq]
  omega
theorem two_fine {a b : List PyData} (pa : Plain a) (pb : Plain b) (la : a.length ≤ 64) (lb : b.length ≤ 64) : Fine (.list [.tuple a, .tuple b]) := by
  have c1 := pa.cost
  have c2 := pb.cost
  have d1 := pa.depth
  have d2 := pb.depth
  refine Fine.tame ?_ ?_ ?_
  · simp only [Gk.tame, tameAll, pa.tame, pb.tame, Bool.and_self]
  · simp only [PyData.depth, PyData.depthAll]
    omega
  · simp only [Gk.cost, costAll]
    omega
def askA : List PyData := ([0, 1, 2, 3, 4, 5, 6, 7, 8] : List Int).map PyData.int ++ [.int (-1), .bool true, .bool false, .none, .str "0", .tuple [.int 0], .list [.int 0], .int (10 ^ (18 : Int).toNat)]
theorem ask_ok : (askA.all fun d => fin d (10 ^ 19) && decide (d.depth ≤ 30) && decide (big d ≤ 2000)) = true := by decide +kernel
theorem in_homes {l : List (Int × Int)} {bs : List Int} (mem : ∀ k, k ∈ bs ↔ ∃ x ∈ l, x.1 = k) {k : Int} : inV (.int k) (bs.map V.int) = isHome l (.int k) := by
  rw [Bool.eq_iff_iff]
  constructor
  · intro h
    obtain ⟨y, hy, e⟩ := List.any_eq_true.mp h
    obtain ⟨z, hz, rfl⟩ := List.mem_map.mp hy
    have e : z = k := of_decide_eq_true (show decide (z = k) = true from e)
    obtain ⟨x, hx, ex⟩ := (mem z).mp hz
    exact List.any_eq_true.mpr ⟨x, hx, decide_eq_true (by rw [ex, e])⟩
  · intro h
    obtain ⟨x, hx, ex⟩ := List.any_eq_true.mp h
    exact List.any_eq_true.mpr ⟨.int k, List.mem_map.mpr ⟨k, (mem k).mpr ⟨x, hx, of_decide_eq_true ex⟩, rfl⟩, show decide (k = k) = true by simp⟩
section
variable {P : Program} {w : World} {K : PySem.W.Frag} {mg : Str → Option Value} {base : Heap}
def spRight : Sp := fun vs H Q _ => ∃ (b : Addr) (m : Nat), vs = [.ref b] ∧ Box m H b ∧ m ≤ 900000 ∧ ∀ H', But b H H' → Box (m + 500) H' b → Q (.bl true) H'
theorem ok_right {f : Addr} {fd : FuncData} (DL : Dfn P w K mg base 3 "_law_loop" ["_law_box_here", "_law_most", "_law_homes"] (spLoop K)) (DW : Dfn P w K mg base 2 "_law_row" ["_law_box_here", "_law_most"] (spRow K)) (DY : Dfn P w K mg base 3 "_law_any" ["_law_box_here"] (spAny K))
    (DI : Dfn P w K mg base 1 "_law_is_int" ["_law_thing", "_law_least", "_law_most"] (spWithin K)) (DF : Dfn P w K mg base 4 "_law_refused" ["_law_loop_here", "_law_thing"] (spRef K)) (DB : Dfn P w K mg base 1 "branches" ["trace"] (spBrs K)) (DA : Dfn P w K mg base 1 "all_outcomes" ["trace"] (spAll K))
    (DT : Dfn P w K mg base 1 "trace_of" ["pattern"] (spTrOf K)) (mr : mg "range" = none) (ml : mg "list" = none) (mt : mg "tuple" = none) (ms : mg "sorted" = none) (me : mg "set" = none) (mp : mg "repr" = none) (F : L2.Fun K "_law_right" "_law_right" sRight f fd) : FnG P w K mg base 5 f fd ["_law_box_here"] spRight := by
  refine fnG F scRight (fun vs H Q E h => ?_) (fun cdv A outer s H vs Q hr hg h => ?_)
  · obtain ⟨b, m, rfl, _⟩ := h
    rfl
  · obtain ⟨b, m, rfl, hb, hm, q⟩ := h
    refine ⟨_, C8.pss_cut (ps_par (i := 1) (j := 2) (by rfl) scRight.nd rfl rfl (by decide) rfl rfl (pa_cons (pe_d DL hr (by decide) (by rfl) (pa_cons (pv 0) (pa_cons pe_int (pa_cons pe_int pa_nil)))) (pa_cons (pe_d DW hr (by decide) (by rfl) (pa_cons (pv 0) (pa_cons pe_int pa_nil))) pa_nil)) (by rfl))
      (C8.pss_cut (ps_par (i := 3) (j := 4) (by rfl) scRight.nd rfl rfl (by decide) rfl rfl (pa_cons (pe_callB (call_reprF hr hg) (by rfl) mp (by decide +kernel) (pa_cons (pv 1) pa_nil)) (pa_cons (pe_callB (cr_sortedSet (by rfl)) (by rfl) ms (by decide +kernel) (pa_cons (pe_callTy (cr_setI (by rfl)) (by rfl) me (by decide +kernel)
          (pa_cons (pe_lc (own := [("_law_home", 8), ("_law_deed", 9)]) (g := gTup K 2 (gCons (gName 8) (gCons (gName 9) gNil))) (by rfl) scRight.nd (pi_tup (pv 1)) (blkOk_by (N := nRight) (sc := defScope sRight) (by decide +kernel))
            (fun _ _ _ _ _ => pg_tup rfl (pgs_cons (pg_name (i := 8) scRight.nd rfl (.inl rfl)) (pgs_cons (pg_name (i := 9) scRight.nd rfl (.inl rfl)) pgs_nil))) (fun _ _ _ _ _ => pts_nil) (fun _ _ _ _ _ => pv 8)) pa_nil)) pa_nil)) pa_nil)) (by rfl))
      (C8.pss_cut (ps_set (i := 5) scRight.nd rfl (.inl rfl) (pe_callTy call_tuple_of (by rfl) mt (by decide +kernel) (pa_cons (pe_lc (own := [("_law_home", 8), ("_law_deed", 9)]) (g := gTup K 2 (gCons (gName 8) (gCons (gName 9) gNil))) (by rfl) scRight.nd (pi_tup (pv 1)) (blkOk_by (N := nRight) (sc := defScope sRight) (by decide +kernel))
            (fun _ _ _ _ _ => pg_tup rfl (pgs_cons (pg_name (i := 8) scRight.nd rfl (.inl rfl)) (pgs_cons (pg_name (i := 9) scRight.nd rfl (.inl rfl)) pgs_nil))) (fun _ _ _ _ _ => pts_nil) (fun _ _ _ _ _ => pv 9)) pa_nil)))
      (pss_cons (ps_if (pt_cmpR op_ne (pe_callB (call_reprF hr hg) (by rfl) mp (by decide +kernel) (pa_cons (pe_lst (pa_cons (pe_d DB hr (by decide) (by rfl) (pa_cons (pv 1) pa_nil)) (pa_cons (pe_d DA hr (by decide) (by rfl) (pa_cons (pv 1) pa_nil)) pa_nil))) pa_nil))
          (pe_callB (call_reprF hr hg) (by rfl) mp (by decide +kernel) (pa_cons (pe_lst (pa_cons (pe_callTy call_tuple_of (by rfl) mt (by decide +kernel) (pa_cons (pv 4) pa_nil)) (pa_cons (pv 5) pa_nil))) pa_nil)) (nomark _)) (pss_one (ps_ret pe_bl)) pss_nil)
      (C8.pss_cut (ps_for PassesOwn.never rfl (pi_list (pe_op op_cat (pe_listRg (by rfl) (by rfl) ml (prg_1 (by rfl) mr pe_int)) (pe_lst (pa_cons (pe_un un_neg pe_int) (pa_cons pe_bl (pa_cons pe_bl (pa_cons pe_non (pa_cons pe_str (pa_cons (pe_tup (pa_cons pe_int pa_nil)) (pa_cons (pe_lstN (pa_cons pe_int pa_nil))
            (pa_cons (pe_op op_pow pe_int pe_int) (pa_cons (pe_d DY hr (by decide) (by rfl) (pa_cons (pv 0) pa_nil)) (pa_cons (pe_d DY hr (by decide) (by rfl) (pa_cons (pv 0) pa_nil)) pa_nil))))))))))))) (pg_name (i := 6) scRight.nd rfl (.inr rfl))
          (C8.pss_cut (ps_set (i := 7) scRight.nd rfl (.inl rfl) (pe_and (pe_d DI hr (by decide) (by rfl) (pa_cons (pv 6) (pa_cons pe_int (pa_cons pe_int pa_nil)))) (pe_one (pe_cmpR op_in_seq (pv 6) (pv 4) (by rfl)))))
          (C8.pss_cut (ps_set (i := 5) scRight.nd rfl (.inl rfl) (pe_ifExp (pt_val (pv 7)) (pe_callTy call_tuple_of (by rfl) mt (by decide +kernel) (pa_cons (pe_lc (own := [("_law_home", 8), ("_law_deed", 9)]) (g := gTup K 2 (gCons (gName 8) (gCons (gName 9) gNil))) (by rfl) scRight.nd (pi_tup (pv 1)) (blkOk_by (N := nRight) (sc := defScope sRight) (by decide +kernel))
            (fun _ _ _ _ _ => pg_tup rfl (pgs_cons (pg_name (i := 8) scRight.nd rfl (.inl rfl)) (pgs_cons (pg_name (i := 9) scRight.nd rfl (.inl rfl)) pgs_nil))) (fun _ _ _ _ _ => pts_one (pt_cmpR op_eq (pv 8) (pv 6) (nomark _))) (fun _ _ _ _ _ => pv 9)) pa_nil)) (pe_lstN (pa_cons (pv 6) pa_nil))))
          (pss_one (ps_if (pt_cmpR op_ne (pe_callB (call_reprV (fun a => a = b) hr hg) (by rfl) mp (by decide +kernel) (pa_cons (pe_mid (pe_d DF hr (by decide) (by rfl) (pa_cons (pv 1) (pa_cons (pv 6) pa_nil)))) pa_nil)) (pe_callB (call_reprV (fun a => a = b) hr hg) (by rfl) mp (by decide +kernel) (pa_cons (pv 5) pa_nil)) (nomark _)) (pss_one (ps_ret pe_bl)) pss_nil)))))
      (pss_one (ps_ret (pe_and (pe_cmpR op_eq (pe_callB (call_reprF hr hg) (by rfl) mp (by decide +kernel) (pa_cons (pe_d DT hr (by decide) (by rfl) (pa_cons (pv 2) pa_nil)) pa_nil))
            (pe_callB (call_reprF hr hg) (by rfl) mp (by decide +kernel) (pa_cons (pe_callTy call_tuple_of (by rfl) mt (by decide +kernel) (pa_cons (pe_lc (own := [("_law_deed", 9)]) (g := gName 9) (by rfl) scRight.nd (pi_tup (pv 2)) (blkOk_by (N := nRight) (sc := defScope sRight) (by decide +kernel))
              (fun _ _ _ _ _ => pg_name (i := 9) scRight.nd rfl (.inl rfl)) (fun _ _ _ _ _ => pts_nil) (fun _ _ _ _ _ => pe_tup (pa_cons pe_int (pa_cons (pv 9) pa_nil)))) pa_nil)) pa_nil)) (nomark _))
          (pe_one (pe_cmpR op_eq (pe_callB (call_reprF hr hg) (by rfl) mp (by decide +kernel) (pa_cons (pv 1) pa_nil)) (pv 3) (nomark _)))))))))), ?_⟩
    refine ⟨fun σ G => ∃ (t r : Addr) (l : List (Int × Int)) (os : List Int), σ = [some (.ref b), some (.ref t), some (.ref r), none, none, none, none, none, none, none] ∧ PairsAt K G t l ∧ Fair l ∧ 1 ≤ l.length ∧ l.length ≤ 64 ∧ SqT K G r (os.map V.int) ∧ Bits os ∧ os.length ≤ 64 ∧ But b H G ∧ Box (m + 400) G b, ?_, fun σ1 G1 hM => ?_⟩
    · refine ⟨.ref b, rfl, b, 64, 8, m, rfl, by decide, by decide, by decide, by decide, hb, by omega, fun H1 t l bt1 bx1 hl l1 lm fair => ?_⟩
      refine ⟨.ref b, rfl, b, 64, m + 250, rfl, by decide, by decide, bx1, by omega, fun H2 r os bt2 bx2 sr o1 om ob => ?_⟩
      exact ⟨_, _, rfl, t, r, l, os, rfl, hl.keep (But.keep bt2 bx1), fair, l1, by omega, sr, ob, by omega, bt1.trans bt2, bx2.up (by omega)⟩
    obtain ⟨t, r, l, os, rfl, hl, fair, l1, l64, sr, ob, o64, bt, bx⟩ := hM
    obtain ⟨xs, sq, hA, len⟩ := PairsAt.out hl
    have finL : Fine (.tuple (l.map pd)) := (plain_pd fair).fine (by rw [List.length_map]; omega)
    refine ⟨fun σ G => ∃ (h : Addr) (bs : List Int), σ = [some (.ref b), some (.ref t), some (.ref r), some (.str (PyData.tuple (l.map pd)).shown), some (.ref h), none, none, none, none, none] ∧ Same G1 G ∧ G h = some (.lst (bs.map V.int)) ∧ h ≠ b ∧ bs.Pairwise (· < ·) ∧ bs.length ≤ 8 ∧ ∀ k, k ∈ bs ↔ ∃ x ∈ l, x.1 = k, ?_, fun σ2 G2 hM => ?_⟩
    · refine ⟨.ref t, rfl, _, _, rfl, hl, finL, .ref t, rfl, t, rfl, ⟨_, sq⟩, fun D nD => lc_tup (K := K) (a := t) (xs := xs) (fun i H' => Same G1 H' ∧ H' D = some (.lst (((l.take i).map (·.1)).map V.int))) ⟨same_new nD, upd_same⟩ (fun i H' _ hp => Same.seqT hp.1 sq) (fun i x H4 hx hp => ?_) (fun H4 hp => ?_)⟩
      · obtain ⟨sm, hD⟩ := hp
        obtain ⟨y, a, hy, rfl, sa⟩ := pd_at hA hx
        refine ⟨a, _, rfl, Same.seqT sm sa, rfl, _, _, rfl, _, _, rfl, rfl, rfl, .int y.1, rfl, _, hD, ?_, ?_, ?_⟩
        · rw [List.length_map, List.length_map, List.length_take]
          exact small1000 (by omega)
        · intro c o h
          rw [upd_ne (ne_of_none h nD)]
          exact sm c o h
        · rw [upd_same, List.take_add_one, hy, List.map_append, List.map_append]
          rfl
      · obtain ⟨sm, hD⟩ := hp
        rw [len, List.take_length] at hD
        refine ⟨D, l.map (·.1), rfl, SqL.of hD, by rw [List.length_map]; omega, fun p ks np nd mem => ?_⟩
        have few := homes_few fair nd mem
        refine ⟨p, _, ks.length, rfl, upd_same, by omega, fun ns p2 pw mem2 len2 np2 => ⟨_, _, rfl, p2, ns, rfl, (sm.trans (same_new np)).trans (same_new np2), upd_same, ?_, pw, by omega, fun k => ?_⟩⟩
        · intro z
          rw [z] at np2
          obtain ⟨x1, x2, x3, e, _⟩ := (bx.same sm).same (same_new (o := SetO w p (fun j => decide (j ∈ l.map (·.1))) ks.length) np)
          exact Option.some_ne_none _ (e.symm.trans np2)
        · rw [mem2 k, decide_eq_true_eq, List.mem_map]
    obtain ⟨h, bs, rfl, s2, hh, hb2, bpw, b8, bmem⟩ := hM
    have bx2 := bx.same s2
    have sq2 := Same.seqT s2 sq
    have hA2 := pairs_keep hA (Same.keep s2)
    refine ⟨fun σ G => ∃ (du : Addr), σ = [some (.ref b), some (.ref t), some (.ref r), some (.str (PyData.tuple (l.map pd)).shown), some (.ref h), some (.ref du), none, none, none, none] ∧ Same G2 G ∧ SqT K G du ((l.map (·.2)).map V.int), ?_, fun σ3 G3 hM => ?_⟩
    · refine ⟨.ref t, rfl, t, rfl, ⟨_, sq2⟩, fun D nD => lc_tup (K := K) (a := t) (xs := xs) (fun i H' => Same G2 H' ∧ H' D = some (.lst (((l.take i).map (·.2)).map V.int))) ⟨same_new nD, upd_same⟩ (fun i H' _ hp => Same.seqT hp.1 sq2) (fun i x H4 hx hp => ?_) (fun H4 hp => ?_)⟩
      · obtain ⟨sm, hD⟩ := hp
        obtain ⟨y, a, hy, rfl, sa⟩ := pd_at hA2 hx
        refine ⟨a, _, rfl, Same.seqT sm sa, rfl, _, _, rfl, _, _, rfl, rfl, rfl, .int y.2, rfl, _, hD, ?_, ?_, ?_⟩
        · rw [List.length_map, List.length_map, List.length_take]
          exact small1000 (by omega)
        · intro c o h
          rw [upd_ne (ne_of_none h nD)]
          exact sm c o h
        · rw [upd_same, List.take_add_one, hy, List.map_append, List.map_append]
          rfl
      · obtain ⟨sm, hD⟩ := hp
        rw [len, List.take_length] at hD
        exact ⟨D, _, rfl, .inl ⟨.inl (.inl hD), fun p2 np2 => ⟨p2, rfl, sm.trans (same_new np2), .inl (.inl upd_same)⟩⟩⟩
    obtain ⟨du, rfl, s3, tdu⟩ := hM
    have s23 := s2.trans s3
    have p2 : Plain ((l.map (·.2)).map PyData.int) := plain_bits fun o ho => by
      obtain ⟨x, hx, rfl⟩ := List.mem_map.mp ho
      exact (fair x hx).2
    have pbs : Plain (bs.map PyData.int) := plain_small fun o ho => by
      obtain ⟨x, hx, rfl⟩ := (bmem o).mp ho
      exact (fair x hx).1
    have fin2 : Fine (.list [.tuple (bs.map PyData.int), .tuple ((l.map (·.2)).map PyData.int)]) := two_fine pbs p2 (by rw [List.length_map]; omega) (by rw [List.length_map, List.length_map]; omega)
    refine ⟨.ref t, rfl, t, l, rfl, hl.keep (Same.keep s23), fair, fun H4 q1 cs s4 t4 cpw cmem => ⟨.ref t, rfl, t, l, rfl, hl.keep (Same.keep (s23.trans s4)), l64, fun H5 q2 s5 t5 => ⟨by show 2 ≤ sizeLine; decide, fun c6 n6 => ?_⟩⟩⟩
    obtain rfl : cs = bs := sorted_same cpw bpw fun k => (cmem k).trans (bmem k).symm
    have s6 := same_new (o := HO.lst [.ref q1, .ref q2]) n6
    refine ⟨_, _, rfl, .lst (SqL.of upd_same) (.cons (.tup (Same.seqT (s5.trans s6) t4) (DpAll.ints _)) (.cons (.tup (Same.seqT s6 t5) (DpAll.ints _)) .nil)), fin2, ?_⟩
    have s46 := (s4.trans s5).trans s6
    generalize upd H5 c6 (.lst [.ref q1, .ref q2]) = G6 at *
    refine ⟨.ref h, rfl, h, _, rfl, .inl ⟨SqL.of (s46 _ _ (s3 _ _ hh)), fun q3 n7 => ⟨.ref du, rfl, by show 2 ≤ sizeLine; decide, fun c8 n8 => ?_⟩⟩⟩
    have s8 := same_new (o := HO.lst [.ref q3, .ref du]) n8
    have s7 := same_new (o := HO.tup (cs.map V.int)) n7
    refine ⟨_, _, rfl, .lst (SqL.of upd_same) (.cons (.tup (Same.seqT s8 (.inl (.inl upd_same))) (DpAll.ints _)) (.cons (.tup (Same.seqT ((s46.trans s7).trans s8) tdu) (DpAll.ints _)) .nil)), fin2, rfl, _, rfl, iteNS rfl ?_⟩
    have s38 := (s46.trans s7).trans s8
    generalize upd (upd G6 q3 (.tup (cs.map V.int))) c8 (.lst [.ref q3, .ref du]) = G8 at *
    have s18 := s23.trans s38
    have hh8 := s38 _ _ (s3 _ _ hh)
    have hl8 := hl.keep (Same.keep (K := K) s18)
    have sr8 := Same.seqT s18 sr
    have bx8 := bx.same s18
    have bt8 := bt.trans (But.of_same s18)
    clear s6 s46 s8 s7 n6 n7 n8 t4 t5 s4 s5 fin2 p2 pbs cpw cmem tdu s3 s23 hA2 sq2 s2 bx2 s38 s18 hA sq
    refine ⟨fun σ G => (∃ y5 y6 y7, σ = [some (.ref b), some (.ref t), some (.ref r), some (.str (PyData.tuple (l.map pd)).shown), some (.ref h), y5, y6, y7, none, none]) ∧ PairsAt K G t l ∧ SqT K G r (os.map V.int) ∧ But b H G ∧ Box (m + 500) G b, ?_, fun σ4 G9 hM => ?_⟩
    · refine ⟨9, rfl, RgOk.of_le (by decide) (by decide) (by decide) (by decide), fun q0 nq0 => ?_⟩
      have bxq := bx8.same (same_new (o := HO.lst (rgV 0 9)) nq0)
      refine ⟨_, rfl, by show 1 ≤ sizeLine; decide, fun p5 n5 => ⟨by show 1 ≤ sizeLine; decide, fun p6 n6 y6 => ⟨_, _, rfl, rfl, ⟨by decide, by decide, by decide⟩, ?_⟩⟩⟩
      have t5 : Rd (upd (upd (upd G8 q0 (.lst (rgV 0 9))) p5 (.tup [.int 0])) p6 (.lst [.int 0])) p5 (.tup [.int 0]) := .inl (same_new n6 _ _ upd_same)
      have t6 : (upd (upd (upd G8 q0 (.lst (rgV 0 9))) p5 (.tup [.int 0])) p6 (.lst [.int 0])) p6 = some (.lst [.int 0]) := upd_same
      have tq : (upd (upd (upd G8 q0 (.lst (rgV 0 9))) p5 (.tup [.int 0])) p6 (.lst [.int 0])) q0 = some (.lst (rgV 0 9)) := same_new n6 _ _ (same_new n5 _ _ upd_same)
      have s86 := ((same_new (o := HO.lst (rgV 0 9)) nq0).trans (same_new (o := HO.tup [.int 0]) n5)).trans (same_new (o := HO.lst [.int 0]) n6)
      have b5 : ¬ p5 = b := ((bxq).ne n5).symm
      have b6 : ¬ p6 = b := ((bxq.same (same_new (o := HO.tup [.int 0]) n5)).ne n6).symm
      have bq : q0 ≠ b := (bx8.ne nq0).symm
      generalize upd (upd (upd G8 q0 (.lst (rgV 0 9))) p5 (.tup [.int 0])) p6 (.lst [.int 0]) = A0 at *
      have bx0 := bx8.same s86
      refine ⟨.ref b, rfl, fun a => a = b, b, m + 400, rfl, rfl, stands_box bx0, bx0, by omega, fun A1 v1 d1 bt1 bx1 dv1 f1 f2 f3 => ?_⟩
      refine ⟨.ref b, rfl, fun a => a = b, b, m + 400 + 20, rfl, rfl, stands_box bx1, bx1, by omega, fun A2 v2 d2 bt2 bx2 dv2 g1 g2 g3 => ?_⟩
      have bt02 := bt1.trans bt2
      refine ⟨by show 10 ≤ sizeLine; decide, fun c3 n3 => ?_⟩
      have s3 := same_new (o := HO.lst [.int (-1), .bl true, .bl false, .non, .str "0", .ref p5, .ref p6, .int (10 ^ (18 : Int).toNat), v1, v2]) n3
      have tq3 := s3 _ _ (bt02 _ _ bq tq)
      refine ⟨q0, c3, _, _, rfl, rfl, tq3, upd_same, by rw [rgV_length]; show 9 + 10 ≤ sizeLine; decide, fun c4 n4 => ?_⟩
      have s4 := same_new (o := HO.lst (rgV 0 9 ++ [.int (-1), .bl true, .bl false, .non, .str "0", .ref p5, .ref p6, .int (10 ^ (18 : Int).toNat), v1, v2])) n4
      have s24 := s3.trans s4
      have hc4 : upd (upd A2 c3 (.lst [.int (-1), .bl true, .bl false, .non, .str "0", .ref p5, .ref p6, .int (10 ^ (18 : Int).toNat), v1, v2])) c4 (.lst (rgV 0 9 ++ [.int (-1), .bl true, .bl false, .non, .str "0", .ref p5, .ref p6, .int (10 ^ (18 : Int).toNat), v1, v2])) c4 = some (.lst (rgV 0 9 ++ [.int (-1), .bl true, .bl false, .non, .str "0", .ref p5, .ref p6, .int (10 ^ (18 : Int).toNat), v1, v2])) := upd_same
      generalize upd (upd A2 c3 (.lst [.int (-1), .bl true, .bl false, .non, .str "0", .ref p5, .ref p6, .int (10 ^ (18 : Int).toNat), v1, v2])) c4 (.lst (rgV 0 9 ++ [.int (-1), .bl true, .bl false, .non, .str "0", .ref p5, .ref p6, .int (10 ^ (18 : Int).toNat), v1, v2])) = A4 at *
      have off2 : Off (fun a => a = b) A0 A4 := (Off.but (M := fun a => a = b) bt02 rfl).trans (Off.same s24)
      have dvs : DvAll (fun a => a = b) K A4 (rgV 0 9 ++ [.int (-1), .bl true, .bl false, .non, .str "0", .ref p5, .ref p6, .int (10 ^ (18 : Int).toNat), v1, v2]) (askA ++ [d1, d2]) := by
        have first : DvAll (fun a => a = b) K A4 (rgV 0 9) (([0, 1, 2, 3, 4, 5, 6, 7, 8] : List Int).map PyData.int) := dv_ints (M := fun a => a = b) (K := K) (H := A4) [0, 1, 2, 3, 4, 5, 6, 7, 8]
        have one : DvAll (fun a => a = b) K A0 [.int 0] [.int 0] := .cons (.int 0) .nil
        have rest : DvAll (fun a => a = b) K A4 [.int (-1), .bl true, .bl false, .non, .str "0", .ref p5, .ref p6, .int (10 ^ (18 : Int).toNat), v1, v2] [.int (-1), .bool true, .bool false, .none, .str "0", .tuple [.int 0], .list [.int 0], .int (10 ^ (18 : Int).toNat), d1, d2] :=
          .cons (.int _) (.cons (.bl _) (.cons (.bl _) (.cons .non (.cons (.str _) (.cons ((Dv.tup t5 b5 one).off off2) (.cons ((Dv.lst t6 b6 y6 one).off off2) (.cons (.int _) (.cons (dv1.off ((Off.but (M := fun a => a = b) bt2 rfl).trans (Off.same s24))) (.cons (dv2.off (Off.same s24)) .nil)))))))))
        show DvAll _ K A4 _ (([0, 1, 2, 3, 4, 5, 6, 7, 8] : List Int).map PyData.int ++ [.int (-1), .bool true, .bool false, .none, .str "0", .tuple [.int 0], .list [.int 0], .int (10 ^ (18 : Int).toNat), d1, d2])
        exact DvAll.app first rest
      have asked : ∀ d ∈ askA ++ [d1, d2], Asked d := fun d hd => by
        have up : ∀ {z : PyData}, fin z (10 ^ 17) = true → z.depth ≤ 8 → big z ≤ 1000 → Asked z := fun a b c => ⟨fin_mono (by decide) _ a, by omega, by omega⟩
        rcases List.mem_append.mp hd with hd | hd
        · have := List.all_eq_true.mp ask_ok d hd
          simp only [Bool.and_eq_true, decide_eq_true_eq] at this
          exact ⟨this.1.1, this.1.2, this.2⟩
        · rcases List.mem_cons.mp hd with rfl | hd
          · exact up f1 f2 f3
          · rw [List.mem_singleton.mp hd]
            exact up g1 g2 g3
      have keepA : Keep K G8 A4 := (Same.keep s86).trans ((But.keep bt1 bx0).trans ((But.keep bt2 bx1).trans (Same.keep s24)))
      have hlA := hl8.keep keepA
      have srA := keepA _ _ sr8
      have hhA : A4 h = some (.lst (cs.map V.int)) := s24 _ _ (bt02 _ _ hb2 (s86 _ _ hh8))
      have bxA := (bx2.same s24)
      have btA := (bt8.trans (But.of_same s86)).trans (bt02.trans (But.of_same s24))
      clear hl8 sr8 hh8 bx8 bt8 bx0 bx1 bx2 bt02 bt1 bt2 s86 s3 s4 s24 off2 dv1 dv2 f1 f2 f3 g1 g2 g3 t5 t6 tq tq3 b5 b6 bq n3 n4 n5 n6 nq0 y6 bxq keepA
      generalize rgV 0 9 ++ [.int (-1), .bl true, .bl false, .non, .str "0", .ref p5, .ref p6, .int (10 ^ (18 : Int).toNat), v1, v2] = vals at *
      generalize askA ++ [d1, d2] = ds at *
      refine ⟨c4, rfl, ⟨_, SqL.of hc4⟩, for_list (K := K) (a := c4) (xs := vals) (fun i σ H' => (∃ y5 y6 y7, σ = [some (.ref b), some (.ref t), some (.ref r), some (.str (PyData.tuple (l.map pd)).shown), some (.ref h), y5, y6, y7, none, none]) ∧ Same A4 H') ⟨⟨_, _, _, rfl⟩, Same.refl _⟩ (fun i σ H' _ hp => SqL.of (hp.2 _ _ hc4)) (fun i v σ B1 hv hp => ?_) (fun σ B1 hp => ?_)⟩
      · obtain ⟨⟨y5, y6, y7, rfl⟩, sm⟩ := hp
        obtain ⟨d, gd, dv⟩ := dvs.at hv
        have ak := asked d (List.mem_of_getElem? gd)
        have sh := ask_show (l := l) ak fair l64
        have dv := dv.off (Off.same sm)
        have bxB := bxA.same sm
        have hlB := hlA.keep (Same.keep (K := K) sm)
        refine go_name ?_
        refine ⟨fun σ G => σ = [some (.ref b), some (.ref t), some (.ref r), some (.str (PyData.tuple (l.map pd)).shown), some (.ref h), y5, some v, some (.bl (isHome l d)), none, none] ∧ G = B1, ?_, fun σ G hM => ?_⟩
        · refine ⟨v, rfl, fun a => a = b, v, d, 0, 7, rfl, dv, _, rfl, ite2 (fun c => ?_) (fun c => ?_)⟩
          · obtain ⟨k, rfl⟩ : ∃ k, d = .int k := by
              cases d with
              | int k => exact ⟨k, rfl⟩
              | _ => exact absurd c Bool.false_ne_true
            cases dv
            refine ⟨.int k, rfl, .ref h, rfl, h, _, rfl, .inl (SqL.of (sm _ _ hhA)), rfl, ?_, ⟨?_, rfl⟩⟩
            · rw [List.all_eq_true]
              intro y hy
              obtain ⟨z, _, rfl⟩ := List.mem_map.mp hy
              rfl
            · rw [in_homes bmem]
              rfl
          · have no : isHome l d = false := by
              cases e : isHome l d with
              | false => rfl
              | true =>
                obtain ⟨k, rfl, x, hx, rfl⟩ := isHome_ex e
                have := (fair x hx).1
                refine absurd ?_ c
                show (decide (0 ≤ x.1) && decide (x.1 ≤ 7)) = true
                rw [decide_eq_true this.1, decide_eq_true this.2]
                rfl
            refine ⟨?_, rfl⟩
            rw [no]
            rfl
        obtain ⟨rfl, rfl⟩ := hM
        refine ⟨fun σ B2 => ∃ (u : Addr), σ = [some (.ref b), some (.ref t), some (.ref r), some (.str (PyData.tuple (l.map pd)).shown), some (.ref h), some (.ref u), some v, some (.bl (isHome l d)), none, none] ∧ Same G B2 ∧ Dv (fun a => a = b) K B2 (.ref u) (dueD l d), ?_, fun σ B2 hM => ?_⟩
        · cases e : isHome l d with
          | true =>
            obtain ⟨k, rfl, _⟩ := isHome_ex e
            cases dv
            obtain ⟨xs, sq, hA, len⟩ := PairsAt.out hlB
            refine ⟨_, rfl, _, rfl, iteT ?_⟩
            refine ⟨.ref t, rfl, t, rfl, ⟨_, sq⟩, fun D nD => lc_tup (K := K) (a := t) (xs := xs) (fun i H' => Same G H' ∧ H' D = some (.lst ((outs k (l.take i)).map V.int))) ⟨same_new nD, upd_same⟩ (fun i H' _ hp => Same.seqT hp.1 sq) (fun i x H4 hx hp => ?_) (fun H4 hp => ?_)⟩
            · obtain ⟨sm4, hD⟩ := hp
              obtain ⟨y, a, hy, rfl, sa⟩ := pd_at hA hx
              have et := outs_take (b := k) hy
              refine ⟨a, _, rfl, Same.seqT sm4 sa, rfl, _, _, rfl, _, _, rfl, rfl, rfl, .int y.1, rfl, .int k, rfl, rfl, _, rfl, ite2 (fun e => ?_) (fun e => ?_)⟩
              · have e1 : V.int y.1 = V.int k := of_decide_eq_true e
                injection e1 with e1
                refine ⟨.int y.2, rfl, _, hD, ?_, ?_, ?_⟩
                · have h1 := outs_len k (l.take i)
                  rw [List.length_take] at h1
                  rw [List.length_map]
                  exact small1000 (by omega)
                · intro c o h
                  rw [upd_ne (ne_of_none h nD)]
                  exact sm4 c o h
                · rw [upd_same, et, if_pos e1, List.map_append]
                  rfl
              · have e1 : y.1 ≠ k := fun z => e (decide_eq_true (by rw [z]))
                refine ⟨sm4, ?_⟩
                rw [hD, et, if_neg e1, List.append_nil]
            · obtain ⟨sm4, hD⟩ := hp
              rw [len, List.take_length] at hD
              refine ⟨D, _, rfl, .inl ⟨.inl (.inl hD), fun p2 np2 => ⟨p2, rfl, sm4.trans (same_new np2), ?_⟩⟩⟩
              rw [due_yes e]
              exact .tup (.inl upd_same) (((bxB.same sm4).ne np2).symm) (dv_ints _)
          | false =>
            refine ⟨_, rfl, _, rfl, iteF ?_⟩
            refine ⟨v, rfl, by show 1 ≤ sizeLine; decide, fun p2 np2 y2 => ⟨p2, rfl, same_new np2, ?_⟩⟩
            rw [due_no e]
            exact .lst upd_same ((bxB.ne np2).symm) y2 (.cons (dv.off (Off.same (same_new np2))) .nil)
        obtain ⟨u, rfl, s5, du5⟩ := hM
        refine ⟨fun w B3 => Same B2 B3 ∧ Dv (fun a => a = b) K B3 w (dueD l d), ?_, fun w B3 hw => ?_⟩
        · refine ⟨.ref t, rfl, v, rfl, fun a => a = b, t, l, v, d, rfl, hlB.keep (Same.keep s5), fair, l64, dv.off (Off.same s5), fun k e yes H' p s' t' => ⟨s', ?_⟩, fun no H' p s' np yp hp => ⟨s', ?_⟩⟩
          · subst e
            rw [due_yes yes]
            exact dv_dp (box_lists ((bxB.same s5).same s')) _ _ (by simp only [tups]; exact tups_ints _) (.tup t' (DpAll.ints _))
          · rw [due_no no]
            exact .lst hp (((bxB.same s5).ne np).symm) yp (.cons (dv.off (Off.same (s5.trans s'))) .nil)
        · obtain ⟨s6, dw⟩ := hw
          refine ⟨w, _, rfl, dw, sh, .ref u, rfl, _, _, rfl, du5.off (Off.same s6), sh, rfl, _, rfl, iteNS rfl ?_⟩
          exact ⟨⟨_, _, _, rfl⟩, (sm.trans s5).trans s6⟩
      · obtain ⟨⟨y5, y6, y7, rfl⟩, sm⟩ := hp
        exact ⟨⟨_, _, _, rfl⟩, hlA.keep (Same.keep sm), Same.seqT sm srA, btA.trans (But.of_same sm), (bxA.same sm).up (by omega)⟩
    obtain ⟨⟨y5, y6, y7, rfl⟩, hl9, sr9, bt9, bx9⟩ := hM
    have ftr : Fine (.tuple ((tr os).map pd)) := (plain_pd (tr_fair ob)).fine (by rw [List.length_map, tr_len]; omega)
    refine ⟨.ref r, rfl, r, os, rfl, sr9, ob, o64, fun B1 p1 s1 hp1 => ⟨_, _, rfl, hp1, ftr, ?_⟩⟩
    have sr1 := Same.seqT s1 sr9
    refine ⟨.ref r, rfl, r, rfl, ⟨_, sr1⟩, fun D nD => lc_tup (K := K) (a := r) (xs := os.map V.int)
      (fun i H' => Same B1 H' ∧ ∃ (as : List V), H' D = some (.lst as) ∧ DpAll K H' as ((tr (os.take i)).map pd)) ⟨same_new nD, [], upd_same, .nil⟩
      (fun i H' _ hp => Same.seqT hp.1 sr1) (fun i x H4 hx hp => ?_) (fun H4 hp => ?_)⟩
    · obtain ⟨sm, as, hD, hA⟩ := hp
      have hx' : i < os.length := by
        have := (List.getElem?_eq_some_iff.mp hx).1
        rwa [List.length_map] at this
      have ex : x = .int os[i] := by
        rw [List.getElem?_map, List.getElem?_eq_getElem hx'] at hx
        exact (Option.some.inj hx).symm
      subst ex
      have et : tr (os.take (i + 1)) = tr (os.take i) ++ [(0, os[i])] := by
        unfold tr
        rw [List.take_add_one, List.getElem?_eq_getElem hx', List.map_append]
        rfl
      refine ⟨rfl, .int os[i], rfl, by show 2 ≤ sizeLine; decide, fun T nT => ⟨as, by rw [upd_ne (ne_of_none hD nT)]; exact hD, ?_, ?_, as ++ [.ref T], upd_same, ?_⟩⟩
      · rw [lc_len hA]
        exact small1000 (by rw [tr_len, List.length_take]; omega)
      · intro a u h
        rw [upd_ne (ne_of_none h nD)]
        exact same_new nT a u (sm a u h)
      · rw [et]
        exact pairs_snoc hA hD nT
    · obtain ⟨sm, as, hD, hA⟩ := hp
      rw [List.length_map, List.take_length] at hA
      refine ⟨D, as, rfl, .inl ⟨.inl (.inl hD), fun t2 nt => ?_⟩⟩
      have s2 := s1.trans (sm.trans (same_new (o := HO.tup as) nt))
      refine ⟨_, _, rfl, .tup (.inl (.inl upd_same)) (pairs_keep hA (Same.keep (same_new nt))), ftr, rfl, _, rfl, ?_⟩
      refine ite2 (fun _ => ?_) (fun z => absurd (decide_eq_true rfl) z)
      refine ⟨.ref t, rfl, _, _, rfl, hl9.keep (Same.keep s2), finL, _, rfl, rfl, ?_⟩
      rw [decide_eq_true (rfl : V.str (PyData.tuple (l.map pd)).shown = V.str (PyData.tuple (l.map pd)).shown)]
      exact q _ (bt9.trans (But.of_same s2)) (bx9.same s2)
end
end Pf
namespace Gk
open PySem PySem.Spec PyProof.Rows L2
/-! ### math.lcm; small things for any law -/
def rLcm : List V → Hp → VK → Prop := fun vs H Q => ∃ a b : Int, vs = [.int a, .int b] ∧ a.natAbs < 2 ^ 64 ∧ b.natAbs < 2 ^ 64 ∧ Q (.int ((a.natAbs.lcm b.natAbs : Nat) : Int)) H
theorem cr_lcm {X : Cx} : CallR X (.builtin "math.lcm") rLcm := by
  intro pins s σ H vs us Q I r h
  obtain ⟨a, b, rfl, ha, hb, q⟩ := h
  obtain ⟨t, u, rfl⟩ := Vals.int2 r
  exact PySem.W.mc_lcm ha hb fun _ => ⟨.int _, H, I.tok _, ⟨_, rfl⟩, q⟩
theorem Same.seqLL {K : PySem.W.Frag} {H H' : Hp} {a : Addr} {xs : List V} (e : Same H H') (h : SqL K H a xs) : SqL K H' a xs := by
  rcases h with (h | ⟨o, h⟩) | h
  · exact .inl (.inl (e _ _ h))
  · exact .inl (.inr ⟨o, e _ _ h⟩)
  · exact .inr h
theorem tame2 {a b : Int} (ha : a.natAbs < 10 ^ 20) (hb : b.natAbs < 10 ^ 20) : Gk.tame (.tuple [.int a, .int b]) = true := by
  simp only [Gk.tame, tameAll, ha, hb, decide_true, Bool.and_self]
theorem depth2 {a b : Int} : (PyData.tuple [.int a, .int b]).depth ≤ 40 := by
  simp only [PyData.depth, PyData.depthAll]
  omega
theorem fine2 {a b : Int} (ha : a.natAbs < 10 ^ 20) (hb : b.natAbs < 10 ^ 20) : Fine (.tuple [.int a, .int b]) :=
  Fine.tame (tame2 ha hb) depth2 (by simp only [Gk.cost, costAll]; omega)
theorem dp2 {K : PySem.W.Frag} {H : Hp} {p : Addr} {a b : Int} (h : SqT K H p [.int a, .int b]) : Dp K H (.ref p) (.tuple [.int a, .int b]) := .tup h (.cons (.int a) (.cons (.int b) .nil))
theorem flatLen {α : Type} (n : Nat) (l : List α) : ((List.replicate n l).flatten).length = n * l.length := by
  induction n with
  | zero => simp
  | succ n ih => rw [List.replicate_succ, List.flatten_cons, List.length_append, ih, Nat.succ_mul, Nat.add_comm]
theorem pairs_sq {K : PySem.W.Frag} {H : Hp} {p : Addr} {l : List (Int × Int)} (h : PairsAt K H p l) : ∃ xs, SqT K H p xs ∧ xs.length = l.length ∧ DpAll K H xs (l.map pd) := by
  cases h with
  | tup h1 h2 => exact ⟨_, h1, lc_len h2, h2⟩
theorem keepSeqL {K : PySem.W.Frag} {H1 H' : Hp} {a b : Addr} {o : HO} {xs : List V} (hS : SqL K H1 a xs) (nb : H1 b = none) (e : But b (upd H1 b o) H') : SqL K H' a xs := by
  rcases hS with (h | ⟨u, h⟩) | h
  · exact .inl (.inl (e _ _ (ne_of_none h nb) (same_new nb _ _ h)))
  · exact .inl (.inr ⟨u, e _ _ (ne_of_none h nb) (same_new nb _ _ h)⟩)
  · exact .inr h
theorem butLocal {b D : Addr} {H H1 H2 : Hp} (nD : H D = none) (h : But b H H1) (g : ∀ a o, a ≠ b → a ≠ D → H1 a = some o → H2 a = some o) : But b H H2 := fun a o n e => g a o n (fun z => by rw [z, nD] at e; cases e) (h a o n e)
theorem pt_mid {X : Cx} {e : Expr} {t : TT} (h : PT X e t) : PT X e (tMidT t) :=
  ⟨fun pins s σ H Q I ⟨M, h1, h2⟩ => thn (h.run pins s σ H M I h1) fun b s1 ⟨H1, I1, q⟩ => ⟨H1, I1, h2 b H1 q⟩⟩
end Gk
namespace Pf
open PySem PySem.Spec PyProof.Rows L2 Gk
abbrev sLaw : Stmt := topS 19
abbrev nLaw : List Str := ["_law_script", "_law_k", "_law_box_here", "_law_turn"]
theorem scLaw : FnScope nLaw ["_law_script"] (defScope sLaw) := ⟨rfl, rfl, rfl, by decide +kernel, rfl, by decide +kernel, by decide +kernel⟩

section
variable {P : Program} {w : World} {K : PySem.W.Frag} {mg : Str → Option Value} {base : Heap}
def spLaw (K : PySem.W.Frag) : Sp := fun vs H Q _ => ∃ (a : Addr) (ns : List Int), vs = [.ref a] ∧ SqL K H a (ns.map V.int) ∧ ns.length ≤ 63 ∧ ∀ H', Q (.bl true) H'
theorem ok_law {f : Addr} {fd : FuncData} (DB : Dfn P w K mg base 1 "_law_box" ["_law_script", "_law_k"] (spBox K)) (DR : DfG P w K mg base 5 "_law_right" ["_law_box_here"] spRight) 
    (mr : mg "range" = none) (mx : mg "max" = none) (mn : mg "min" = none) (ml : mg "len" = none) (ma : mg "all" = none) (F : L2.Fun K "law" "law" sLaw f fd) : FnG P w K mg base 6 f fd ["_law_script"] (spLaw K) := by
  refine fnG F scLaw (fun vs H Q E h => ?_) (fun cdv A outer s H vs Q hr hg h => ?_)
  · obtain ⟨a, ns, rfl, _⟩ := h
    rfl
  · obtain ⟨a, ns, rfl, hS, hl, q⟩ := h
    refine ⟨_, pss_cons (ps_for PassesOwn.never rfl (pi_range1 rfl mr (pa_cons (pe_callB (call_max2 rfl) (by rfl) mx (by decide +kernel) (pa_cons pe_int (pa_cons (pe_callB (call_min2 rfl) (by rfl) mn (by decide +kernel) (pa_cons pe_int (pa_cons (pe_callB call_len_seq (by rfl) ml PySem.boot_len (pa_cons (pv 0) pa_nil)) pa_nil))) pa_nil))) pa_nil)) (pg_name (i := 1) scLaw.nd rfl (.inl rfl))
        (pss_cons (ps_set (i := 2) scLaw.nd rfl (.inr rfl) (pe_d DB hr (by decide) (by rfl) (pa_cons (pv 0) (pa_cons (pv 1) pa_nil))))
        (pss_one (ps_if (pt_not (pt_val (pe_callB (cr_all rfl) (by rfl) ma (by decide +kernel) (pa_cons (pe_lc (own := [("_law_turn", 3)]) (g := gName 3) (by rfl) scLaw.nd (pi_range1 rfl mr (pa_cons pe_int pa_nil)) (blkOk_by (N := nLaw) (sc := defScope sLaw) (by decide +kernel))
            (fun _ _ _ _ _ => pg_name (i := 3) scLaw.nd rfl (.inl rfl)) (fun _ _ _ _ _ => pts_nil) (fun _ _ _ _ _ => pe_dg DR hr hg (by decide) (by rfl) (pa_cons (pv 2) pa_nil))) pa_nil))))
          (pss_one (ps_ret pe_bl)) pss_nil))))
      (pss_one (ps_ret (pe_bl))), ?_⟩
    refine ⟨.ref a, rfl, a, _, rfl, .inl hS, _, _, rfl, _, _, rfl, _, rfl, ?_, ?_, ?_⟩
    · split <;> omega
    · split <;> omega
    · generalize hz : (if (if ((ns.map V.int).length : Int) < 3 then ((ns.map V.int).length : Int) else 3) > 1 then (if ((ns.map V.int).length : Int) < 3 then ((ns.map V.int).length : Int) else 3) else 1) = z
      have z3 : z ≤ 3 := by rw [← hz]; split <;> omega
      refine for_range (lo := 0) (n := z.toNat) (fun i σ H' => (∃ y1 y2, σ = [some (.ref a), y1, y2, none]) ∧ SqL K H' a (ns.map V.int)) ⟨⟨none, none, rfl⟩, hS⟩ (fun i σ H1 hi hp => ?_) (fun σ H1 hp => ?_)
      · obtain ⟨⟨y1, y2, rfl⟩, hS1⟩ := hp
        refine ⟨.ref a, rfl, .int (0 + (i : Nat)), rfl, a, ns, 0 + (i : Nat), rfl, hS1, hl, by omega, by omega, fun b x y nb => ?_⟩
        have hB0 : Box 0 (upd H1 b (.lst [.int x, .int y, .int 0])) b := ⟨x, y, 0, upd_same, Int.le_refl _, Int.le_refl _⟩
        refine ⟨10, rfl, by decide, by decide, fun D nD => lc_range (lo := 0) (n := (10 : Int).toNat)
          (fun j H' => But b (upd H1 b (.lst [.int x, .int y, .int 0])) H' ∧ Box (500 * j) H' b ∧ H' D = some (.lst ((List.replicate j true).map V.bl))) ⟨But.new nD, hB0.same (same_new nD), upd_same⟩ (fun j H2 hj hp => ?_) (fun H2 hp => ?_)⟩
        · obtain ⟨bt, bx, hD⟩ := hp
          have nDb : D ≠ b := (hB0.ne nD).symm
          have hj : j < 10 := hj
          refine ⟨rfl, .ref b, rfl, b, 500 * j, rfl, bx, by omega, fun H3 bt3 bx3 => ?_⟩
          refine ⟨(List.replicate j true).map V.bl, bt3 _ _ nDb hD, ?_, ?_, ?_, ?_⟩
          · rw [List.length_map, List.length_replicate]
            exact small1000 (by omega)
          · refine butLocal nD (bt.trans bt3) fun a o n1 n2 h => ?_
            rw [upd_ne n2]
            exact h
          · obtain ⟨x1, x2, x3, g1, g2⟩ := bx3
            exact ⟨x1, x2, x3, by rw [upd_ne nDb.symm]; exact g1, g2.1, by have := g2.2; omega⟩
          · rw [upd_same, List.replicate_succ', List.map_append]
            rfl
        · obtain ⟨bt, bx, hD⟩ := hp
          refine ⟨D, List.replicate 10 true, rfl, .inl (.inl hD), _, rfl, ite2 (fun e => absurd e (by decide)) (fun _ => ?_)⟩
          exact ⟨⟨_, _, rfl⟩, keepSeqL hS1 nb bt⟩
      · obtain ⟨⟨y1, y2, rfl⟩, hS1⟩ := hp
        exact q _
theorem law_start {K : PySem.W.Frag} {H : Hp} {a : Addr} {ns : List Int} (hl : ns.length ≤ 63) (hO : Only H) (hS : SqL K H a (ns.map V.int)) : spLaw K [.ref a] H (fun v _ => v = .bl true) L2.E0 :=
  ⟨a, ns, rfl, hS, hl, fun _ => rfl⟩
end
end Pf
namespace Pf
open PySem PySem.Spec PyProof.Rows L2 Gk
abbrev sNoBranch : Stmt := inClass (topS 2) 0
theorem scNoBranch : EScope ["self", "value"] (defScope sNoBranch) := ⟨rfl, rfl, rfl, by decide +kernel, by decide +kernel, by decide +kernel, rfl, rfl⟩
end Pf
namespace Pf
open PySem PySem.Spec PyProof.Rows L2 Gk
theorem all_mk {P : Program} {w : World} {K : PySem.W.Frag} {h : Heap} {mg : Str → Option Value} {fa : Addr} (X : K.In h) (G : h.Ns mainGlobals mg) (hfa : mg "law" = some (.ref fa))
    {f0 : Addr} {od0 an0 : Option Addr} {sl0 : Array (Option Value)} {oc0 kV0 dc0 pm0 cd0 ct0 : Value} {f1 : Addr} {od1 an1 : Option Addr} {sl1 : Array (Option Value)} {oc1 kV1 dc1 pm1 cd1 ct1 : Value} {f2 : Addr} {od2 an2 : Option Addr} {sl2 : Array (Option Value)} {oc2 kV2 dc2 pm2 cd2 ct2 : Value} {f3 : Addr} {od3 an3 : Option Addr} {sl3 : Array (Option Value)} {oc3 kV3 dc3 pm3 cd3 ct3 : Value} {f4 : Addr} {od4 an4 : Option Addr} {sl4 : Array (Option Value)} {oc4 kV4 dc4 pm4 cd4 ct4 : Value} {f5 : Addr} {od5 an5 : Option Addr} {sl5 : Array (Option Value)} {oc5 kV5 dc5 pm5 cd5 ct5 : Value} {f6 : Addr} {od6 an6 : Option Addr} {sl6 : Array (Option Value)} {oc6 kV6 dc6 pm6 cd6 ct6 : Value} {f7 : Addr} {od7 an7 : Option Addr} {sl7 : Array (Option Value)} {oc7 kV7 dc7 pm7 cd7 ct7 : Value} {f8 : Addr} {od8 an8 : Option Addr} {sl8 : Array (Option Value)} {oc8 kV8 dc8 pm8 cd8 ct8 : Value} {f9 : Addr} {od9 an9 : Option Addr} {sl9 : Array (Option Value)} {oc9 kV9 dc9 pm9 cd9 ct9 : Value} {f10 : Addr} {od10 an10 : Option Addr} {sl10 : Array (Option Value)} {oc10 kV10 dc10 pm10 cd10 ct10 : Value} {f11 : Addr} {od11 an11 : Option Addr} {sl11 : Array (Option Value)} {oc11 kV11 dc11 pm11 cd11 ct11 : Value} {f12 : Addr} {od12 an12 : Option Addr} {sl12 : Array (Option Value)} {oc12 kV12 dc12 pm12 cd12 ct12 : Value} {f13 : Addr} {od13 an13 : Option Addr} {sl13 : Array (Option Value)} {oc13 kV13 dc13 pm13 cd13 ct13 : Value}
    (a0 : PySem.W.nsIn K mainGlobals "branches" = some (some (.ref f0)))
    (l0 : K.lookup f0 = some ⟨oc0, od0, .func (PySem.W.fnOf "branches" "branches" (defArgs sBrs) (defBody sBrs) (defScope sBrs) .none kV0 dc0 pm0 an0 cd0 ct0), sl0⟩)
    (c0 : PySem.W.codeIn K cd0 "branches" = true) (k0 : PySem.W.keepIn K (.ref f0) = true)
    (a1 : PySem.W.nsIn K mainGlobals "outcomes_of" = some (some (.ref f1)))
    (l1 : K.lookup f1 = some ⟨oc1, od1, .func (PySem.W.fnOf "outcomes_of" "outcomes_of" (defArgs sOuts) (defBody sOuts) (defScope sOuts) .none kV1 dc1 pm1 an1 cd1 ct1), sl1⟩)
    (c1 : PySem.W.codeIn K cd1 "outcomes_of" = true) (k1 : PySem.W.keepIn K (.ref f1) = true)
    (a2 : PySem.W.nsIn K mainGlobals "all_outcomes" = some (some (.ref f2)))
    (l2 : K.lookup f2 = some ⟨oc2, od2, .func (PySem.W.fnOf "all_outcomes" "all_outcomes" (defArgs sAll) (defBody sAll) (defScope sAll) .none kV2 dc2 pm2 an2 cd2 ct2), sl2⟩)
    (c2 : PySem.W.codeIn K cd2 "all_outcomes" = true) (k2 : PySem.W.keepIn K (.ref f2) = true)
    (a3 : PySem.W.nsIn K mainGlobals "trace_of" = some (some (.ref f3)))
    (l3 : K.lookup f3 = some ⟨oc3, od3, .func (PySem.W.fnOf "trace_of" "trace_of" (defArgs sTrOf) (defBody sTrOf) (defScope sTrOf) .none kV3 dc3 pm3 an3 cd3 ct3), sl3⟩)
    (c3 : PySem.W.codeIn K cd3 "trace_of" = true) (k3 : PySem.W.keepIn K (.ref f3) = true)
    (a4 : PySem.W.nsIn K mainGlobals "_law_box" = some (some (.ref f4)))
    (l4 : K.lookup f4 = some ⟨oc4, od4, .func (PySem.W.fnOf "_law_box" "_law_box" (defArgs sBox) (defBody sBox) (defScope sBox) .none kV4 dc4 pm4 an4 cd4 ct4), sl4⟩)
    (c4 : PySem.W.codeIn K cd4 "_law_box" = true) (k4 : PySem.W.keepIn K (.ref f4) = true)
    (a5 : PySem.W.nsIn K mainGlobals "_law_take" = some (some (.ref f5)))
    (l5 : K.lookup f5 = some ⟨oc5, od5, .func (PySem.W.fnOf "_law_take" "_law_take" (defArgs sTake) (defBody sTake) (defScope sTake) .none kV5 dc5 pm5 an5 cd5 ct5), sl5⟩)
    (c5 : PySem.W.codeIn K cd5 "_law_take" = true) (k5 : PySem.W.keepIn K (.ref f5) = true)
    (a6 : PySem.W.nsIn K mainGlobals "_law_of" = some (some (.ref f6)))
    (l6 : K.lookup f6 = some ⟨oc6, od6, .func (PySem.W.fnOf "_law_of" "_law_of" (defArgs sOf) (defBody sOf) (defScope sOf) .none kV6 dc6 pm6 an6 cd6 ct6), sl6⟩)
    (c6 : PySem.W.codeIn K cd6 "_law_of" = true) (k6 : PySem.W.keepIn K (.ref f6) = true)
    (a7 : PySem.W.nsIn K mainGlobals "_law_row" = some (some (.ref f7)))
    (l7 : K.lookup f7 = some ⟨oc7, od7, .func (PySem.W.fnOf "_law_row" "_law_row" (defArgs sRow) (defBody sRow) (defScope sRow) .none kV7 dc7 pm7 an7 cd7 ct7), sl7⟩)
    (c7 : PySem.W.codeIn K cd7 "_law_row" = true) (k7 : PySem.W.keepIn K (.ref f7) = true)
    (a8 : PySem.W.nsIn K mainGlobals "_law_loop" = some (some (.ref f8)))
    (l8 : K.lookup f8 = some ⟨oc8, od8, .func (PySem.W.fnOf "_law_loop" "_law_loop" (defArgs sLoop) (defBody sLoop) (defScope sLoop) .none kV8 dc8 pm8 an8 cd8 ct8), sl8⟩)
    (c8 : PySem.W.codeIn K cd8 "_law_loop" = true) (k8 : PySem.W.keepIn K (.ref f8) = true)
    (a9 : PySem.W.nsIn K mainGlobals "_law_any" = some (some (.ref f9)))
    (l9 : K.lookup f9 = some ⟨oc9, od9, .func (PySem.W.fnOf "_law_any" "_law_any" (defArgs sAny) (defBody sAny) (defScope sAny) .none kV9 dc9 pm9 an9 cd9 ct9), sl9⟩)
    (c9 : PySem.W.codeIn K cd9 "_law_any" = true) (k9 : PySem.W.keepIn K (.ref f9) = true)
    (a10 : PySem.W.nsIn K mainGlobals "_law_is_int" = some (some (.ref f10)))
    (l10 : K.lookup f10 = some ⟨oc10, od10, .func (PySem.W.fnOf "_law_is_int" "_law_is_int" (defArgs sIsInt) (defBody sIsInt) (defScope sIsInt) .none kV10 dc10 pm10 an10 cd10 ct10), sl10⟩)
    (c10 : PySem.W.codeIn K cd10 "_law_is_int" = true) (k10 : PySem.W.keepIn K (.ref f10) = true)
    (a11 : PySem.W.nsIn K mainGlobals "_law_refused" = some (some (.ref f11)))
    (l11 : K.lookup f11 = some ⟨oc11, od11, .func (PySem.W.fnOf "_law_refused" "_law_refused" (defArgs sRef) (defBody sRef) (defScope sRef) .none kV11 dc11 pm11 an11 cd11 ct11), sl11⟩)
    (c11 : PySem.W.codeIn K cd11 "_law_refused" = true) (k11 : PySem.W.keepIn K (.ref f11) = true)
    (a12 : PySem.W.nsIn K mainGlobals "_law_right" = some (some (.ref f12)))
    (l12 : K.lookup f12 = some ⟨oc12, od12, .func (PySem.W.fnOf "_law_right" "_law_right" (defArgs sRight) (defBody sRight) (defScope sRight) .none kV12 dc12 pm12 an12 cd12 ct12), sl12⟩)
    (c12 : PySem.W.codeIn K cd12 "_law_right" = true) (k12 : PySem.W.keepIn K (.ref f12) = true)
    (a13 : PySem.W.nsIn K mainGlobals "law" = some (some (.ref f13)))
    (l13 : K.lookup f13 = some ⟨oc13, od13, .func (PySem.W.fnOf "law" "law" (defArgs sLaw) (defBody sLaw) (defScope sLaw) .none kV13 dc13 pm13 an13 cd13 ct13), sl13⟩)
    (c13 : PySem.W.codeIn K cd13 "law" = true) (k13 : PySem.W.keepIn K (.ref f13) = true)
    (z0 : PySem.W.nsIn K mainGlobals "int" = some none)
    (z1 : PySem.W.nsIn K mainGlobals "len" = some none)
    (z2 : PySem.W.nsIn K mainGlobals "abs" = some none)
    (z3 : PySem.W.nsIn K mainGlobals "range" = some none)
    (z4 : PySem.W.nsIn K mainGlobals "enumerate" = some none)
    (z5 : PySem.W.nsIn K mainGlobals "max" = some none)
    (z6 : PySem.W.nsIn K mainGlobals "min" = some none)
    (z7 : PySem.W.nsIn K mainGlobals "all" = some none)
    (z8 : PySem.W.nsIn K mainGlobals "repr" = some none)
    (z9 : PySem.W.nsIn K mainGlobals "tuple" = some none)
    (z10 : PySem.W.nsIn K mainGlobals "list" = some none)
    (z11 : PySem.W.nsIn K mainGlobals "sorted" = some none)
    (z12 : PySem.W.nsIn K mainGlobals "set" = some none)
    (z13 : PySem.W.nsIn K mainGlobals "isinstance" = some none)
    (z14 : PySem.W.nsIn K mainGlobals "bool" = some none)
    (z15 : PySem.W.nsIn K mainGlobals "super" = some none)
    (z16 : PySem.W.nsIn K mainGlobals "ValueError" = some none)
    {xC0 xf0 xcc0 xcd0 xN0 xpe0 : Addr} {xnm0 xqn0 xfile0 : Str} {xbs0 xsub0 : List Value} {xsn0 : List Str} {xab0 : Bool} {xcol0 : Option Bool} {xdd0 xfod0 xan0 xcdd0 xcld0 : Option Addr} {xm00 xm10 xm20 xm30 xm50 : Option Value} {xfoc0 xkV0 xdoc0 xpm0 xct0 xccl0 xcl0 : Value} {xfsl0 xccs0 xcsl0 : Array (Option Value)} {xvs0 : Array Value} {xtf0 : Tok}
    (xa0 : PySem.W.nsIn K mainGlobals "NoBranch" = some (some (.ref xC0)))
    (xl0 : K.lookup xC0 = some (excClassObj xnm0 xqn0 xC0 xN0 xbs0 [.ref xpe0, .type "ValueError", .type "Exception", .type "BaseException", .type "object"] true xsn0 xsub0 xab0 xcol0 xdd0 xm00 xm10 xm20 xm30 xm50 "ValueError.__new__"))
    (xsa0 : PySem.W.findIn K (.ref xC0) "__setattr__" = some (some (.builtin "object.__setattr__")))
    (xga0 : PySem.W.findIn K (.ref xC0) "__getattribute__" = some (some (.builtin "BaseException.__getattribute__")))
    (xgg0 : PySem.W.findIn K (.ref xC0) "__getattr__" = some none)
    (xno0 : PySem.W.findIn K (.ref xC0) "value" = some none)
    (xiC0 : PySem.W.findIn K (.ref xC0) "__init__" = some (some (.ref xf0)))
    (xtI0 : PySem.W.typeIn K (.ref xf0) = some (.type "function"))
    (xli0 : K.lookup xf0 = some ⟨xfoc0, xfod0, .func (PySem.W.ksFn "__init__" "NoBranch.__init__" (defArgs sNoBranch) (defBody sNoBranch) (defScope sNoBranch) .none xkV0 xdoc0 xpm0 xan0 (.ref xcd0) xct0 xcc0), xfsl0⟩)
    (xco0 : PySem.W.codeIn K (.ref xcd0) "NoBranch.__init__" = true)
    (xcx0 : K.lookup xcd0 = some ⟨xccl0, xcdd0, .fields xvs0, xccs0⟩)
    (xvx0 : xvs0[2]? = some (.str xfile0 xtf0))
    (xfi0 : ((P.main.file : Str) == xfile0) = true)
    (xto0 : (P.main.scope.names.lookup ("super" : Str)).isSome = false)
    (xce0 : K.lookup xcc0 = some ⟨xcl0, xcld0, .cell (some (.ref xC0)), xcsl0⟩)
    (xsu0 : PySem.W.ks_superIn K xC0 xC0 "__init__" = some (some (.builtin "ValueError.__init__")))
    (xse0 : PySem.W.mroIn K xC0 (.ref xC0) = some true)
    (xve0 : PySem.W.subIn K (.ref xC0) (.type "ValueError") = some true)
    (xan0 : PySem.W.nsIn K cStatics "thirdparty.any" = some none)
    (xkf0 : PySem.W.keepIn K (.ref xf0) = true)
    (xkC0 : PySem.W.keepIn K (.ref xC0) = true)
    (xeC0 : PySem.W.subIn K (.ref xC0) (.type "BaseException") = some true)
    (xtC0 : PySem.W.typeIn K (.ref xC0) = some (.type "type"))
    (xhC0 : PySem.W.hasDictIn K xC0 = true)
    (xic0 : PySem.W.isClsIn K xC0 = true)
    (xsC0 : PySem.W.subIn K (.ref xC0) (.ref xC0) = some true)
    {xCB xCP : Addr}
    (gbb : PySem.W.nsIn K mainGlobals "BadBranch" = some (some (.ref xCB)))
    (gpe : PySem.W.nsIn K mainGlobals "PastError" = some (some (.ref xCP)))
    (xsp : PySem.W.specialIn K (.builtin "object.__class__") "__get__" = some (some (.builtin "getset_descriptor.__get__")))
    (xtk : PySem.W.takesIn K (.builtin "object.__class__") = some true)
    (xcl0 : PySem.W.findIn K (.ref xC0) "__class__" = some (some (.builtin "object.__class__")))
    (xmo0 : PySem.W.mroIn K xC0 (.type "object") = some true)
    (xep0 : PySem.W.exmOne K (.ref xC0) (.ref xCP) = some true)
    (kC : PySem.W.kitOne K (.ref xC0) (.ref xC0) = some true)
    (kB : PySem.W.kitOne K (.ref xC0) (.ref xCB) = some false)
    (kV : PySem.W.kitOne K (.ref xC0) (.type "ValueError") = some true)
    : ∃ fd : FuncData, (∀ (s : Shared) (v : Value), BindsTo s fd ⟨[v], []⟩ [("_law_script", v)]) ∧ ∀ base : Heap, K.In base → base.Ns mainGlobals mg → FnG P w K mg base 6 fa fd ["_law_script"] (spLaw K) := by
  have e := hfa.symm.trans (PySem.W.mg_of X G a13)
  cases e
  have F0 := fun_mk (st := sBrs) l0 c0 k0
  have b0 := F0.binds (ps := ["trace"]) fun _ _ _ _ _ _ us hl => match us, hl with | [_], _ => rfl
  have g0 := PySem.W.mg_of X G a0
  have F1 := fun_mk (st := sOuts) l1 c1 k1
  have b1 := F1.binds (ps := ["trace", "branch"]) fun _ _ _ _ _ _ us hl => match us, hl with | [_, _], _ => rfl
  have g1 := PySem.W.mg_of X G a1
  have F2 := fun_mk (st := sAll) l2 c2 k2
  have b2 := F2.binds (ps := ["trace"]) fun _ _ _ _ _ _ us hl => match us, hl with | [_], _ => rfl
  have g2 := PySem.W.mg_of X G a2
  have F3 := fun_mk (st := sTrOf) l3 c3 k3
  have b3 := F3.binds (ps := ["pattern"]) fun _ _ _ _ _ _ us hl => match us, hl with | [_], _ => rfl
  have g3 := PySem.W.mg_of X G a3
  have F4 := fun_mk (st := sBox) l4 c4 k4
  have b4 := F4.binds (ps := ["_law_script", "_law_k"]) fun _ _ _ _ _ _ us hl => match us, hl with | [_, _], _ => rfl
  have g4 := PySem.W.mg_of X G a4
  have F5 := fun_mk (st := sTake) l5 c5 k5
  have b5 := F5.binds (ps := ["_law_box_here", "_law_many"]) fun _ _ _ _ _ _ us hl => match us, hl with | [_, _], _ => rfl
  have g5 := PySem.W.mg_of X G a5
  have F6 := fun_mk (st := sOf) l6 c6 k6
  have b6 := F6.binds (ps := ["_law_box_here", "_law_some"]) fun _ _ _ _ _ _ us hl => match us, hl with | [_, _], _ => rfl
  have g6 := PySem.W.mg_of X G a6
  have F7 := fun_mk (st := sRow) l7 c7 k7
  have b7 := F7.binds (ps := ["_law_box_here", "_law_most"]) fun _ _ _ _ _ _ us hl => match us, hl with | [_, _], _ => rfl
  have g7 := PySem.W.mg_of X G a7
  have F8 := fun_mk (st := sLoop) l8 c8 k8
  have b8 := F8.binds (ps := ["_law_box_here", "_law_most", "_law_homes"]) fun _ _ _ _ _ _ us hl => match us, hl with | [_, _, _], _ => rfl
  have g8 := PySem.W.mg_of X G a8
  have F9 := fun_mk (st := sAny) l9 c9 k9
  have b9 := F9.binds (ps := ["_law_box_here"]) fun _ _ _ _ _ _ us hl => match us, hl with | [_], _ => rfl
  have g9 := PySem.W.mg_of X G a9
  have F10 := fun_mk (st := sIsInt) l10 c10 k10
  have b10 := F10.binds (ps := ["_law_thing", "_law_least", "_law_most"]) fun _ _ _ _ _ _ us hl => match us, hl with | [_, _, _], _ => rfl
  have g10 := PySem.W.mg_of X G a10
  have F11 := fun_mk (st := sRef) l11 c11 k11
  have b11 := F11.binds (ps := ["_law_loop_here", "_law_thing"]) fun _ _ _ _ _ _ us hl => match us, hl with | [_, _], _ => rfl
  have g11 := PySem.W.mg_of X G a11
  have F12 := fun_mk (st := sRight) l12 c12 k12
  have b12 := F12.binds (ps := ["_law_box_here"]) fun _ _ _ _ _ _ us hl => match us, hl with | [_], _ => rfl
  have g12 := PySem.W.mg_of X G a12
  have F13 := fun_mk (st := sLaw) l13 c13 k13
  have n_int := PySem.W.mg_none_of X G z0
  have n_len := PySem.W.mg_none_of X G z1
  have n_abs := PySem.W.mg_none_of X G z2
  have n_range := PySem.W.mg_none_of X G z3
  have n_enumerate := PySem.W.mg_none_of X G z4
  have n_max := PySem.W.mg_none_of X G z5
  have n_min := PySem.W.mg_none_of X G z6
  have n_all := PySem.W.mg_none_of X G z7
  have n_repr := PySem.W.mg_none_of X G z8
  have n_tuple := PySem.W.mg_none_of X G z9
  have n_list := PySem.W.mg_none_of X G z10
  have n_sorted := PySem.W.mg_none_of X G z11
  have n_set := PySem.W.mg_none_of X G z12
  have n_isinstance := PySem.W.mg_none_of X G z13
  have n_bool := PySem.W.mg_none_of X G z14
  have n_super := PySem.W.mg_none_of X G z15
  have n_ValueError := PySem.W.mg_none_of X G z16
  refine ⟨PySem.W.fnOf "law" "law" (defArgs sLaw) (defBody sLaw) (defScope sLaw) .none kV13 dc13 pm13 an13 cd13 ct13, fun s v => .of_eq rfl, fun base _ _ => ?_⟩
  have TNoBranch : Xown P w K mg base "NoBranch" "value" "value" xC0 := own_of scNoBranch rfl rfl (fun _ _ _ _ _ _ _ us hl => match us, hl with | [_, _], _ => rfl) (fun _ => rfl) (fun _ => rfl) (by decide +kernel) (by decide +kernel) (by decide +kernel) (PySem.W.mg_of X G xa0) n_super xl0 (by rfl) xsa0 xga0 xgg0 xno0 xiC0 xtI0 xli0 xco0 xcx0 xvx0 xfi0 xto0 xce0 xsu0 xse0 xve0 xan0 xkf0 xkC0 xeC0 xtC0 xhC0 xic0 xsC0
  have exNB : ExcC K xC0 := ⟨xga0, xgg0, xeC0, xhC0, xcl0, xsp, xtk, xmo0⟩
  have Dbranches : Dfn P w K mg base 1 "branches" ["trace"] (spBrs K) := ⟨_, _, ok_brs (k := 0) n_tuple n_sorted F0, g0, F0.kp, b0⟩
  have Doutcomes_of : DfX P w K mg base 3 "outcomes_of" ["trace", "branch"] (spOutsX K xC0) := ⟨_, _, ok_outsX TNoBranch Dbranches n_isinstance n_bool n_tuple F1, g1, F1.kp, b1⟩
  have Dall_outcomes : Dfn P w K mg base 1 "all_outcomes" ["trace"] (spAll K) := ⟨_, _, ok_all (k := 0) n_tuple F2, g2, F2.kp, b2⟩
  have Dtrace_of : Dfn P w K mg base 1 "trace_of" ["pattern"] (spTrOf K) := ⟨_, _, ok_trof (k := 0) n_tuple F3, g3, F3.kp, b3⟩
  have Dlaw_box : Dfn P w K mg base 1 "_law_box" ["_law_script", "_law_k"] (spBox K) := ⟨_, _, ok_box n_len n_abs n_int F4, g4, F4.kp, b4⟩
  have Dlaw_take : Dfn P w K mg base 1 "_law_take" ["_law_box_here", "_law_many"] spTake := ⟨_, _, ok_take F5, g5, F5.kp, b5⟩
  have Dlaw_of : Dfn P w K mg base 2 "_law_of" ["_law_box_here", "_law_some"] (spOf K) := ⟨_, _, ok_of Dlaw_take n_len F6, g6, F6.kp, b6⟩
  have Dlaw_row : Dfn P w K mg base 2 "_law_row" ["_law_box_here", "_law_most"] (spRow K) := ⟨_, _, ok_row Dlaw_take n_range n_min n_tuple n_len F7, g7, F7.kp, b7⟩
  have Dlaw_loop : Dfn P w K mg base 3 "_law_loop" ["_law_box_here", "_law_most", "_law_homes"] (spLoop K) := ⟨_, _, ok_loop Dlaw_take Dlaw_row n_tuple n_enumerate n_len F8, g8, F8.kp, b8⟩
  have Dlaw_any : Dfn P w K mg base 3 "_law_any" ["_law_box_here"] (spAny K) := ⟨_, _, ok_any Dlaw_of n_range F9, g9, F9.kp, b9⟩
  have Dlaw_is_int : Dfn P w K mg base 1 "_law_is_int" ["_law_thing", "_law_least", "_law_most"] (spWithin K) := ⟨_, _, ok_isint n_isinstance n_int n_bool F10, g10, F10.kp, b10⟩
  have Dlaw_refused : Dfn P w K mg base 4 "_law_refused" ["_law_loop_here", "_law_thing"] (spRef K) := ⟨_, _, ok_ref TNoBranch (PySem.W.mg_of X G gbb) (PySem.W.mg_of X G gpe) n_ValueError n_isinstance exNB xep0 kC kB kV Doutcomes_of F11, g11, F11.kp, b11⟩
  have Dlaw_right : DfG P w K mg base 5 "_law_right" ["_law_box_here"] spRight := ⟨_, _, ok_right Dlaw_loop Dlaw_row Dlaw_any Dlaw_is_int Dlaw_refused Dbranches Dall_outcomes Dtrace_of n_range n_list n_tuple n_sorted n_set n_repr F12, g12, F12.kp, b12⟩
  exact ok_law Dlaw_box Dlaw_right n_range n_max n_min n_len n_all F13
end Pf
open PySem PySem.W PyProof.Rows
set_option maxHeartbeats 0 in
theorem PySem.Challenge.cw_pastenough_k03_branches_and_their_outcom_holds : PySem.Challenge.rw_pastenough_k03_branches_and_their_outcom.Holds := by
  w_on; o_law; k_head; (case hw => w_witness2)
  k_fill
  refine Gk.walkG (l := PySem.Challenge.rw_pastenough_k03_branches_and_their_outcom) (n := 63) (k := 6) (x := "_law_script") (sp := fun w => Pf.spLaw _) rfl (by decide) rfl ⟨rfl, by decide, by decide⟩ (fun w h Y => PySem.W.kIn_of Y) ?F (fun _ _ a ns hl hO hS => Pf.law_start hl hO hS)
  case F =>
    intro w mg fa h KX G hmg
    refine' Pf.all_mk KX G hmg ?a0 ?l0 ?c0 ?k0 ?a1 ?l1 ?c1 ?k1 ?a2 ?l2 ?c2 ?k2 ?a3 ?l3 ?c3 ?k3 ?a4 ?l4 ?c4 ?k4 ?a5 ?l5 ?c5 ?k5 ?a6 ?l6 ?c6 ?k6 ?a7 ?l7 ?c7 ?k7 ?a8 ?l8 ?c8 ?k8 ?a9 ?l9 ?c9 ?k9 ?a10 ?l10 ?c10 ?k10 ?a11 ?l11 ?c11 ?k11 ?a12 ?l12 ?c12 ?k12 ?a13 ?l13 ?c13 ?k13 ?z0 ?z1 ?z2 ?z3 ?z4 ?z5 ?z6 ?z7 ?z8 ?z9 ?z10 ?z11 ?z12 ?z13 ?z14 ?z15 ?z16 ?xa0 ?xl0 ?xsa0 ?xga0 ?xgg0 ?xno0 ?xiC0 ?xtI0 ?xli0 ?xco0 ?xcx0 ?xvx0 ?xfi0 ?xto0 ?xce0 ?xsu0 ?xse0 ?xve0 ?xan0 ?xkf0 ?xkC0 ?xeC0 ?xtC0 ?xhC0 ?xic0 ?xsC0 ?gbb ?gpe ?xsp ?xtk ?xcl0 ?xmo0 ?xep0 ?kC ?kB ?kV
    (case a0 => k_is)
    (case l0 => k_is)
    (case c0 => k_is)
    (case k0 => k_is)
    (case a1 => k_is)
    (case l1 => k_is)
    (case c1 => k_is)
    (case k1 => k_is)
    (case a2 => k_is)
    (case l2 => k_is)
    (case c2 => k_is)
    (case k2 => k_is)
    (case a3 => k_is)
    (case l3 => k_is)
    (case c3 => k_is)
    (case k3 => k_is)
    (case a4 => k_is)
    (case l4 => k_is)
    (case c4 => k_is)
    (case k4 => k_is)
    (case a5 => k_is)
    (case l5 => k_is)
    (case c5 => k_is)
    (case k5 => k_is)
    (case a6 => k_is)
    (case l6 => k_is)
    (case c6 => k_is)
    (case k6 => k_is)
    (case a7 => k_is)
    (case l7 => k_is)
    (case c7 => k_is)
    (case k7 => k_is)
    (case a8 => k_is)
    (case l8 => k_is)
    (case c8 => k_is)
    (case k8 => k_is)
    (case a9 => k_is)
    (case l9 => k_is)
    (case c9 => k_is)
    (case k9 => k_is)
    (case a10 => k_is)
    (case l10 => k_is)
    (case c10 => k_is)
    (case k10 => k_is)
    (case a11 => k_is)
    (case l11 => k_is)
    (case c11 => k_is)
    (case k11 => k_is)
    (case a12 => k_is)
    (case l12 => k_is)
    (case c12 => k_is)
    (case k12 => k_is)
    (case a13 => k_is)
    (case l13 => k_is)
    (case c13 => k_is)
    (case k13 => k_is)
    (case z0 => k_is)
    (case z1 => k_is)
    (case z2 => k_is)
    (case z3 => k_is)
    (case z4 => k_is)
    (case z5 => k_is)
    (case z6 => k_is)
    (case z7 => k_is)
    (case z8 => k_is)
    (case z9 => k_is)
    (case z10 => k_is)
    (case z11 => k_is)
    (case z12 => k_is)
    (case z13 => k_is)
    (case z14 => k_is)
    (case z15 => k_is)
    (case z16 => k_is)
    (case xa0 => k_is)
    (case xl0 => k_is)
    (case xsa0 => k_is)
    (case xga0 => k_is)
    (case xgg0 => k_is)
    (case xno0 => k_is)
    (case xiC0 => k_is)
    (case xtI0 => k_is)
    (case xli0 => k_is)
    (case xco0 => k_is)
    (case xcx0 => k_is)
    (case xvx0 => first | rfl | exact rfl)
    (case xfi0 => first | rfl | decide +kernel | kernel_rfl)
    (case xto0 => first | rfl | decide +kernel | kernel_rfl)
    (case xce0 => k_is)
    (case xsu0 => first | ks_is | kernel_rfl)
    (case xse0 => first | k_is | kernel_rfl)
    (case xve0 => k_is)
    (case xan0 => k_is)
    (case xkf0 => k_is)
    (case xkC0 => k_is)
    (case xeC0 => k_is)
    (case xtC0 => k_is)
    (case xhC0 => k_is)
    (case xic0 => k_is)
    (case xsC0 => first | rfl | k_is)
    (case gbb => k_is)
    (case gpe => k_is)
    (case xsp => k_is)
    (case xtk => k_is)
    (case xcl0 => k_is)
    (case xmo0 => k_is)
    (case xep0 => kts_exm)
    (case kC => kit_is)
    (case kB => kit_is)
    (case kV => kit_is)
