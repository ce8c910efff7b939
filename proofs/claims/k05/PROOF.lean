import PyProof.Rows.All
import Wide.All
import OpenK.AllK
import Wide.FinOn
import HandS.ForMost
import HandS.Codes
import HandS.Wide
import HandS.WideBits
import HandS.Defaults
import HandS.Walk
import PyProof.ReprRoads
import HandS.Text
import HandS.Iter
import HandS.Style
import KE.GoesMore
import KE.KRevSl
import PyProof.ReprLen
import PyProof.StrBlock2
import HandS.Ends
import HandS.TupMul
import HandS.TupAny
import HandS.ExcInit
import HandS.ExcSuper
import KE.KExcSuper
import HandS.ExcField
import HandS.ExcOwn
import HandS.Words
import HandS.ExcValue
import KE.KExcHand
import HandS.ExcIs
import HandS.IsInst
import KE.KExcIs
import HandS.MakeKw
import PyProof.Rows.ReprOcc
import HandS.Gcd
import KE.KMathGC
import KE.RegKSuper
import KE.RegKIsAll
import KE.RegKTryMore
import PySem.Challenge.RW_pastenough_k05_exceptions_made
set_option Elab.async false
set_option linter.all false
set_option maxRecDepth 100000
set_option maxHeartbeats 4000000
/-! Defs that are run where no repr is under way; repr of data; further small rules. -/
namespace Gk
open PySem PySem.Spec PyProof.Rows L2

/-- a def's promise wherever nothing is being shown -/
structure FnG (P : Program) (w : World) (K : PySem.W.Frag) (mg : Str → Option Value) (base : Heap) (k : Nat)
    (f : Addr) (fd : FuncData) (ps : List Str) (sp : Sp) : Prop where
  len : ∀ vs H Q E, sp vs H Q E → vs.length = ps.length
  go : ∀ (A : Around) (outer : List Env) (s : Shared) (H : Hp) (args : Args) (us : List Value) (vs : List V) (Q : VK),
    Room k A → A.guards = some [] → Env0 P w K mg base A outer s H → BindsTo s fd args (ps.zip us) → Vals vs us → sp vs H Q L2.E0 →
    codeAny (model P w) A (.call (.ref f) args) (CR L2.CX0 outer P w H s Q L2.E0) s

section
variable {P : Program} {w : World} {K : PySem.W.Frag} {mg : Str → Option Value} {base : Heap}
theorem FnG.weak {j k : Nat} {f : Addr} {fd : FuncData} {ps : List Str} {sp : Sp} (F : FnG P w K mg base j f fd ps sp) (h : j ≤ k) : FnG P w K mg base k f fd ps sp :=
  ⟨F.len, fun A outer s H args us vs Q r g => F.go A outer s H args us vs Q (r.mono h) g⟩
theorem FnG.from {k : Nat} {f : Addr} {fd : FuncData} {ps : List Str} {sp : Sp} (F : FnOk P w K mg base L2.CX0 k f fd ps sp) : FnG P w K mg base k f fd ps sp :=
  ⟨F.len, fun A outer s H args us vs Q r _ e b v q => F.run A outer s H args us vs Q L2.E0 r e b v q⟩

theorem guards_deeper {A : Around} {env : Env} (h : A.guards = some []) : (A.deeper env).guards = some [] := by
  first | exact h | (unfold Around.deeper; exact h)

/-- THE RULE for a def, by its body -/
theorem fnG {x qual : Str} {st : Stmt} {f : Addr} {fd : FuncData} {N ps : List Str} {k : Nat} {sp : Sp} (F : L2.Fun K x qual st f fd) (S : FnScope N ps (defScope st))
    (len : ∀ vs H Q E, sp vs H Q E → vs.length = ps.length)
    (hbody : ∀ (cdv : Value) (A : Around) (outer : List Env) (s : Shared) (H : Hp) (vs : List V) (Q : VK),
      Room k (A.deeper (envOfC qual (defScope st) s.heap.objs.size f cdv)) → (A.deeper (envOfC qual (defScope st) s.heap.objs.size f cdv)).guards = some [] → sp vs H Q L2.E0 →
      ∃ t, PSs (cxOf L2.CX0 P w K mg base N qual (defScope st) f cdv A outer s H L2.E0).nox (defBody st) t ∧ t { nx := fun _ H' => Q .non H', rt := Q } (start N vs) H) :
    FnG P w K mg base (k + 1) f fd ps sp := by
  obtain ⟨oc, od, kV, doc, pm, an, cdv, ct, osl, rfl, lk, hcd⟩ := F.ex
  refine ⟨len, fun A outer s H args us vs Q room gd en bd rv want => ?_⟩
  have many := len _ _ _ _ want
  have KX : K.In s.heap := en.mod.kin.keeps (fun b o hbo => (en.bs b o hbo).1)
  have lim : s.heap.NoLimit := en.mod.nolimit.keeps (fun b o hbo => (en.bs b o hbo).1)
  have kinds : ∀ y ∈ ps.zip us, (defScope st).names.lookup y.1 = some .local ∨
      ((defScope st).names.lookup y.1 = some .cell ∧ ((cellsFrom (s.heap.objs.size + 1) (defScope st).names []).lookup y.1).isSome = true) := fun y hy =>
    (S.par y.1 (List.of_mem_zip (a := y.1) (b := y.2) hy).1).elim Or.inl fun q => .inr ⟨q, PySem.W.cellsFrom_some _ _ _ (.inl q)⟩
  refine codeAny_call_function room.depth (KX _ _ lk) rfl S.co S.gen rfl (PySem.W.codeRec_of KX hcd) (bd _ _ _ _ ?_)
  refine wpAny_newFunctionEnv_cells S.kind kinds fun env he st1 inC => ?_
  subst he
  refine ⟨lim.keeps inC.toInCall.keep, codeAny_func ?_⟩
  obtain ⟨t, ht, hq⟩ := hbody cdv A outer s H vs Q (room.deeper _) (guards_deeper gd) want
  have I := inv_start (CX := L2.CX0) (P := P) (w := w) (mg := mg) (E := L2.E0) S room.hd en many rv inC
  refine wpAny_mono (ht.nox.run [] st1 (start N vs) H _ I hq) (fun fl s' hs => ?_) fun e s' hs => hs
  cases fl with
  | brk => obtain ⟨_, _, _, z⟩ := hs; exact False.elim z
  | cont => obtain ⟨_, _, _, z⟩ := hs; exact False.elim z
  | next => obtain ⟨σ1, H1, J, z⟩ := hs; exact ⟨V.non, H1, J.os, J.bare, J.base, J.hok, rfl, z⟩
  | ret u => obtain ⟨v, σ1, H1, J, rv1, z⟩ := hs; exact ⟨v, H1, J.os, J.bare, J.base, J.hok, rv1, z⟩
end

section
variable {X : Cx} {k : Nat} {f : Addr} {fd : FuncData} {ps : List Str} {sp : Sp} {x : Str} {p pos : Pos} {e : Expr} {es : List Expr} {t : TA}
theorem go_fn {pins : List (Addr × Obj)} {σ : L2.St} {H : Hp} {s : Shared} {Q : VK} {us : List Value} {vs : List V} (F : FnG X.prog X.w X.K X.mg X.base k f fd ps sp)
    (hr : Room k X.A) (hg : X.A.guards = some []) (hb : Binds X.K fd ps []) (I : Inv X pins σ H s) (r : Vals vs us) (h : sp vs H Q L2.E0) : wpAny (model X.prog X.w) X.A (call (.ref f) us) (EP X pins σ Q) X.xe s := by
  have hl : (us ++ []).length = ps.length := by rw [List.append_nil, ← r.length]; exact F.len _ _ _ _ h
  have b := hb s us I.kIn hl
  rw [List.append_nil] at b
  refine wpAny_call (codeAny_mono (F.go X.A X.stack s H ⟨us, []⟩ us vs Q hr hg I.env0 b r h) fun res s' hq => ?_)
  cases res with
  | error er => exact False.elim hq
  | ok fl =>
    cases fl with
    | brk => exact False.elim hq
    | cont => exact False.elim hq
    | next => exact False.elim hq
    | ret u => exact I.after hq
def tG (sp : Sp) (t : TA) : TE := fun σ H Q => t σ H fun vs H1 => sp vs H1 Q L2.E0
/-- f(e, ..) -/
theorem pe_g (F : FnG X.prog X.w X.K X.mg X.base k f fd ps sp) (hr : Room k X.A) (hd : X.A.guards = some []) (hg : Gl X x) (hm : X.mg x = some (.ref f)) (hk : PySem.W.keepIn X.K (.ref f) = true) (hb : Binds X.K fd ps [])
    (ha : PA X (e :: es) t) (hdb : (x == ("__debug__" : Str)) = false := by decide) (he : starEach (e :: es) X.env = (false, eval e X.env) :: starEach es X.env := by rfl)
    (hpl : (backTo pos (starEach es X.env)).any (·.1) = false := by rfl) : PE X (.Call (.Name x p) (e :: es) [] pos) (tG sp t) :=
  ⟨fun pins s σ H Q I h => wpAny_Call_Name_kw (ld_glob I hg hm (PySem.W.callWith_K (h₀ := X.base) I.ok.mod.kin hk (thn (ha.run pos pins s σ H _ I h) fun us s1 ⟨vs, H1, I1, r, q⟩ => ⟨I1.kIn, go_fn F hr hd hb I1 r q⟩) he hpl) hdb)⟩
end

/-! ### keywords alone -/
section
variable {X : Cx} {k : Nat} {f : Addr} {fd : FuncData} {ps ks : List Str} {sp : Sp} {x : Str} {p pos : Pos} {kws : List Keyword} {tk : TA} {g : List Value → List Value → List Value} {gV : List V → List V → List V}
def tKw (n : Nat) (gV : List V → List V) (sp : Sp) (tk : TA) : TE := fun σ H Q => tk σ H fun zs H1 => zs.length = n ∧ sp (gV zs) H1 Q L2.E0
/-- f(k = v, ..) -/
theorem pe_kw (F : FnOk X.prog X.w X.K X.mg X.base L2.CX0 k f fd ps sp) (hr : Room k X.A) (hg : Gl X x) (hm : X.mg x = some (.ref f)) (hk : PySem.W.keepIn X.K (.ref f) = true) (hb : KBn X.K fd ps 0 ks g gV)
    (hkw : PK X kws tk) (hall : (backToKw pos (keywordEach kws X.env)).all (·.1.isSome) = true := by rfl) (hks : (backToKw pos (keywordEach kws X.env)).filterMap (·.1) = ks := by rfl) (hdb : (x == ("__debug__" : Str)) = false := by decide)
    (hpl : ((backTo pos (starEach [] X.env)).any (·.1) || (backToKw pos (keywordEach kws X.env)).any (·.1.isNone)) = false := by rfl) :
    PE X (.Call (.Name x p) [] kws pos) (tKw ks.length (gV []) sp tk) := by
  refine ⟨fun pins s σ H Q I h => wpAny_Call_Name_kw (ld_glob I hg hm ?_ hdb)⟩
  refine PySem.W.callWith_KW0 (h₀ := X.base) I.ok.mod.kin hk hall (thn (hkw.run pos pins s σ H _ I h) fun ws s2 ⟨zs, H2, I2, rz, l2, q2⟩ => ⟨I2.kIn, ?_⟩) hpl
  rw [hks]
  exact run_fnN (us := []) (vs := []) F hr hb L2.pass0 I2 .nil rz rfl l2 q2
end
end Gk
namespace Gk
open PySem PySem.Spec PyProof.Rows L2 PySem.Builtin.Str

/-! ### powers of great numbers -/
def CBigPow (i j : Int) : Prop := 0 ≤ j ∧ (Builtin.Int.intBits i : Int) * j ≤ 2 ^ 27
theorem op_bigpow {X : Cx} : OpR X (binaryOp .Pow) (rI CBigPow fun i j => .int (i ^ j.toNat)) := opI fun _ _ _ _ _ _ _ hc q => pow_int hc.1 hc.2 q

/-! ### repr of data -/
theorem call_reprD {X : Cx} {k : Nat} (hr : Room k X.A) (hg : X.A.guards = some []) : CallR X (.builtin "repr") (fun xs H Q => ∃ v d, xs = [v] ∧ Dp X.K H v d ∧ d.showable = true ∧ d.hasDict = false ∧
    d.depth ≤ 40 ∧ d.shown.length ≤ sizeLine ∧ Q (.str d.shown) H) := by
  intro pins s σ H xs us Q I r h
  obtain ⟨v, d, rfl, hd, hs, hn, hdep, hz, q⟩ := h
  obtain ⟨u, rfl, ru⟩ := vals1 r
  have hun := hr.units
  cases hd with
  | non =>
    cases ru
    exact PySem.P.repr_of_none ⟨.str _, H, I.tok _, ⟨_, rfl⟩, q⟩
  | bl b =>
    cases ru
    exact PySem.P.repr_of_bool ⟨.str _, H, I.tok _, ⟨_, rfl⟩, q⟩
  | int i =>
    obtain ⟨t, rfl⟩ := ru
    exact PySem.P.repr_of_int (of_decide_eq_true hs) ⟨.str _, H, I.tok _, ⟨_, rfl⟩, q⟩
  | str x =>
    obtain ⟨t, rfl⟩ := ru
    exact PySem.P.repr_of_str ⟨.str _, H, I.tok _, ⟨_, rfl⟩, q⟩ hz
  | lst h1 h2 =>
    rename_i a xs ds
    obtain ⟨as, rd⟩ := Dp.reads I (.list ds) (.ref a) u (.lst h1 h2) ru
    cases ru
    exact repr_of_reads' rd hs (PyData.noDict_hsm hn) hg (by omega) (fun _ _ e => e) (fun h' t tk hk => ⟨.str _, H, I.kept (t' := tk) hk, ⟨_, rfl⟩, q⟩) hz
  | tup h1 h2 =>
    rename_i a xs ds
    obtain ⟨as, rd⟩ := Dp.reads I (.tuple ds) (.ref a) u (.tup h1 h2) ru
    cases ru
    exact repr_of_reads' rd hs (PyData.noDict_hsm hn) hg (by omega) (fun _ _ e => e) (fun h' t tk hk => ⟨.str _, H, I.kept (t' := tk) hk, ⟨_, rfl⟩, q⟩) hz

/-! ### a text from behind -/
theorem rev_signs (z : Str) : ((strSliceIndices none none (-1) z.length).filterMap (z.cps[·]?)).toArray = z.cps.toList.reverse.toArray := by
  have e : strSliceIndices none none (-1) z.length = (List.range z.cps.size).reverse := by
    show sliceRange ((z.cps.size : Int) - 1) (-1) (-1) = _
    rw [PySem.W.krv_sliceRange, PySem.W.krv_range]
  rw [e, List.filterMap_reverse, PySem.W.krv_all]
def tRevT (te : TE) : TE := fun σ H Q => te σ H fun x H1 => ∃ z : Str, x = .str z ∧ z.length ≤ sizeLine ∧ Q (.str ⟨z.cps.toList.reverse.toArray⟩) H1
theorem pe_revT {X : Cx} {e : Expr} {te : TE} {k : Nat} {p1 p2 p3 pos : Pos} (he : PE X e te) : PE X (.Subscript e (.Slice none none (some (.UnaryOp .USub (.Constant (.int 1) k p1) p2)) p3) pos) (tRevT te) := by
  refine ⟨fun pins s σ H Q I h => Subscript_ (thn (he.run pins s σ H _ I h) fun v s1 ⟨x, H1, I1, r1, z, ex, hz, q⟩ => ?_)⟩
  subst ex
  obtain ⟨t, rfl⟩ := r1
  have step : PO X (some (.UnaryOp .USub (.Constant (.int 1) k p1) p2)) (tPart (tUn (rU fun i => .int (-i)) (tC (.int 1)))) := po_some (pe_un un_neg pe_int)
  refine wpAny_Slice (thn (po_none.run pins s1 σ H1 (fun o G => o = none ∧ G = H1) I1 ⟨rfl, rfl⟩) fun vl s2 ⟨l, H2, I2, pl, el, e2⟩ => ?_)
  subst e2 el
  refine thn (po_none.run pins s2 σ H2 (fun o G => o = none ∧ G = H2) I2 ⟨rfl, rfl⟩) fun vu s3 ⟨u, H3, I3, pu, eu, e3⟩ => ?_
  subst e3 eu
  refine thn (step.run pins s3 σ H3 (fun o G => o = some (-1) ∧ G = H3) I3 ⟨1, rfl, -1, rfl, rfl, rfl⟩) fun vs s4 ⟨o, H4, I4, ps, eo, e4⟩ => ?_
  subst e4 eo
  obtain ⟨l, rfl, el⟩ := IsPart.raw pl
  obtain ⟨u, rfl, eu⟩ := IsPart.raw pu
  obtain ⟨w, rfl, ew⟩ := IsPart.raw ps
  have I5 : Inv X pins σ H4 { s4 with heap := s4.heap.push { cls := .type "slice", data := .fields #[partValue l, partValue u, partValue w] } } :=
    I4.kept (t' := s4.toks) fun b ob g => Heap.get?_push_of_some _ g
  refine tail_any (T := "str") (ops := [.str z t, .ref s4.heap.objs.size]) (typeIs_str _ _ _) F.slot_str_getitem.lookup ?_ (by with_unfolding_all rfl)
  refine wpAny_getItem_str_slice (l := l) (u := u) (st := w) ⟨_, Heap.get?_push_size _ rfl, rfl, rfl⟩ (by rw [ew]; rfl) ?_
  unfold sliceMade slicePicked
  rw [el, eu, ew]
  show Made.post (if ((-1 : Int) == 1 && _) = true then _ else Made.str ⟨((strSliceIndices none none (-1) z.length).filterMap (z.cps[·]?)).toArray⟩) _ _
  rw [show ((-1 : Int) == 1) = false from rfl, Bool.false_and, if_neg Bool.false_ne_true, rev_signs]
  have hl : (⟨z.cps.toList.reverse.toArray⟩ : Str).length ≤ sizeLine := by
    show z.cps.toList.reverse.toArray.size ≤ sizeLine
    rw [List.size_toArray, List.length_reverse, Array.length_toList]
    exact hz
  exact ⟨hl, .str _, H4, I5.tok _, ⟨_, rfl⟩, q⟩

/-! ### enumerate of a text -/
def Iet (z : Str) : It := ⟨fun i _ => i < z.cps.size, fun i H v H' => ∃ T c, v = .ref T ∧ H T = none ∧ z.cps[i]? = some c ∧ H' = upd H T (.tup [.int (i : Nat), .str ⟨#[c]⟩]), fun i _ => z.cps.size ≤ i⟩
theorem turn_et {P : Program} {w : World} {K : PySem.W.Frag} {elts : List Expr} {kk : Nat} {tpos : Pos} (e it : Addr) (z : Str) (t : Tok) :
    Turn P w K (.Tuple elts kk tpos) (Iet z) [e, it] e (fun i h => ((∃ old, IsEnum h e it i old) ∧ h.IsStrIter it (strIterType z) z t i) ∧ e ≠ it ∧ i ≤ z.cps.size) where
  mem := List.mem_cons_self
  obj := fun i h st b hb => by
    obtain ⟨⟨⟨old, he⟩, ⟨o, ho, hc, hd⟩⟩, _⟩ := st
    rcases List.mem_cons.mp hb with rfl | hb
    · exact ⟨_, he, fun v g => nomatch g⟩
    · rw [List.mem_singleton.mp hb]
      exact ⟨o, ho, fun v g => by rw [hd] at g; cases g⟩
  keep := fun i h h' st k => by
    obtain ⟨⟨⟨old, he⟩, ⟨o, ho, hc, hd⟩⟩, hne⟩ := st
    exact ⟨⟨⟨old, k e List.mem_cons_self _ he⟩, o, k it (List.mem_cons_of_mem _ List.mem_cons_self) o ho, hc, hd⟩, hne⟩
  item := by
    intro X hP hw hK hc i pins s σ H E I hf st hg
    subst hP hw hK
    have hg' : i < z.cps.size := hg
    obtain ⟨st, hne, hi⟩ := st
    have D : Draws X.prog X.w X.A.in1 it [it] z.cps.size _ _ := Draws.text (show X.A.in1.handled = none from I.ok.hd hc) it z t
    have W := WalksT.enumerateD D e hne (fun q => hne (List.mem_singleton.mp q)) List.mem_cons_self
    have hel : e < s.heap.objs.size := by obtain ⟨⟨old, he⟩, _⟩ := st; exact Heap.lt_size he
    have hil : it < s.heap.objs.size := by obtain ⟨_, o, ho, _⟩ := st; exact Heap.lt_size ho
    refine W.item i s _ _ hg' st fun T vals h' tk hp hT isT mid hk => ?_
    obtain ⟨t1, x1, ⟨c, u1, hcx, rfl⟩, rfl⟩ := hp
    have nT := W.apart i T h' mid
    refine ⟨_, rfl, W.go elts kk tpos i T { s with heap := h', toks := tk } _ _ mid fun h2 st2 hk2 => ?_⟩
    obtain ⟨oT, gT, cT, nTT, dT⟩ := isT
    have gT2 := hk2 T oT nT gT
    have new : ObjOk X.prog X.w (upd H T (.tup [.int (i : Nat), .str ⟨#[c]⟩])) h2 T (.tup [.int (i : Nat), .str ⟨#[c]⟩]) :=
      ⟨by show 2 ≤ sizeLine; decide, [.int i t1, .str ⟨#[c]⟩ u1], .cons ⟨_, rfl⟩ (.cons ⟨_, rfl⟩ .nil), ⟨oT, gT2, cT, nTT, dT⟩⟩
    have I1 : Inv X pins σ (upd H T (.tup [.int (i : Nat), .str ⟨#[c]⟩])) { s with heap := h2, toks := tk } :=
      I.turnedNew (ch := [e, it]) (fun b ob hb g => hk2 b ob hb (hk b ob hb g)) hf hT new
    refine ⟨.ref T, _, I1, rfl, ⟨T, c, rfl, I.hok.fresh hT, hcx, rfl⟩, ⟨⟨?_, st2.2⟩, hne, hg'⟩, fun b hb => ?_⟩
    · exact st2.1
    · have hb' : b < s.heap.objs.size := by
        rcases List.mem_cons.mp hb with rfl | hb
        · exact hel
        · rw [List.mem_singleton.mp hb]; exact hil
      rw [upd_ne (Nat.ne_of_lt (Nat.lt_of_lt_of_le hb' hT))]
      exact (hf b hb).1
  done := by
    intro X hP hw hK hc i pins s σ H E I hf st hg
    subst hP hw hK
    obtain ⟨st, hne, hi⟩ := st
    have hg' : z.cps.size ≤ i := hg
    obtain rfl : i = z.cps.size := Nat.le_antisymm hi hg'
    have D : Draws X.prog X.w X.A.in1 it [it] z.cps.size _ _ := Draws.text (show X.A.in1.handled = none from I.ok.hd hc) it z t
    have W := WalksT.enumerateD D e hne (fun q => hne (List.mem_singleton.mp q)) List.mem_cons_self
    refine W.done s _ _ st fun h' tk hk => ⟨rfl, ?_⟩
    exact I.step (g' := s.gens) (d' := s.drawn) (ch := [e, it]) (fun b hb => ⟨(hf b hb).2.2.2.1, (hf b hb).2.1, (hf b hb).2.2.2.2.1, (hf b hb).2.2.2.2.2⟩) (fun b o _ _ hc g _ => hk b o hc g) (fun b o _ _ hc g _ => ⟨o.slots, hk b o hc g⟩)
      (fun _ _ _ _ n => n) (fun b o hc g => ⟨o, hk b o hc g⟩) (fun _ _ g => g) (fun _ _ _ g => g) (fun b ps g => ⟨#[], by rw [g]; simp⟩)
      (fun m hm => by
        obtain ⟨o, es, ep, ho, r⟩ := hm
        exact ⟨o, es, ep, hk _ o (fun q => (hf _ q).2.1 rfl) ho, r⟩)
      (fun b u g => by
        have nb : ∀ c v, H c = some v → c ∉ [e, it] := fun c v g q => by
          have g' := (hf c q).1
          rw [g'] at g; cases g
        refine (I.hok b u g).stay (fun c v hcv q => hk c v ?_ q) (fun _ q => q) fun _ _ q => q
        rcases hcv with rfl | hcv
        · exact nb _ _ g
        · exact nb _ _ hcv) I.bare
  self := fun A i s Q E st h => by
    obtain ⟨⟨⟨old, he⟩, _⟩, _⟩ := st
    exact wpAny_pyIter_enum he h
def iEnumT (ta : TA) : TI := fun σ H R => ta σ H fun vs H1 => ∃ z, vs = [.str z] ∧ R (Iet z) H1
theorem pi_enumT {X : Cx} {e : Expr} {ta : TA} {p pos tpos : Pos} {elts : List Expr} {kk : Nat} (hg : Gl X "enumerate") (hm : X.mg "enumerate" = none) (ha : PA X [e] ta) (hs : starEach [e] X.env = [(false, eval e X.env)] := by rfl) :
    PI X (.Tuple elts kk tpos) (.Call (.Name "enumerate" p) [e] [] pos) (iEnumT ta) := by
  refine ⟨fun pins s σ H R I h => Call_ (ld_blt I hg hm boot_enumerate (PyProof.Rows.callWith_type1 (thn (ha.run pos pins s σ H _ I h) fun us s1 ⟨vs, H1, I1, r1, z, ez, q⟩ => ?_) hs rfl))⟩
  subst ez
  obtain ⟨u, rfl, t, rfl⟩ := vals1 r1
  refine call_enumerate_str fun h' he hit hsz hk => wpAny_pyIter_enum he ?_
  refine ⟨s1.heap.objs.size + 1, [s1.heap.objs.size + 1, s1.heap.objs.size], _, _, H1, rfl, I1.kept (t' := s1.toks) hk, turn_et (s1.heap.objs.size + 1) s1.heap.objs.size z t, ⟨⟨⟨.none, he⟩, hit⟩, Nat.succ_ne_self _, Nat.zero_le _⟩, fun b hb => ?_, q⟩
  have hle : s1.heap.objs.size ≤ b := by
    rcases List.mem_cons.mp hb with rfl | hb
    · exact Nat.le_succ _
    · rw [List.mem_singleton.mp hb]
      exact Nat.le_refl _
  exact I1.fpOk hle (I1.hok.fresh hle)
theorem walk_et {z : Str} : Walk (Iet z) z.cps.size (fun _ => True) (fun i H v H' => ∃ T c, v = .ref T ∧ H T = none ∧ z.cps[i]? = some c ∧ H' = upd H T (.tup [.int (i : Nat), .str ⟨#[c]⟩])) :=
  ⟨fun _ _ hi _ => hi, fun _ _ => Nat.le_refl _, fun _ _ _ _ _ _ y => y⟩
end Gk
namespace Gk
open PySem PySem.Spec PyProof.Rows L2
/-! ### the box of draws -/
def Box (m : Nat) (H : Hp) (b : Addr) : Prop := ∃ x y s : Int, H b = some (.lst [.int x, .int y, .int s]) ∧ 0 ≤ s ∧ s ≤ m
theorem Box.up {m n : Nat} {H : Hp} {b : Addr} (h : Box m H b) (hn : m ≤ n) : Box n H b := by
  obtain ⟨x, y, s, e, h0, h1⟩ := h
  exact ⟨x, y, s, e, h0, by omega⟩
/-- all but the box is as it was -/
def But (b : Addr) (H H' : Hp) : Prop := ∀ a o, a ≠ b → H a = some o → H' a = some o
theorem But.refl (b : Addr) (H : Hp) : But b H H := fun _ _ _ h => h
theorem But.trans {b : Addr} {H H1 H2 : Hp} (x : But b H H1) (y : But b H1 H2) : But b H H2 := fun a o n h => y a o n (x a o n h)
theorem But.set {b : Addr} {H : Hp} {o : HO} : But b H (upd H b o) := fun a u n h => by rw [upd_ne n]; exact h
theorem But.new {b p : Addr} {H : Hp} {o : HO} (h : H p = none) : But b H (upd H p o) := fun a u _ e => by rw [upd_ne (ne_of_none e h)]; exact e
theorem But.of_same {b : Addr} {H H' : Hp} (h : Same H H') : But b H H' := fun a o _ e => h a o e
theorem same_new {H : Hp} {p : Addr} {o : HO} (h : H p = none) : Same H (upd H p o) := fun a u e => by rw [upd_ne (ne_of_none e h)]; exact e
theorem Box.same {m : Nat} {H H' : Hp} {b : Addr} (h : Box m H b) (s : Same H H') : Box m H' b := by
  obtain ⟨x, y, z, e, r⟩ := h
  exact ⟨x, y, z, s _ _ e, r⟩
theorem Box.ne {m : Nat} {H : Hp} {b p : Addr} (h : Box m H b) (hp : H p = none) : b ≠ p := by
  obtain ⟨x, y, z, e, r⟩ := h
  exact ne_of_none e hp
theorem But.seqL {b : Addr} {K : PySem.W.Frag} {H H' : Hp} {a : Addr} {xs : List V} (e : But b H H') (n : a ≠ b) (h : SqL K H a xs) : SqL K H' a xs := by
  rcases h with (h | ⟨o, h⟩) | h
  · exact .inl (.inl (e _ _ n h))
  · exact .inl (.inr ⟨o, e _ _ n h⟩)
  · exact .inr h
theorem But.seqT {b : Addr} {K : PySem.W.Frag} {H H' : Hp} {a : Addr} {xs : List V} (e : But b H H') (n : a ≠ b) (h : SqT K H a xs) : SqT K H' a xs := by
  rcases h with (h | ⟨o, h⟩) | h
  · exact .inl (.inl (e _ _ n h))
  · exact .inl (.inr ⟨o, e _ _ n h⟩)
  · exact .inr h
theorem Same.seqT {K : PySem.W.Frag} {H H' : Hp} {a : Addr} {xs : List V} (e : Same H H') (h : SqT K H a xs) : SqT K H' a xs := by
  rcases h with (h | ⟨o, h⟩) | h
  · exact .inl (.inl (e _ _ h))
  · exact .inl (.inr ⟨o, e _ _ h⟩)
  · exact .inr h
/-- what is read at an address that is not the box's -/
theorem box_not_tup {m : Nat} {K : PySem.W.Frag} {H : Hp} {b a : Addr} (h : Box m H b) {xs : List V} (t : H a = some (.tup xs)) : a ≠ b := by
  obtain ⟨x, y, z, e, r⟩ := h
  exact ne_of t e (fun q => HO.noConfusion q)

/-! ### defs with their names -/
structure Dfn (P : Program) (w : World) (K : PySem.W.Frag) (mg : Str → Option Value) (base : Heap) (k : Nat) (x : Str) (ps : List Str) (sp : Sp) : Prop where
  ex : ∃ (f : Addr) (fd : FuncData), FnOk P w K mg base L2.CX0 k f fd ps sp ∧ mg x = some (.ref f) ∧ PySem.W.keepIn K (.ref f) = true ∧ Binds K fd ps []
/-- .. where nothing is being shown -/
structure DfG (P : Program) (w : World) (K : PySem.W.Frag) (mg : Str → Option Value) (base : Heap) (k : Nat) (x : Str) (ps : List Str) (sp : Sp) : Prop where
  ex : ∃ (f : Addr) (fd : FuncData), FnG P w K mg base k f fd ps sp ∧ mg x = some (.ref f) ∧ PySem.W.keepIn K (.ref f) = true ∧ Binds K fd ps []
section
variable {X : Cx} {k j : Nat} {x : Str} {ps : List Str} {sp : Sp} {p pos : Pos} {e : Expr} {es : List Expr} {t : TA}
theorem pe_d (D : Dfn X.prog X.w X.K X.mg X.base k x ps sp) (hr : Room j X.A) (hk : k ≤ j) (hg : Gl X x) (ha : PA X (e :: es) t)
    (hdb : (x == ("__debug__" : Str)) = false := by decide) (he : starEach (e :: es) X.env = (false, eval e X.env) :: starEach es X.env := by rfl)
    (hpl : (backTo pos (starEach es X.env)).any (·.1) = false := by rfl) : PE X (.Call (.Name x p) (e :: es) [] pos) (tCall sp [] L2.E0 t) := by
  obtain ⟨f, fd, F, m, kp, b⟩ := D.ex
  exact L2.pe_call (F.mono hk) hr hg m kp b .nil L2.pass0 ha hdb he hpl
theorem pe_dg (D : DfG X.prog X.w X.K X.mg X.base k x ps sp) (hr : Room j X.A) (hd : X.A.guards = some []) (hk : k ≤ j) (hg : Gl X x) (ha : PA X (e :: es) t)
    (hdb : (x == ("__debug__" : Str)) = false := by decide) (he : starEach (e :: es) X.env = (false, eval e X.env) :: starEach es X.env := by rfl)
    (hpl : (backTo pos (starEach es X.env)).any (·.1) = false := by rfl) : PE X (.Call (.Name x p) (e :: es) [] pos) (tG sp t) := by
  obtain ⟨f, fd, F, m, kp, b⟩ := D.ex
  exact pe_g (F.weak hk) hr hd hg m kp b ha hdb he hpl
end
/-- an expression whose ways meet -/
def tMid (t : TE) : TE := fun σ H Q => ∃ Mid : V → Hp → Prop, t σ H Mid ∧ ∀ v H', Mid v H' → Q v H'
theorem pe_mid {X : Cx} {e : Expr} {t : TE} (h : PE X e t) : PE X e (tMid t) :=
  ⟨fun pins s σ H Q I ⟨M, h1, h2⟩ => thn (h.run pins s σ H M I h1) fun u s1 ⟨v, H1, I1, r, q⟩ => ⟨v, H1, I1, r, h2 v H1 q⟩⟩
/-- a test whose ways meet -/
def tMidT (t : TT) : TT := fun σ H Q => ∃ Mid : Bool → Hp → Prop, t σ H Mid ∧ ∀ b H', Mid b H' → Q b H'
/-- a def called by keywords alone -/
structure DfK (P : Program) (w : World) (K : PySem.W.Frag) (mg : Str → Option Value) (base : Heap) (k : Nat) (x : Str) (ps ks : List Str) (gV : List V → List V) (sp : Sp) : Prop where
  ex : ∃ (f : Addr) (fd : FuncData) (g : List Value → List Value → List Value), FnOk P w K mg base L2.CX0 k f fd ps sp ∧ mg x = some (.ref f) ∧ PySem.W.keepIn K (.ref f) = true ∧ KBn K fd ps 0 ks g (fun _ zs => gV zs)
theorem pe_dk {X : Cx} {k j : Nat} {x : Str} {ps ks : List Str} {sp : Sp} {gV : List V → List V} {p pos : Pos} {kws : List Keyword} {tk : TA} (D : DfK X.prog X.w X.K X.mg X.base k x ps ks gV sp) (hr : Room j X.A) (hk : k ≤ j) (hg : Gl X x)
    (hkw : PK X kws tk) (hall : (backToKw pos (keywordEach kws X.env)).all (·.1.isSome) = true := by rfl) (hks : (backToKw pos (keywordEach kws X.env)).filterMap (·.1) = ks := by rfl) (hdb : (x == ("__debug__" : Str)) = false := by decide)
    (hpl : ((backTo pos (starEach [] X.env)).any (·.1) || (backToKw pos (keywordEach kws X.env)).any (·.1.isNone)) = false := by rfl) :
    PE X (.Call (.Name x p) [] kws pos) (tKw ks.length gV sp tk) := by
  obtain ⟨f, fd, g, F, m, kp, b⟩ := D.ex
  exact pe_kw (F.mono hk) hr hg m kp b hkw hall hks hdb hpl
/-- text * n -/
theorem op_mulS {X : Cx} : OpR X (binaryOp .Mult) (fun x y H Q => ∃ z n, x = .str z ∧ y = .int n ∧ MulOk z n ∧ Q (.str (Txt.mul z n)) H) := by
  intro pins s σ H x y v u Q I rx ry h
  obtain ⟨z, n, rfl, rfl, hc, q⟩ := h
  obtain ⟨t, rfl⟩ := rx
  obtain ⟨t', rfl⟩ := ry
  exact SB.mul hc fun t2 k => ⟨.str _, H, I.tok _, ⟨_, rfl⟩, q⟩
/-- data that may be shown -/
structure Fine (d : PyData) : Prop where
  a : d.showable = true
  b : d.hasDict = false
  c : d.depth ≤ 40
  e : d.shown.length ≤ sizeLine
theorem Fine.of {d : PyData} (B : Nat) (hB : 8 ≤ B) (hB2 : B ≤ 1000) (a : d.showable = true) (b : d.hasDict = false) (c : d.depth ≤ 40) (l : d.leavesShort B = true) (w : d.weight ≤ 10000) : Fine d :=
  ⟨a, b, c, by
    have h := PyData.shown_le B hB d l
    have h2 : (B + 2) * d.weight ≤ 1002 * 10000 := Nat.mul_le_mul (by omega) w
    have h3 : sizeLine = 16777216 := sizeLine_eq
    omega⟩
theorem call_reprF {X : Cx} {k : Nat} (hr : Room k X.A) (hg : X.A.guards = some []) : CallR X (.builtin "repr") (fun xs H Q => ∃ v d, xs = [v] ∧ Dp X.K H v d ∧ Fine d ∧ Q (.str d.shown) H) :=
  fun pins s σ H xs us Q I r ⟨v, d, h1, h2, h3, q⟩ => call_reprD hr hg pins s σ H xs us Q I r ⟨v, d, h1, h2, h3.a, h3.b, h3.c, h3.e, q⟩
theorem fine_ints {a b : Int} (ha : a.natAbs < 10 ^ 20) (hb : b.natAbs < 10 ^ 20) : Fine (.list [.int a, .int b]) := by
  have len : ∀ c : Int, c.natAbs < 10 ^ 20 → (PyData.shown (.int c)).length ≤ 21 := fun c hc => by
    have h := int_text_length_le10 (a := c) (k := 20) (by decide) hc
    show (Str.ofString (toString c)).length ≤ 21
    rw [PySem.ofString_length]
    exact h
  have la := len a ha
  have lb := len b hb
  have ga : a.natAbs.log2 < 1920 := PySem.Flt.log2_lt_of (by decide) (Nat.lt_of_lt_of_le ha (by decide))
  have gb : b.natAbs.log2 < 1920 := PySem.Flt.log2_lt_of (by decide) (Nat.lt_of_lt_of_le hb (by decide))
  refine Fine.of 21 (by decide) (by decide) ?_ rfl (by simp [PyData.depth, PyData.depthAll]) ?_ (by simp only [PyData.weight, PyData.weightAll]; split <;> split <;> omega)
  · simp only [PyData.showable, PyData.showableAll, ga, gb, decide_true, Bool.and_self]
  · simp only [PyData.leavesShort, PyData.leavesShortAll, la, lb, decide_true, Bool.and_self]
/-- a promise that does not speak of what is raised, as a value -/
theorem sqL_at {K : PySem.W.Frag} {H : Hp} {a : Addr} {xs : List V} (h : H a = some (.lst xs)) : SqL K H a xs := SqL.of h
end Gk
namespace Gk
open PySem PySem.Spec PyProof.Rows L2
/-- the caller shows nothing -/
theorem caller_guards : callerA.guards = some [] := rfl
/-- the law's call, its promise told where nothing is being shown -/
theorem callG {P : Program} {w : World} {K : PySem.W.Frag} {mg mb : Str → Option Value} {k : Nat} {fa a : Addr} {fd : FuncData} {x : Str} {sp : Sp} {s1 : Shared} {vs : List Value} {ns : List Int}
    (KX : K.In s1.heap) (n1 : s1.heap.Ns mainGlobals mg) (n2 : s1.heap.Ns builtinsNs mb) (n3 : ∀ x : Str, x ≠ "__name__" → mb x = bootBuiltins x) (lim : s1.heap.NoLimit) (gen : s1.gens = #[])
    (at_ : s1.heap.get? a = some { cls := .type "list", data := .seq vs.toArray }) (iss : IntsAre vs ns) (few : ns.length ≤ sizeLine) (room : Room k callerA)
    (F : ∀ base : Heap, K.In base → base.Ns mainGlobals mg → FnG P w K mg base k fa fd [x] sp) (binds : ∀ (s : Shared) (u : Value), BindsTo s fd ⟨[u], []⟩ [(x, u)])
    (want : ∀ H : Hp, Only H → SqL K H a (ns.map V.int) → sp [.ref a] H (fun v _ => v = .bl true) L2.E0) :
    codeAny (model P w) callerA (.call (.ref fa) ⟨[.ref a], []⟩) (fun r s' => r = .ok (.ret (.bool true)) ∧ OldK s1.heap s'.heap ∧ s'.os = s1.os ∧ AllBare s'.gens) s1 := by
  have rv := L2.vals_ints iss
  have go : ∀ H : Hp, Only H → SqL K H a (ns.map V.int) → HOk P w H s1.heap → (∀ b, H b ≠ none → b = a) → (H a ≠ none → K.lookup a = none) →
      codeAny (model P w) callerA (.call (.ref fa) ⟨[.ref a], []⟩) (fun r s' => r = .ok (.ret (.bool true)) ∧ OldK s1.heap s'.heap ∧ s'.os = s1.os ∧ AllBare s'.gens) s1 := by
    intro H only there held alone apart
    have isA : ∀ {b : Addr} {u : HO}, H b = some u → b = a := fun {b u} e => alone b (fun z => by rw [e] at z; cases z)
    have free : ∀ {b : Addr} {o : Obj} {es : Array DictEntry} {ep : Nat}, s1.heap.get? b = some o → o.data = .dict es ep → H b = none := by
      intro b o es ep e d
      cases q : H b with
      | none => rfl
      | some u =>
        obtain rfl := isA q
        rw [at_] at e
        cases e
        exact Data.noConfusion (show Data.seq vs.toArray _ = Data.dict es ep from d)
    have nsB : ∀ {b : Addr} {m : Str → Option Value}, s1.heap.Ns b m → (hidT s1.heap H).Ns b m := by
      intro b m h
      obtain ⟨o, es, ep, e, d, r⟩ := h
      exact ⟨o, es, ep, hidT_get e (free e d), d, r⟩
    have KB : K.In (hidT s1.heap H) := by
      intro b o e
      refine hidT_get (KX b o e) ?_
      cases q : H b with
      | none => rfl
      | some u =>
        obtain rfl := isA q
        have z := apart (fun z => by rw [q] at z; cases z)
        rw [z] at e
        cases e
    obtain ⟨mc, c1, c2⟩ := lim
    have en : Env0 P w K mg (hidT s1.heap H) callerA [] s1 H :=
      { frames := rfl, mod := ⟨KB, nsB n1, ⟨mb, nsB n2, n3⟩, ⟨mc, nsB c1, c2⟩⟩, bs := fun b o e => of_hidT e, bsz := Nat.le_of_eq (hidT_size _ _), funs := trivial,
        frf := fun b hb => (nomatch (show b ∈ ([] : List Addr) from hb)), hok := held, bare := .of_eq gen }
    refine codeAny_mono ((F _ KB (nsB n1)).go callerA [] s1 H ⟨[.ref a], []⟩ [.ref a] [.ref a] _ room caller_guards en (binds s1 (.ref a)) (.cons rfl .nil) (want H only there)) fun r s' res => ?_
    match r, res with
    | .error _, res => exact False.elim res
    | .ok .next, res => exact False.elim res
    | .ok .brk, res => exact False.elim res
    | .ok .cont, res => exact False.elim res
    | .ok (.ret u), res =>
      obtain ⟨v, H1, os, bare, un, held1, rel, qv⟩ := res
      have qv : v = .bl true := qv
      subst qv
      obtain rfl : u = Value.bool true := rel
      refine ⟨rfl, OldK.of_keep fun b o e => ?_, os, bare⟩
      cases q : H b with
      | none => exact un.keep b o e q (fun z => (nomatch (show b ∈ ([] : List Addr) from z))) (fun z => (nomatch z))
      | some u =>
        rcases only b with z | ⟨ob, xs, z⟩
        · rw [q] at z
          cases z
        · have f1 := (held b _ z).1
          have f2 := (held1 b _ (un.frzs b ob _ z)).1
          rw [e] at f1
          cases f1
          exact f2
  cases kl : K.lookup a with
  | some o =>
    have e := KX a o kl
    rw [at_] at e
    cases e
    exact go (fun _ => none) (fun _ => .inl rfl) (.inr ⟨_, vs.toArray, _, kl, rfl, rfl, rfl, by rw [List.size_toArray, iss.length]; exact few, by simpa using rv⟩) (fun b u z => (nomatch (show (none : Option HO) = some u from z))) (fun b z => absurd rfl z) (fun z => absurd rfl z)
  | none =>
    refine go (fun b => if b = a then some (.frz { cls := .type "list", data := .seq vs.toArray } (.lst (ns.map V.int))) else none) ?_ (.inl (.inr ⟨_, if_pos rfl⟩)) ?_ ?_ (fun _ => kl)
    · intro b
      by_cases h : b = a
      · exact .inr ⟨_, _, if_pos h⟩
      · exact .inl (if_neg h)
    · intro b u z
      by_cases h : b = a
      · obtain rfl := Option.some.inj ((if_pos h).symm.trans z)
        subst h
        exact ⟨at_, by rw [List.length_map]; exact few, vs, _, rv, at_⟩
      · exact (nomatch ((if_neg h).symm.trans z))
    · intro b z
      by_cases h : b = a
      · exact h
      · exact absurd (if_neg h) z

/-- the goal behind the head -/
theorem walkG {l : PySem.W.OpenLaw} {n k : Nat} {q : Program} {loose : List Str} {XP : (Str → Option Value) → Heap → Prop} {YP : World → Heap → Prop} {d : DefRec} {K : Params → PySem.W.Frag} {sp : World → Sp} {x : Str}
    (h1 : l.most = some n) (h2 : n ≤ sizeLine) (h3 : d.params.defaults = []) (h4 : Room k callerA) (h5 : ∀ (w : World) (h : Heap), YP w h → (K w.params).In h)
    (F : ∀ (w : World) (mg : Str → Option Value) (fa : Addr) (h : Heap), (K w.params).In h → h.Ns mainGlobals mg → mg d.name = some (.ref fa) →
      ∃ fd : FuncData, (∀ (s : Shared) (u : Value), BindsTo s fd ⟨[u], []⟩ [(x, u)]) ∧ ∀ base : Heap, (K w.params).In base → base.Ns mainGlobals mg → FnG l.prog w (K w.params) mg base k fa fd [x] (sp w))
    (h6 : ∀ (w : World) (H : Hp) (a : Addr) (ns : List Int), ns.length ≤ n → Only H → SqL (K w.params) H a (ns.map V.int) → sp w [.ref a] H (fun v _ => v = .bl true) L2.E0) :
    PySem.W.WalkO q loose XP YP l.row.toRowW d [] (fun f vs => PySem.call f vs) :=
  Att.attach_call h1 h3 fun w s0 s1 mg mb fa o pm cd doc a vs ns G Y ho hd hcd hmg obj iss len gen => by
    obtain ⟨fd, hb, hF⟩ := F w mg fa _ (h5 w _ Y) G.T.g hmg
    exact callG (h5 w _ Y) G.T.g G.T.b G.T.builtins G.T.nolimit gen obj iss (Nat.le_trans len h2) h4 hF hb (fun H hO hS => h6 w H a ns len hO hS)
end Gk
namespace Gk
open PySem PySem.Spec PyProof.Rows L2
theorem mul_same (l : Addr) (its : Array Value) (n : Nat) (dd : Option Addr) (sl : Array (Option Value)) (u : Tok) :
    Meets (Builtin.«tuple.__mul__» ⟨[.ref l, .int 1 u], []⟩) (fun _ R s => s.heap.get? l = some { cls := .type "tuple", dict := dd, data := .seq its n, slots := sl } ∧ R (.ok (.ret (.ref l))) s) :=
  .of_wp fun prog w A R s h => by
    obtain ⟨hp, g, d, tk, os⟩ := s
    obtain ⟨hl, h⟩ := h
    have f1 := AutoSeq1.idx_int
    have c0 : (decide ((1 : Int) < -(2 ^ 63)) || decide ((1 : Int) ≥ 2 ^ 63)) = false := by decide
    have c1 : (its.isEmpty || (1 : Int) == 1) = true := by simp
    wp_walk using wpAny_loadPart' hl
    repeat (first
      | (refine wpAny_ite_false (decide_eq_false (by rw [c0]; exact Bool.false_ne_true)) ?_; wp_walk using wpAny_loadPart' hl)
      | (refine wpAny_ite_true (decide_eq_true (by rw [c1])) ?_; wp_walk using wpAny_loadPart' hl))
    all_goals first | exact ⟨_, rfl, h⟩ | skip
theorem mul_none (l : Addr) (its : Array Value) (n : Nat) (dd : Option Addr) (sl : Array (Option Value)) (x : Int) (u : Tok) (hx : x ≤ 0) (hx2 : -(2 ^ 63) ≤ x) (hi : its.isEmpty = false) :
    Meets (Builtin.«tuple.__mul__» ⟨[.ref l, .int x u], []⟩) (fun _ R s => s.heap.get? l = some { cls := .type "tuple", dict := dd, data := .seq its n, slots := sl } ∧
      R (.ok (.ret (Value.ref s.heap.objs.size))) { s with heap := s.heap.push { cls := Value.type "tuple", data := Data.seq #[] }, toks := s.toks }) :=
  .of_wp fun prog w A R s h => by
    obtain ⟨hp, g, d, tk, os⟩ := s
    obtain ⟨hl, h⟩ := h
    have f1 := AutoSeq1.idx_int
    have c0 : (decide (x < -(2 ^ 63)) || decide (x ≥ 2 ^ 63)) = false := by
      rw [decide_eq_false (by omega), decide_eq_false (by omega)] <;> rfl
    have c1 : (its.isEmpty || x == 1) = false := by
      rw [hi, Bool.false_or]
      exact beq_eq_false_iff_ne.mpr (by omega)
    have c2 : (decide (x ≤ 0) || its.isEmpty) = true := by
      rw [decide_eq_true hx] <;> rfl
    wp_walk using wpAny_loadPart' hl
    repeat (first
      | (refine wpAny_ite_false (decide_eq_false (by rw [c0]; exact Bool.false_ne_true)) ?_; wp_walk using wpAny_loadPart' hl)
      | (refine wpAny_ite_false (decide_eq_false (by rw [c1]; exact Bool.false_ne_true)) ?_; wp_walk using wpAny_loadPart' hl)
      | (refine wpAny_ite_true (decide_eq_true (by rw [c2])) ?_; wp_walk using wpAny_loadPart' hl))
    all_goals first | exact ⟨_, rfl, h⟩ | skip
/-- t * k, whatever object it is -/
def rRepU (K : PySem.W.Frag) : R2 := fun x y H Q => ∃ l k xs, x = .ref l ∧ y = .int k ∧ SqT K H l xs ∧ xs ≠ [] ∧ 0 ≤ k ∧ k ≤ 1000 ∧ xs.length ≤ 1000 ∧
  ∀ p H', Same H H' → SqT K H' p (List.replicate k.toNat xs).flatten → Q (.ref p) H'
section
variable {X : Cx}
theorem op_repU : OpR X (binaryOp .Mult) (rRepU X.K) := by
  intro pins s σ H x y v u Q I rx ry h
  obtain ⟨l, k, xs, rfl, rfl, hT, hne, h0, h1, hz, q⟩ := h
  by_cases h2 : 2 ≤ k
  · exact op_repT pins s σ H _ _ v u Q I rx ry ⟨l, k, xs, rfl, rfl, hT, hne, h2, h1, hz, fun p np => q p _ (same_new np) (.inl (.inl upd_same))⟩
  · cases rx
    obtain ⟨t, rfl⟩ := ry
    obtain ⟨its, r, ⟨⟨cls, dd, data, sl⟩, ho, hc, n, hd⟩, hs⟩ := I.tuple hT
    simp only at hc hd
    subst hc hd
    have many : its.length = xs.length := r.length.symm
    have full : its.toArray.isEmpty = false := by
      cases its with
      | nil => exact absurd (List.eq_nil_of_length_eq_zero many.symm) hne
      | cons a b => rfl
    by_cases h3 : k = 1
    · subst h3
      refine wpAny_binaryOp_repeat_ref (T := "tuple") (U := "int") (by decide) ⟨_, ho, rfl⟩ (fun s' => typeIs_int s' 1 t) noFill_tuple_mul F.fills_int_mul F.slot_int_rmul repeat_tuple F.slot_int_index.lookup
        (call_meets F.slot_int_rmul (typeIs_int s 1 t) F.entry_int_rmul (F.args_int_rmul_2 _ _) (int_rmul_tuple 1 t l its.toArray n dd sl)
          ⟨ho, rfl, ⟨_, ho, rfl⟩, call_meets F.slot_tuple_mul ⟨_, ho, rfl⟩ F.entry_tuple_mul (F.args_tuple_mul_2 _ _) (mul_same l its.toArray n dd sl t) ⟨ho, ?_⟩⟩)
      refine ⟨.ref l, H, I, rfl, q l H (Same.refl H) ?_⟩
      show SqT X.K H l ([xs].flatten)
      rw [List.flatten_cons, List.flatten_nil, List.append_nil]
      exact hT
    · have h4 : k = 0 := by omega
      subst h4
      refine wpAny_binaryOp_repeat_ref (T := "tuple") (U := "int") (by decide) ⟨_, ho, rfl⟩ (fun s' => typeIs_int s' 0 t) noFill_tuple_mul F.fills_int_mul F.slot_int_rmul repeat_tuple F.slot_int_index.lookup
        (call_meets F.slot_int_rmul (typeIs_int s 0 t) F.entry_int_rmul (F.args_int_rmul_2 _ _) (int_rmul_tuple 0 t l its.toArray n dd sl)
          ⟨ho, rfl, ⟨_, ho, rfl⟩, call_meets F.slot_tuple_mul ⟨_, ho, rfl⟩ F.entry_tuple_mul (F.args_tuple_mul_2 _ _) (mul_none l its.toArray n dd sl 0 t (by decide) (by decide) full) ⟨ho, ?_⟩⟩)
      have nf : H s.heap.objs.size = none := I.hok.fresh (Nat.le_refl _)
      exact ⟨.ref s.heap.objs.size, upd H s.heap.objs.size (.tup []), I.laid (t' := s.toks) (fun b ob g => Heap.get?_push_of_some _ g) (Nat.le_refl _) ⟨Nat.zero_le _, [], .nil, IsTup.new _ _⟩, rfl, q _ _ (same_new nf) (.inl (.inl upd_same))⟩
/-- t + u, whatever object it is -/
def rCatU (K : PySem.W.Frag) : R2 := fun x y H Q => ∃ a b xs ys, x = .ref a ∧ y = .ref b ∧ SqT K H a xs ∧ SqT K H b ys ∧ xs.length + ys.length ≤ sizeLine ∧ ∀ p H', Same H H' → SqT K H' p (xs ++ ys) → Q (.ref p) H'
theorem op_catU : OpR X (binaryOp .Add) (rCatU X.K) := by
  intro pins s σ H x y v u Q I rx ry h
  obtain ⟨a, b, xs, ys, rfl, rfl, ha, hb, hz, q⟩ := h
  refine op_catA pins s σ H _ _ v u Q I rx ry ⟨a, b, xs, ys, rfl, rfl, ha, hb, hz, fun e => ?_, fun _ e => ?_, fun _ _ p np => q p _ (same_new np) (.inl (.inl upd_same))⟩
  · subst e
    exact q b H (Same.refl H) hb
  · subst e
    exact q a H (Same.refl H) (by rw [List.append_nil]; exact ha)
theorem cut_whole {xs : List V} {lo hi : Option Int} (h : HT.sIx xs.length 0 lo = 0 ∧ HT.sIx xs.length xs.length hi = xs.length) : cutV xs lo hi = xs := by
  unfold cutV
  rw [h.1, h.2]
  simp
/-- t[lo:hi], whatever object it is -/
def rSlU (K : PySem.W.Frag) : V → Option Int → Option Int → Hp → VK → Prop := fun x lo hi H Q => ∃ a xs, x = .ref a ∧ SqT K H a xs ∧ ∀ p H', Same H H' → SqT K H' p (cutV xs lo hi) → Q (.ref p) H'
theorem sl_tupU : SlR X (rSlU X.K) := by
  intro pins s σ H x v vl vu lo hi sl Q I rx hs pl pu h
  obtain ⟨a, xs, rfl, hx, q⟩ := h
  exact sl_tupA pins s σ H _ v vl vu lo hi sl Q I rx hs pl pu ⟨a, xs, rfl, hx, fun e => q a H (Same.refl H) (by rw [cut_whole e]; exact hx), fun _ p np => q p _ (same_new np) (.inl (.inl upd_same))⟩
end
theorem cut_to {xs : List V} (n : Nat) : cutV xs none (some (n : Int)) = xs.take n := by
  unfold cutV
  rw [HT.sIx_none, HT.sIx_nat]
  show ((xs.drop 0).take (min n xs.length - 0)) = _
  rw [List.drop_zero, Nat.sub_zero, Nat.min_comm, List.take_eq_take_iff]
  omega
theorem cut_from {xs : List V} (n : Nat) : cutV xs (some (n : Int)) none = xs.drop n := by
  unfold cutV
  rw [HT.sIx_none, HT.sIx_nat]
  by_cases h : n ≤ xs.length
  · rw [Nat.min_eq_left h, List.take_of_length_le (by rw [List.length_drop]; exact Nat.le_refl _)]
  · rw [Nat.min_eq_right (by omega), List.drop_eq_nil_of_le (Nat.le_refl _), List.drop_eq_nil_of_le (by omega)]
    exact List.take_nil
end Gk
namespace Gk
open PySem PySem.Spec PyProof.Rows L2
/-! ### data that is easily shown and compared -/
mutual
def tame : PyData → Bool
  | .none | .bool _ => true
  | .int i => decide (i.natAbs < 10 ^ 20)
  | .str x => x.cps.all (· < 0x110000)
  | .list xs | .tuple xs => tameAll xs
  | .dict _ => false
def tameAll : List PyData → Bool
  | [] => true
  | x :: xs => tame x && tameAll xs
end
mutual
def cost : PyData → Nat
  | .none | .bool _ | .int _ => 70
  | .str x => x.cps.size + 1
  | .list xs | .tuple xs => costAll xs
  | .dict _ => 0
def costAll : List PyData → Nat
  | [] => 1
  | x :: xs => cost x + 1 + costAll xs
end
theorem int_len20 {c : Int} (hc : c.natAbs < 10 ^ 20) : (PyData.shown (.int c)).length ≤ 21 := by
  have h := int_text_length_le10 (a := c) (k := 20) (by decide) hc
  show (Str.ofString (toString c)).length ≤ 21
  rw [PySem.ofString_length]
  exact h
theorem int_log20 {c : Int} (hc : c.natAbs < 10 ^ 20) : c.natAbs.log2 < 68 := PySem.Flt.log2_lt_of (by decide) (Nat.lt_of_lt_of_le hc (by decide))
mutual
theorem tame_showable : ∀ d : PyData, tame d = true → d.showable = true
  | .none, _ => rfl
  | .bool _, _ => rfl
  | .int i, h => by
    have h1 := int_log20 (of_decide_eq_true (by simpa only [tame] using h))
    simp only [PyData.showable]
    exact decide_eq_true (by omega)
  | .str _, _ => rfl
  | .list xs, h => by simpa only [PyData.showable] using tame_showableAll xs (by simpa only [tame] using h)
  | .tuple xs, h => by simpa only [PyData.showable] using tame_showableAll xs (by simpa only [tame] using h)
  | .dict _, h => by simp [tame] at h
theorem tame_showableAll : ∀ ds : List PyData, tameAll ds = true → PyData.showableAll ds = true
  | [], _ => rfl
  | x :: xs, h => by
    simp only [tameAll, Bool.and_eq_true] at h
    simp only [PyData.showableAll, tame_showable x h.1, tame_showableAll xs h.2, Bool.and_self]
end
mutual
theorem tame_nodict : ∀ d : PyData, tame d = true → d.hasDict = false
  | .none, _ => rfl
  | .bool _, _ => rfl
  | .int _, _ => rfl
  | .str _, _ => rfl
  | .list xs, h => by simpa only [PyData.hasDict] using tame_nodictAll xs (by simpa only [tame] using h)
  | .tuple xs, h => by simpa only [PyData.hasDict] using tame_nodictAll xs (by simpa only [tame] using h)
  | .dict _, h => by simp [tame] at h
theorem tame_nodictAll : ∀ ds : List PyData, tameAll ds = true → PyData.hasDictAll ds = false
  | [], _ => rfl
  | x :: xs, h => by
    simp only [tameAll, Bool.and_eq_true] at h
    simp only [PyData.hasDictAll, tame_nodict x h.1, tame_nodictAll xs h.2, Bool.or_self]
end
mutual
theorem tame_short : ∀ d : PyData, tame d = true → d.leavesShort 21 = true
  | .none, _ => rfl
  | .bool _, _ => rfl
  | .int i, h => by
    have h1 := int_len20 (of_decide_eq_true (by simpa only [tame] using h))
    simp only [PyData.leavesShort]
    exact decide_eq_true h1
  | .str x, h => by
    have h1 : x.cps.all (· < 0x110000) = true := by simpa only [tame] using h
    simp only [PyData.leavesShort, List.all_eq_true, decide_eq_true_eq]
    intro c hc
    rw [Array.all_eq_true_iff_forall_mem] at h1
    have h2 := h1 c (Array.mem_toList_iff.mp hc)
    have h3 : c < 0x110000 := by simpa using h2
    exact Nat.lt_of_lt_of_le h3 (by decide)
  | .list xs, h => by simpa only [PyData.leavesShort] using tame_shortAll xs (by simpa only [tame] using h)
  | .tuple xs, h => by simpa only [PyData.leavesShort] using tame_shortAll xs (by simpa only [tame] using h)
  | .dict _, h => by simp [tame] at h
theorem tame_shortAll : ∀ ds : List PyData, tameAll ds = true → PyData.leavesShortAll 21 ds = true
  | [], _ => rfl
  | x :: xs, h => by
    simp only [tameAll, Bool.and_eq_true] at h
    simp only [PyData.leavesShortAll, tame_short x h.1, tame_shortAll xs h.2, Bool.and_self]
end
mutual
theorem tame_weight : ∀ d : PyData, tame d = true → d.weight ≤ cost d
  | .none, _ => Nat.zero_le _
  | .bool _, _ => Nat.zero_le _
  | .int i, h => by
    have h1 := int_log20 (of_decide_eq_true (by simpa only [tame] using h))
    simp only [PyData.weight, cost]
    split <;> omega
  | .str x, h => by
    simp only [PyData.weight, cost]
    omega
  | .list xs, h => by simpa only [PyData.weight, cost] using tame_weightAll xs (by simpa only [tame] using h)
  | .tuple xs, h => by simpa only [PyData.weight, cost] using tame_weightAll xs (by simpa only [tame] using h)
  | .dict _, h => by simp [tame] at h
theorem tame_weightAll : ∀ ds : List PyData, tameAll ds = true → PyData.weightAll ds ≤ costAll ds
  | [], _ => Nat.zero_le _
  | x :: xs, h => by
    simp only [tameAll, Bool.and_eq_true] at h
    have h1 := tame_weight x h.1
    have h2 := tame_weightAll xs h.2
    simp only [PyData.weightAll, costAll]
    omega
end
mutual
theorem tame_lay : ∀ d : PyData, tame d = true → d.canLay0 = true
  | .none, _ => rfl
  | .bool _, _ => rfl
  | .int _, _ => rfl
  | .str x, h => by
    have h1 : x.cps.all (· < 0x110000) = true := by simpa only [tame] using h
    simpa only [PyData.canLay0, PyData.strOk] using h1
  | .list xs, h => by simpa only [PyData.canLay0] using tame_layAll xs (by simpa only [tame] using h)
  | .tuple xs, h => by simpa only [PyData.canLay0] using tame_layAll xs (by simpa only [tame] using h)
  | .dict _, h => by simp [tame] at h
theorem tame_layAll : ∀ ds : List PyData, tameAll ds = true → PyData.canLayAll0 ds = true
  | [], _ => rfl
  | x :: xs, h => by
    simp only [tameAll, Bool.and_eq_true] at h
    simp only [PyData.canLayAll0, tame_lay x h.1, tame_layAll xs h.2, Bool.and_self]
end
theorem Fine.tame {d : PyData} (h : Gk.tame d = true) (hd : d.depth ≤ 40) (hc : cost d ≤ 500000) : Fine d :=
  ⟨tame_showable d h, tame_nodict d h, hd, by
    have h1 := PyData.shown_le 21 (by decide) d (tame_short d h)
    have h2 := tame_weight d h
    have h3 : sizeLine = 16777216 := sizeLine_eq
    omega⟩
theorem tame_shaped {d : PyData} (h : tame d = true) (hd : d.depth ≤ 40) : SeqAt.shaped d = true := by
  unfold SeqAt.shaped
  rw [tame_lay d h, Bool.true_and]
  exact decide_eq_true (by omega)

/-! ### data of tuples stays while other things change -/
def Keep (K : PySem.W.Frag) (H H' : Hp) : Prop := ∀ a xs, SqT K H a xs → SqT K H' a xs
theorem Keep.refl {K : PySem.W.Frag} {H : Hp} : Keep K H H := fun _ _ h => h
theorem Keep.trans {K : PySem.W.Frag} {H H1 H2 : Hp} (a : Keep K H H1) (b : Keep K H1 H2) : Keep K H H2 := fun x xs h => b x xs (a x xs h)
theorem Same.keep {K : PySem.W.Frag} {H H' : Hp} (e : Same H H') : Keep K H H' := fun _ _ h => Same.seqT e h
theorem But.keep {K : PySem.W.Frag} {H H' : Hp} {b : Addr} {m : Nat} (e : But b H H') (hb : Box m H b) : Keep K H H' := by
  intro a xs h
  obtain ⟨x, y, z, g, _⟩ := hb
  rcases h with (h | ⟨o, h⟩) | h
  · exact .inl (.inl (e _ _ (ne_of h g (fun q => HO.noConfusion q)) h))
  · exact .inl (.inr ⟨o, e _ _ (ne_of h g (fun q => HO.noConfusion q)) h⟩)
  · exact .inr h
/-- all but the box, read: a list or a tuple that is not the box -/
theorem But.keepL {K : PySem.W.Frag} {H H' : Hp} {b a : Addr} {xs : List V} (e : But b H H') (n : a ≠ b) (h : SqL K H a xs) : SqL K H' a xs := e.seqL n h
mutual
def tups : PyData → Bool
  | .none | .bool _ | .int _ | .str _ => true
  | .tuple xs => tupsAll xs
  | .list _ | .dict _ => false
def tupsAll : List PyData → Bool
  | [] => true
  | x :: xs => tups x && tupsAll xs
end
mutual
theorem Dp.keep {K : PySem.W.Frag} {H H' : Hp} (k : Keep K H H') : ∀ (d : PyData) (v : V), tups d = true → Dp K H v d → Dp K H' v d
  | .none, _, _, h => by cases h; exact .non
  | .bool _, _, _, h => by cases h; exact .bl _
  | .int _, _, _, h => by cases h; exact .int _
  | .str _, _, _, h => by cases h; exact .str _
  | .tuple ds, _, t, h => by
    cases h with
    | tup h1 h2 => exact .tup (k _ _ h1) (DpAll.keep k ds _ (by simpa only [tups] using t) h2)
  | .list _, _, t, _ => by simp [tups] at t
  | .dict _, _, t, _ => by simp [tups] at t
theorem DpAll.keep {K : PySem.W.Frag} {H H' : Hp} (k : Keep K H H') : ∀ (ds : List PyData) (vs : List V), tupsAll ds = true → DpAll K H vs ds → DpAll K H' vs ds
  | [], _, _, h => by cases h; exact .nil
  | d :: ds, _, t, h => by
    simp only [tupsAll, Bool.and_eq_true] at t
    cases h with
    | cons h1 h2 => exact .cons (Dp.keep k d _ t.1 h1) (DpAll.keep k ds _ t.2 h2)
end
section
variable {K : PySem.W.Frag} {H : Hp}
theorem DpAll.len : ∀ {vs : List V} {ds : List PyData}, DpAll K H vs ds → vs.length = ds.length
  | _, _, .nil => rfl
  | _, _, .cons _ t => by rw [List.length_cons, List.length_cons, DpAll.len t]
theorem DpAll.take : ∀ {vs : List V} {ds : List PyData} (n : Nat), DpAll K H vs ds → DpAll K H (vs.take n) (ds.take n)
  | _, _, 0, _ => .nil
  | _, _, _ + 1, .nil => .nil
  | _, _, n + 1, .cons h t => .cons h (DpAll.take n t)
theorem DpAll.drop : ∀ {vs : List V} {ds : List PyData} (n : Nat), DpAll K H vs ds → DpAll K H (vs.drop n) (ds.drop n)
  | _, _, 0, h => h
  | _, _, _ + 1, .nil => .nil
  | _, _, n + 1, .cons _ t => DpAll.drop n t
theorem DpAll.app : ∀ {vs us : List V} {ds es : List PyData}, DpAll K H vs ds → DpAll K H us es → DpAll K H (vs ++ us) (ds ++ es)
  | _, _, _, _, .nil, h => h
  | _, _, _, _, .cons h t, h2 => .cons h (DpAll.app t h2)
theorem DpAll.rep {vs : List V} {ds : List PyData} (h : DpAll K H vs ds) : ∀ n : Nat, DpAll K H (List.replicate n vs).flatten (List.replicate n ds).flatten
  | 0 => .nil
  | n + 1 => by
    rw [List.replicate_succ, List.replicate_succ, List.flatten_cons, List.flatten_cons]
    exact DpAll.app h (DpAll.rep h n)
theorem DpAll.at : ∀ {vs : List V} {ds : List PyData} {i : Nat} {v : V} {d : PyData}, DpAll K H vs ds → vs[i]? = some v → ds[i]? = some d → Dp K H v d
  | _, _, _, _, _, .nil, h, _ => by simp at h
  | _, _, 0, _, _, .cons h _, e1, e2 => by
    obtain rfl := Option.some.inj e1
    obtain rfl := Option.some.inj e2
    exact h
  | _, _, i + 1, _, _, .cons _ t, e1, e2 => DpAll.at (i := i) t (by simpa using e1) (by simpa using e2)
theorem DpAll.ints : ∀ l : List Int, DpAll K H (l.map V.int) (l.map PyData.int)
  | [] => .nil
  | i :: l => .cons (.int i) (DpAll.ints l)
end
end Gk
namespace Pf
open PySem PySem.Spec PyProof.Rows L2 Gk
def topS (i : Nat) : Stmt := PySem.Challenge.pw_pastenough_k05_exceptions_made.main.body.getD i (.Pass ⟨0, 0, 0, 0⟩)
abbrev sTake : Stmt := topS 18
abbrev sOf : Stmt := topS 19
abbrev sBox : Stmt := topS 17
theorem scOf : FnScope ["_law_box_here", "_law_some"] ["_law_box_here", "_law_some"] (defScope sOf) := ⟨rfl, rfl, rfl, by decide +kernel, rfl, by decide +kernel, by decide +kernel⟩
theorem scBox : FnScope ["_law_script", "_law_k", "_law_digits", "_law_own"] ["_law_script", "_law_k"] (defScope sBox) := ⟨rfl, rfl, rfl, by decide +kernel, rfl, by decide +kernel, by decide +kernel⟩
theorem scTake : FnScope ["_law_box_here", "_law_many", "_law_digit", "_law_drawn"] ["_law_box_here", "_law_many"] (defScope sTake) := ⟨rfl, rfl, rfl, by decide +kernel, rfl, by decide +kernel, by decide +kernel⟩
def spTake : Sp := fun vs H Q _ => ∃ (b : Addr) (n : Int) (m : Nat), vs = [.ref b, .int n] ∧ 0 < n ∧ n < 1073741824 ∧ Box m H b ∧ m < 1000000000 ∧
  ∀ (d : Int) (H' : Hp), 0 ≤ d → d < n → But b H H' → Box (m + 1) H' b → (∀ p, p ≠ b → H' p = H p) → Q (.int d) H'

section
variable {P : Program} {w : World} {K : PySem.W.Frag} {mg : Str → Option Value} {base : Heap}
theorem ok_take {f : Addr} {fd : FuncData} {k : Nat} (F : L2.Fun K "_law_take" "_law_take" sTake f fd) : FnOk P w K mg base L2.CX0 (k + 1) f fd ["_law_box_here", "_law_many"] spTake := by
  refine F.ok scTake (fun vs H Q E h => ?_) (fun cdv A outer s H vs Q E hr h => ?_)
  · obtain ⟨b, n, m, rfl, _⟩ := h
    rfl
  · obtain ⟨b, n, m, rfl, n0, n1, ⟨x, y, z, hb, z0, z1⟩, hm, q⟩ := h
    refine ⟨_, pss_cons (ps_if (pt_cmpR op_gt (pe_ix ix_list (pv 0) pe_int (fun _ _ => rfl)) pe_int (nomark _))
        (pss_cons (ps_set (i := 2) scTake.nd rfl (.inl rfl) (pe_op op_mod (pe_ix ix_list (pv 0) pe_int (fun _ _ => rfl)) (pv 1)))
        (pss_cons (ps_asg (pe_op op_fdiv (pe_ix ix_list (pv 0) pe_int (fun _ _ => rfl)) (pv 1)) (pg_sub (pv 0) pe_int set_list))
        (pss_one (ps_ret (pv 2))))) pss_nil)
      (pss_cons (ps_asg (pe_op op_add (pe_ix ix_list (pv 0) pe_int (fun _ _ => rfl)) pe_int) (pg_sub (pv 0) pe_int set_list))
      (pss_cons (ps_set (i := 3) scTake.nd rfl (.inl rfl) (pe_op op_mod (pe_op op_mul (pe_op op_add (pe_op op_add (pe_ix ix_list (pv 0) pe_int (fun _ _ => rfl))
          (pe_op op_mul (pe_op op_mul pe_int (pe_ix ix_list (pv 0) pe_int (fun _ _ => rfl))) (pe_ix ix_list (pv 0) pe_int (fun _ _ => rfl)))) pe_int) pe_int) pe_int))
      (pss_cons (ps_set (i := 3) scTake.nd rfl (.inl rfl) (pe_op op_mod (pe_op op_mul (pv 3) (pe_op op_add (pe_op op_mod (pv 3) pe_int) (pe_op op_mul pe_int (pe_ix ix_list (pv 0) pe_int (fun _ _ => rfl))))) pe_int))
      (pss_one (ps_ret (pe_op op_mod (pe_op op_add (pe_op op_fdiv (pv 3) pe_int) (pe_op op_fdiv (pv 3) pe_int)) (pv 1))))))), ?_⟩
    refine ⟨.ref b, rfl, b, _, 0, .int x, rfl, rfl, SqL.of hb, rfl, x, 0, rfl, rfl, _, rfl, ite2 (fun e => ?_) (fun e => ?_)⟩
    · refine ⟨.ref b, rfl, b, _, 0, .int x, rfl, rfl, SqL.of hb, rfl, .int n, rfl, x, n, rfl, rfl, n0, ?_⟩
      refine ⟨.ref b, rfl, b, _, 0, .int x, rfl, rfl, SqL.of hb, rfl, .int n, rfl, x, n, rfl, rfl, ⟨n0, n1⟩, ?_⟩
      refine ⟨.ref b, rfl, b, _, _, 0, rfl, rfl, hb, rfl, ?_⟩
      refine ⟨.int (x % n), rfl, q _ _ (Int.emod_nonneg _ (by omega)) (Int.emod_lt_of_pos _ n0) But.set ⟨_, _, _, upd_same, z0, by omega⟩ fun p hp => upd_ne hp⟩
    · have hz : (z + 1 : Int) < 2 ^ 64 := by omega
      refine ⟨.ref b, rfl, b, _, 2, .int z, rfl, rfl, SqL.of hb, rfl, z, 1, rfl, rfl, ?_⟩
      refine ⟨.ref b, rfl, b, _, _, 2, rfl, rfl, hb, rfl, ?_⟩
      have h1 : upd H b (.lst [.int x, .int y, .int (z + 1)]) b = some (.lst [.int x, .int y, .int (z + 1)]) := upd_same
      refine ⟨.ref b, rfl, b, _, 1, .int y, rfl, rfl, SqL.of h1, rfl, .ref b, rfl, b, _, 2, .int (z + 1), rfl, rfl, SqL.of h1, rfl, _, _, rfl, rfl, .inl ⟨by decide, by decide⟩,
        .ref b, rfl, b, _, 2, .int (z + 1), rfl, rfl, SqL.of h1, rfl, _, _, rfl, rfl, .inr ⟨by omega, hz⟩, _, _, rfl, rfl, _, _, rfl, rfl, _, _, rfl, rfl, .inr ⟨by decide, by decide⟩, _, _, rfl, rfl, by show (0 : Int) < 2305843009213693921; decide, ?_⟩
      refine ⟨_, rfl, _, rfl, _, _, rfl, rfl, by show (0 : Int) < 1000033; decide, .ref b, rfl, b, _, 2, .int (z + 1), rfl, rfl, SqL.of h1, rfl, _, _, rfl, rfl, .inl ⟨by decide, by decide⟩, _, _, rfl, rfl, _, _, rfl, rfl,
        .inl ⟨Int.lt_of_lt_of_le (by decide) (Int.emod_nonneg _ (by decide)), Int.lt_trans (Int.emod_lt_of_pos _ (by decide)) (by decide)⟩, _, _, rfl, rfl, by show (0 : Int) < 2305843009213693907; decide, ?_⟩
      refine ⟨_, rfl, _, _, rfl, rfl, ⟨by decide, by decide⟩, _, rfl, _, _, rfl, rfl, ⟨by decide, by decide⟩, _, _, rfl, rfl, .int n, rfl, _, n, rfl, rfl, n0, ?_⟩
      exact q _ _ (Int.emod_nonneg _ (by omega)) (Int.emod_lt_of_pos _ n0) But.set ⟨_, _, _, h1, by omega, by omega⟩ fun p hp => upd_ne hp
def spOf (K : PySem.W.Frag) : Sp := fun vs H Q _ => ∃ (b a : Addr) (xs : List V) (m : Nat), vs = [.ref b, .ref a] ∧ SqL K H a xs ∧ a ≠ b ∧ 0 < xs.length ∧ xs.length ≤ 1000 ∧ Box m H b ∧ m < 1000000000 ∧
  ∀ (i : Nat) (v : V) (H' : Hp), xs[i]? = some v → But b H H' → Box (m + 1) H' b → (∀ p, p ≠ b → H' p = H p) → Q v H'
theorem ok_of {f : Addr} {fd : FuncData} {k : Nat} (D : Dfn P w K mg base k "_law_take" ["_law_box_here", "_law_many"] spTake) (ml : mg "len" = none)
    (F : L2.Fun K "_law_of" "_law_of" sOf f fd) : FnOk P w K mg base L2.CX0 (k + 1) f fd ["_law_box_here", "_law_some"] (spOf K) := by
  refine F.ok scOf (fun vs H Q E h => ?_) (fun cdv A outer s H vs Q E hr h => ?_)
  · obtain ⟨b, a, xs, m, rfl, _⟩ := h
    rfl
  · obtain ⟨b, a, xs, m, rfl, hS, hne, hl, hl2, hb, hm, q⟩ := h
    refine ⟨_, pss_one (ps_ret (pe_ix ix_list (pv 1) (pe_d D hr (Nat.le_refl _) (by rfl) (pa_cons (pv 0) (pa_cons (pe_callB call_len_seq (by rfl) ml PySem.boot_len (pa_cons (pv 1) pa_nil)) pa_nil))) (fun _ _ => rfl))), ?_⟩
    refine ⟨.ref a, rfl, .ref b, rfl, .ref a, rfl, a, xs, rfl, .inl hS, b, _, m, rfl, by omega, by omega, hb, hm, fun d H' d0 d1 bt bx same => ?_⟩
    have hi : d.toNat < xs.length := by omega
    have g : xs[d.toNat]? = some xs[d.toNat] := List.getElem?_eq_getElem hi
    have ga : atI xs d = some xs[d.toNat] := by
      have := atI_nat g
      rwa [Int.toNat_of_nonneg d0] at this
    exact ⟨a, xs, d, _, rfl, rfl, bt.seqL hne hS, ga, q _ _ H' g bt bx same⟩
def spBox (K : PySem.W.Frag) : Sp := fun vs H Q _ => ∃ (a : Addr) (ns : List Int) (k : Int), vs = [.ref a, .int k] ∧ SqL K H a (ns.map V.int) ∧ ns.length ≤ 63 ∧ 0 ≤ k ∧ k ≤ 1000 ∧
  ∀ p x y, H p = none → Q (.ref p) (upd H p (.lst [.int x, .int y, .int 0]))
theorem flag_small (c : Bool) : -(2 ^ 64) < (if c = true then (1 : Int) else 0) ∧ (if c = true then (1 : Int) else 0) < 2 ^ 64 := by cases c <;> decide
theorem bits60 : CBigPow 10 60 := ⟨by decide, by decide +kernel⟩
theorem bits300 : CBigPow (10 ^ (60 : Int).toNat) 5 := ⟨by decide, by decide +kernel⟩
theorem ok_box {f : Addr} {fd : FuncData} (ml : mg "len" = none) (ma : mg "abs" = none) (mi : mg "int" = none)
    (F : L2.Fun K "_law_box" "_law_box" sBox f fd) : FnOk P w K mg base L2.CX0 1 f fd ["_law_script", "_law_k"] (spBox K) := by
  refine F.ok scBox (fun vs H Q E h => ?_) (fun cdv A outer s H vs Q E hr h => ?_)
  · obtain ⟨a, ns, k, rfl, _⟩ := h
    rfl
  · obtain ⟨a, ns, k, rfl, hS, hl, k0, k1, q⟩ := h
    refine ⟨_, C8.pss_cut (ps_set (i := 2) scBox.nd rfl (.inl rfl) (pe_ifExp (pt_cmpR op_lt (pv 1) (pe_callB call_len_seq (by rfl) ml PySem.boot_len (pa_cons (pv 0) pa_nil)) (nomark _))
        (pe_ix ix_list (pv 0) (pv 1) (fun _ _ => rfl)) (pe_op op_add (pe_op op_mul pe_int (pv 1)) pe_int)))
      (pss_cons (ps_set (i := 3) scBox.nd rfl (.inl rfl) (pe_op op_mul (pe_op op_mod (pe_callB call_abs (by rfl) ma (by decide +kernel) (pa_cons (pv 2) pa_nil)) (pe_op op_bigpow (pe_op op_bigpow pe_int pe_int) pe_int))
          (pe_callTy call_int1 (by rfl) mi (by decide +kernel) (pa_cons (pe_cmpR op_ge (pe_callB call_abs (by rfl) ma (by decide +kernel) (pa_cons (pv 2) pa_nil)) (pe_op op_bigpow pe_int pe_int) (nomark _)) pa_nil))))
      (pss_one (ps_ret (pe_lst (pa_cons (pv 3) (pa_cons (pe_op op_mod (pe_op op_add (pe_op op_add (pe_op op_mul (pe_op op_mod (pv 2) pe_int) pe_int) (pe_op op_mul (pe_op op_mul pe_int (pv 1)) (pv 1))) pe_int) pe_int) (pa_cons pe_int pa_nil))))))), ?_⟩
    refine ⟨fun σ H' => H' = H ∧ ∃ d : Int, σ = [some (.ref a), some (.int k), some (.int d), none], ?_, fun σ' H' hM => ?_⟩
    · refine ⟨.int k, rfl, .ref a, rfl, a, _, rfl, .inl hS, _, _, rfl, rfl, _, rfl, ite2 (fun e => ?_) (fun e => ?_)⟩
      · have hk : k < (ns.map V.int).length := of_decide_eq_true e
        rw [List.length_map] at hk
        have g : (ns.map V.int)[k.toNat]? = some (.int ns[k.toNat]) := by
          rw [List.getElem?_map, List.getElem?_eq_getElem (by omega)]; rfl
        have ga := atI_nat g
        rw [Int.toNat_of_nonneg k0] at ga
        exact ⟨.ref a, rfl, .int k, rfl, a, _, k, _, rfl, rfl, hS, ga, rfl, _, rfl⟩
      · exact ⟨.int k, rfl, _, _, rfl, rfl, .inl ⟨by decide, by decide⟩, _, _, rfl, rfl, rfl, _, rfl⟩
    · obtain ⟨rfl, d, rfl⟩ := hM
      refine ⟨.int d, rfl, d, rfl, _, _, rfl, rfl, bits60, _, _, rfl, rfl, bits300, _, _, rfl, rfl, by show (0 : Int) < (10 ^ (60 : Int).toNat) ^ (5 : Int).toNat; decide +kernel, ?_⟩
      refine ⟨.int d, rfl, d, rfl, _, _, rfl, rfl, ⟨by decide, by decide +kernel⟩, _, _, rfl, rfl, .inr ⟨_, rfl, _, _, rfl, rfl, .inr ?_, ?_⟩⟩
      · exact flag_small _
      · refine ⟨_, rfl, .int d, rfl, _, _, rfl, rfl, by show (0 : Int) < 2305843009213693951; decide, _, _, rfl, rfl, .inr ⟨by decide, by decide⟩, .int k, rfl, _, _, rfl, rfl, .inl ⟨by decide, by decide⟩, .int k, rfl, _, _, rfl, rfl, .inr ⟨by omega, by omega⟩,
          _, _, rfl, rfl, _, _, rfl, rfl, _, _, rfl, rfl, by show (0 : Int) < 2305843009213693921; decide, by show 3 ≤ sizeLine; decide, fun p hp => q p _ _ hp⟩
end
end Pf
/-! An own exception whose __init__ says super().__init__(text); self.f = value. -/
namespace Gk
open PySem PySem.Spec PyProof.Rows L2

section
variable {prog : Program} {w : World} {A : Around} {E : Value → Shared → Prop} {h : Heap} {g : Array GenState} {d : Drawn} {t : Nat} {os : OsState}
variable {nm q : Str} {C N : Addr} {bs bm : List Value} {hdct : Bool} {sn : List Str} {sub : List Value} {ab : Bool} {col : Option Bool} {dd : Option Addr} {k0 k1 k2 k3 k5 : Option Value}
open PySem.HandSPX in
theorem call_mw {u e t0 : Addr} {rest : List Value} {Q : Value → Shared → Prop}
    (hC : h.get? C = some (excClassObj nm q C N bs bm hdct sn sub ab col dd k0 k1 k2 k3 k5 "ValueError.__new__")) (he : h.get? e = some (HandSPX.excO C t0)) (hu : h.get? u = some (PySem.W.kxs_mw "ValueError.__init__" e)) (hrest : rest.length ≤ sizeLine)
    (hq : ∀ h' t1, (∀ b o, b ≠ e → h.get? b = some o → h'.get? b = some o) → h'.get? e = some (HandSPX.excO C t1) → Q .none ⟨h', g, d, t, os⟩) :
    wpAny (model prog w) A (call (.ref u) rest) Q E ⟨h, g, d, t, os⟩ := by
  refine wpAny_call (codeAny_of_tree ?_)
  show wpAny _ A.in1 (callAny (.ref u) ⟨rest, []⟩) _ _ _
  simp only [callAny]
  refine wpAny_bind (wpAny_load hu ?_)
  simp only [PySem.W.kxs_mw, show (Value.type "method-wrapper" == Value.type "method" || Value.type "method-wrapper" == Value.type "builtin_function_or_method" || Value.type "method-wrapper" == Value.type "method-wrapper") = true by decide, if_true]
  refine PySem.W.KFB.if_so (by decide) ?_
  refine wpAny_bind (PySem.ESX.check_bound F.excBase_ValueError hC he rfl ?_)
  refine wpAny_bind (wpAny_pure (wpAny_pure ?_))
  refine ⟨Code.quiet_builtin _ (by decide +kernel), codeAny_builtin F.excBase_ValueError.initEntry ?_⟩
  rw [Around.under_plainId F.excBase_ValueError.init.plain _]
  wp_walk
  refine hq _ h.objs.size (fun b o hb ho => ?_) ?_
  · rw [Heap.get?_update_other _ _ (Ne.symm hb)]
    exact Heap.get?_push_of_some _ ho
  · rw [Heap.get?_update_self _ (Heap.get?_push_of_some _ he) rfl]
    rfl
end

/-- what is written of an own exception's __init__: its def at f, its cell at cc, its class at C -/
structure EInit (P : Program) (K : PySem.W.Frag) (C f cc : Addr) (fd : FuncData) (qual : Str) (params : Arguments) (body : List Stmt) (scope : Scope) (cda : Addr) : Prop where
  oex : OexC K C
  fn : ∃ oc od osl kV doc pm an ct, K.lookup f = some ⟨oc, od, .func (PySem.W.ksFn "__init__" qual params body scope .none kV doc pm an (.ref cda) ct cc), osl⟩ ∧ fd = PySem.W.ksFn "__init__" qual params body scope .none kV doc pm an (.ref cda) ct cc
  code : PySem.W.codeIn K (.ref cda) qual = true
  file : ∃ ccl cdd vs ccs file tf, K.lookup cda = some ⟨ccl, cdd, .fields vs, ccs⟩ ∧ vs[2]? = some (.str file tf) ∧ ((P.main.file : Str) == file) = true
  top : (P.main.scope.names.lookup ("super" : Str)).isSome = false
  cell : ∃ cl cld csl, K.lookup cc = some ⟨cl, cld, .cell (some (.ref C)), csl⟩
  sup : PySem.W.ks_superIn K C C "__init__" = some (some (.builtin "ValueError.__init__"))
  self : PySem.W.mroIn K C (.ref C) = some true
  ve : PySem.W.subIn K (.ref C) (.type "ValueError") = some true
  any : PySem.W.nsIn K cStatics "thirdparty.any" = some none
  iC : PySem.W.findIn K (.ref C) "__init__" = some (some (.ref f))
  tI : PySem.W.typeIn K (.ref f) = some (.type "function")
  kf : PySem.W.keepIn K (.ref f) = true

/-- the context of that __init__ -/
def ecx (P : Program) (w : World) (K : PySem.W.Frag) (mg : Str → Option Value) (base : Heap) (N : List Str) (qual : Str) (scope : Scope) (f : Addr) (cda cc : Addr) (A : Around) (outer : List Env) (s : Shared) (H : Hp) : Cx where
  prog := P
  w := w
  K := K
  mg := mg
  base := base
  A := A.deeper (PySem.W.ksEnv qual scope s.heap.objs.size f (.ref cda) cc)
  N := N
  s_0 := s
  H_0 := H
  env := PySem.W.ksEnv qual scope s.heap.objs.size f (.ref cda) cc
  outer := outer
  stack := PySem.W.ksEnv qual scope s.heap.objs.size f (.ref cda) cc :: outer
  ex := []
  calm := true
  fn := fun _ => false
  pn := []
  xe := fun _ _ => False
/-- its scope -/
structure EScope (N : List Str) (sc : Scope) : Prop where
  kind : sc.kind = .function
  co : sc.isCoroutine = false
  gen : sc.isGenerator = false
  loc : ∀ x ∈ N, sc.names.lookup x = some .local
  nocell : ∀ y ∈ sc.names, y.2 ≠ .cell
  free : ∀ y ∈ sc.names, y.2 = .free → y.1 = "__class__"
  cls : sc.names.lookup ("__class__" : Str) = some .free
  sup : sc.names.lookup ("super" : Str) = some .globalImplicit

end Gk
namespace Gk
open PySem PySem.Spec PyProof.Rows L2
section
variable {P : Program} {w : World} {K : PySem.W.Frag} {mg : Str → Option Value} {base : Heap} {C f cc cda : Addr} {fd : FuncData} {qual : Str} {params : Arguments} {body : List Stmt} {scope : Scope}
theorem einv {par : Str} {A : Around} {outer : List Env} {s : Shared} {H : Hp} {u0 u1 : Value} {v0 v1 : V} {h0 : Heap} {tk : Nat} (T : EInit P K C f cc fd qual params body scope cda) (S : EScope ["self", par] scope) (hp : (("self" : Str) == par) = false) (hd : A.handled = none) (e0 : Env0 P w K mg base A outer s H)
    (r0 : RelV v0 u0) (r1 : RelV v1 u1) (hns : h0.Ns s.heap.objs.size (fun x => ([(par, u1), ("self", u0)] : List (Str × Value)).lookup x)) (k : ∀ b o, s.heap.get? b = some o → h0.get? b = some o) :
    Inv (ecx P w K mg base ["self", par] qual scope f cda cc A outer s H) [] [some v0, some v1] H { s with heap := h0, toks := tk } := by
  obtain ⟨cl, cld, csl, hcell⟩ := T.cell
  have KXb : K.In base := e0.mod.kin
  have bcc := KXb _ _ hcell
  have one : ∀ x c, (ecx P w K mg base ["self", par] qual scope f cda cc A outer s H).env.cells.lookup x = some c → x = "__class__" ∧ c = cc := fun x c h => by
    have h : ([("__class__", cc)] : List (Str × Addr)).lookup x = some c := h
    rw [List.lookup_cons] at h
    split at h
    · rename_i e
      exact ⟨by simpa using e, (Option.some.inj h).symm⟩
    · cases h
  have ok : (ecx P w K mg base ["self", par] qual scope f cda cc A outer s H).Ok := by
    refine ⟨e0.mod, S.kind, rfl, rfl, Nat.le_refl _, fun y z c h1 h2 => ?_, fun y hy => ?_, fun y c hf => (nomatch hf), fun _ => hd, Around.frames_deeper e0.frames, .inr ⟨rfl, rfl⟩, fun b z => (by cases z), e0.bs, e0.bsz, fun b _ _ z => (by cases z), fun b z => (by cases z), e0.funs, e0.frf⟩
    · rw [(one y c h1).1, (one z c h2).1]
    · refine ⟨cc, ?_⟩
      have hy : scope.names.lookup y = some .cell ∨ scope.names.lookup y = some .free := hy
      rcases hy with hy | hy
      · exact absurd rfl (S.nocell _ (PySem.mem_of_lookup hy))
      · have e := S.free _ (PySem.mem_of_lookup hy) rfl
        have e : y = "__class__" := e
        subst e
        rfl
  have look : ∀ (i : Nat) (y : Str) (v : V), (["self", par] : List Str)[i]? = some y → ([some v0, some v1] : List (Option V))[i]? = some (some v) → ∃ u, RelV v u ∧ Look (ecx P w K mg base ["self", par] qual scope f cda cc A outer s H).env h0 (fun x => ([(par, u1), ("self", u0)] : List (Str × Value)).lookup x) y u := by
    intro i y v h1 h2
    rcases i with _ | _ | i
    · have e1 : ("self" : Str) = y := Option.some.inj h1
      have e2 : v0 = v := Option.some.inj (Option.some.inj h2)
      subst e1 e2
      refine ⟨u0, r0, .inl ⟨S.loc _ (List.mem_cons_self ..), ?_⟩⟩
      dsimp only
      rw [List.lookup_cons, hp]
      rfl
    · have e1 : par = y := Option.some.inj h1
      have e2 : v1 = v := Option.some.inj (Option.some.inj h2)
      subst e1 e2
      refine ⟨u1, r1, .inl ⟨S.loc _ (List.mem_cons_of_mem _ (List.mem_cons_self ..)), ?_⟩⟩
      dsimp only
      rw [List.lookup_cons, show (par == par) = true from by simp]
    · cases h1
  exact ⟨ok, rfl, e0.bare, Un.kept k, ⟨_, hns, fun i y v h1 h2 _ => look i y v h1 h2⟩, fun y c h => by
      obtain ⟨_, rfl⟩ := one y c h
      exact ⟨_, _, k _ _ (e0.bs _ _ bcc).1, rfl⟩, e0.hok.fresh (Nat.le_refl _), fun y c h => by
      obtain ⟨_, rfl⟩ := one y c h
      exact (e0.bs _ _ bcc).2, fun p hp => (by cases hp), e0.hok.kept k, rfl⟩
end
end Gk
namespace Gk
open PySem PySem.Spec PyProof.Rows L2
section
variable {P : Program} {w : World} {K : PySem.W.Frag} {mg : Str → Option Value} {base : Heap} {C f cc cda : Addr} {fd : FuncData} {qual : Str} {params : Arguments} {body : List Stmt} {scope : Scope}
/-- super().__init__(text) -/
theorem sup_init {par : Str} {A : Around} {outer : List Env} {s0 s : Shared} {H0 H : Hp} {a : Addr} {v : V} {txt : Str} {k : Nat} {p0 p1 p2 p3 p4 pos : Pos} {rest : List Stmt} {Q : Flow → Shared → Prop}
    (T : EInit P K C f cc fd qual params body scope cda) (S : EScope ["self", par] scope) {pl : Sem Bool} (he : eval (.Call (.Attribute (.Call (.Name "super" p0) [] [] p1) "__init__" p2) [.Constant (.str txt) k p3] [] p4) (PySem.W.ksEnv qual scope s0.heap.objs.size f (.ref cda) cc) = (do
      let ov ← attributeBase (.Call (.Name "super" p0) [] [] p1) "__init__" (PySem.W.ksEnv qual scope s0.heap.objs.size f (.ref cda) cc) (eval (.Call (.Name "super" p0) [] [] p1) (PySem.W.ksEnv qual scope s0.heap.objs.size f (.ref cda) cc))
      standAt p2.atName
      let (f', first) ← holding [ov] (getMethod ov "__init__" pl)
      callWith p4 f' first (backTo p4 (starEach [.Constant (.str txt) k p3] (PySem.W.ksEnv qual scope s0.heap.objs.size f (.ref cda) cc))) []))
    (hi : interactive (PySem.W.ksEnv qual scope s0.heap.objs.size f (.ref cda) cc) = false) (hpar : (params.posonlyargs ++ params.args).head?.map (·.arg) = some "self") (hsup : mg "super" = none)
    (I : Inv (ecx P w K mg base ["self", par] qual scope f cda cc A outer s0 H0) [] [some (.ref a), some v] H s) (ha : H a = some (exo a C none))
    (h : ∀ s', Inv (ecx P w K mg base ["self", par] qual scope f cda cc A outer s0 H0) [] [some (.ref a), some v] H s' → PySem.wpAt (model P w) (A.deeper (PySem.W.ksEnv qual scope s0.heap.objs.size f (.ref cda) cc)) (.func body (PySem.W.ksEnv qual scope s0.heap.objs.size f (.ref cda) cc)) (execs rest (PySem.W.ksEnv qual scope s0.heap.objs.size f (.ref cda) cc)) Q (fun _ _ => False) s') :
    PySem.wpAt (model P w) (A.deeper (PySem.W.ksEnv qual scope s0.heap.objs.size f (.ref cda) cc)) (.func body (PySem.W.ksEnv qual scope s0.heap.objs.size f (.ref cda) cc))
      (execs (.Expr (.Call (.Attribute (.Call (.Name "super" p0) [] [] p1) "__init__" p2) [.Constant (.str txt) k p3] [] p4) pos :: rest) (PySem.W.ksEnv qual scope s0.heap.objs.size f (.ref cda) cc)) Q (fun _ _ => False) s := by
  obtain ⟨oc, od, osl, kV, doc, pm, an, ct, lk, efd⟩ := T.fn
  obtain ⟨ccl, cdd, vs, ccs, file, tf, lcode, hvs, hfile⟩ := T.file
  obtain ⟨cl, cld, csl, lcell⟩ := T.cell
  obtain ⟨nm, q, N, bs, bm, sn, sub, ab, col, dd, k0, k1, k2, k3, k5, hC, hbm⟩ := T.oex.cls
  obtain ⟨ar, har, earg⟩ : ∃ ar, (params.posonlyargs ++ params.args).head? = some ar ∧ ar.arg = "self" := by
    cases e : (params.posonlyargs ++ params.args).head? with
    | none => rw [e] at hpar; cases hpar
    | some ar => rw [e] at hpar; exact ⟨ar, rfl, Option.some.inj hpar⟩
  have X : K.In s.heap := I.kIn
  have hcl : PySem.W.clsIn K C = some { name := nm, bases := bs, mro := .ref C :: bm, ns := N, qualname := q, hasDict := true, slotNames := sn, subclasses := sub, abstract := ab, collection := col, hasDel := false } := by unfold PySem.W.clsIn; rw [hC] <;> rfl
  obtain ⟨t1, ho⟩ := exo_at I.hok ha
  obtain ⟨m, hns, hloc⟩ := id I.loc
  have hm : m "self" = some (.ref a) := by
    obtain ⟨u, ru, l⟩ := hloc 0 "self" (.ref a) rfl rfl (.inl (S.loc _ (List.mem_cons_self ..)))
    obtain rfl : u = Value.ref a := ru
    rcases l with ⟨_, l⟩ | ⟨k, _⟩
    · exact l
    · have z : scope.names.lookup ("self" : Str) = some .local := S.loc _ (List.mem_cons_self ..)
      rcases k with k | k
      · have k : scope.names.lookup ("self" : Str) = some .cell := k
        rw [z] at k; cases k
      · have k : scope.names.lookup ("self" : Str) = some .free := k
        rw [z] at k; cases k
  obtain ⟨mb, hb1, hb2⟩ := I.mod.blt
  refine ks_wpAt_execs_cons (ks_wpAt_Expr_any (ks_wpAt_MethodCall (pl := pl) ?_ he) hi)
  refine ks_wpAt_super_base (env := PySem.W.ksEnv qual scope s0.heap.objs.size f (.ref cda) cc) S.sup S.cls (by decide) rfl (X _ _ lk) rfl har rfl (X _ _ lcode) rfl hvs hfile T.top ?_
  refine PySem.W.ks_loadName_global S.kind S.sup (Calls.loadGlobal_builtin (env := PySem.W.ksEnv qual scope s0.heap.objs.size f (.ref cda) cc) (I.mod.glob.keeps I.bk) hsup (hb1.keeps I.bk) ((hb2 "super" (by decide)).trans (show bootBuiltins "super" = some (.type "super") from by first | boot_by_name | rfl | kernel_rfl)) ⟨rfl, ?_⟩)
  refine wpAny_loadName_free S.kind S.cls rfl ⟨_, X _ _ lcell, rfl⟩ ?_
  rw [earg]
  refine wpAny_loadName_local S.kind (S.loc _ (List.mem_cons_self ..)) hns hm ?_
  obtain ⟨hh, g, d, tk, os⟩ := s
  refine ks_wpAny_isType_cls (X _ _ hC) rfl ⟨rfl, ?_⟩
  refine ks_wpAny_call_super (X _ _ hC) rfl ho rfl (fun c e => by cases e) (PySem.W.looks_mroIn X T.self) (fun h1 e1 kp1 => ?_)
  have X1 : K.In h1 := X.keeps kp1
  have I1 : PySem.W.InstAt h1 a { cls := .ref C, dict := none, data := .fields #[.ref t1, .none, .none, .none, .bool false, .none] } C none := ⟨kp1 _ _ ho, rfl, rfl, trivial⟩
  have hsup' := T.sup
  unfold PySem.W.ks_superIn at hsup'
  rw [hcl] at hsup'
  refine PySem.W.kxs_getMethod PySem.W.kxs_ValueError e1 (PySem.W.looks_opaque X1 T.any) (l₀ := .ref C :: bm) (fun A Q E s k q => wpAny_bind ((PySem.W.looks_clsIn X1 hcl) A _ E s k (wpAny_pure q))) rfl X1 hsup' (I1.type.andThen (PySem.W.looks_subIn X1 T.ve)) (PySem.W.ks_ne X1 I1 hcl) (by decide) ?_
  have kp2 : ∀ b o, hh.get? b = some o → (h1.push (PySem.W.kxs_mw "ValueError.__init__" a)).get? b = some o := fun b o e => Heap.get?_push_of_some _ (kp1 b o e)
  have I2 : Inv (ecx P w K mg base ["self", par] qual scope f cda cc A outer s0 H0) [] [some (.ref a), some v] H ⟨h1.push (PySem.W.kxs_mw "ValueError.__init__" a), g, d, tk + 1, os⟩ := I.kept (t' := tk + 1) kp2
  have hu2 : (h1.push (PySem.W.kxs_mw "ValueError.__init__" a)).get? h1.objs.size = some (PySem.W.kxs_mw "ValueError.__init__" a) := Heap.get?_push_size _ rfl
  refine PySem.W.kxs_callWith (i := "ValueError.__init__") (x := a) rfl ?_
  refine Calls.evalArgs_plain ?_
  have lu : hh.objs.size ≤ h1.objs.size := by
    cases e : h1.get? hh.objs.size with
    | none => rw [e1] at e; cases e
    | some o => exact Nat.le_of_lt (Heap.lt_size e)
  have I3 : Inv (ecx P w K mg base ["self", par] qual scope f cda cc A outer s0 H0) [(h1.objs.size, PySem.W.kxs_mw "ValueError.__init__" a)] [some (.ref a), some v] H ⟨h1.push (PySem.W.kxs_mw "ValueError.__init__" a), g, d, tk + 1, os⟩ :=
    I2.pins_of fun p hp => by
      rw [List.mem_singleton.mp hp]
      refine ⟨hu2, I.hok.fresh lu, Nat.ne_of_gt (Nat.lt_of_lt_of_le I.lt lu), I.nofs lu, fun v q => by cases q⟩
  refine wpAny_mono ((pa_cons (pe_str (X := ecx P w K mg base ["self", par] qual scope f cda cc A outer s0 H0) (x := txt) (j := k) (pos := p3)) pa_nil).run p4 _ _ _ H (fun ys G => ys = [.str txt] ∧ G = H) I3 ⟨rfl, rfl⟩) (fun us s4 ⟨ys, H4, I4, r4, ey, eh⟩ => ?_) fun _ _ z => z
  subst ey eh
  obtain ⟨hu4, _⟩ := I4.pin _ (List.mem_append_right _ (List.mem_singleton.mpr rfl))
  refine ⟨hu4, ?_⟩
  obtain ⟨t4, ho4⟩ := exo_at I4.hok ha
  have hlen : us.length ≤ sizeLine := by
    rw [← Paired.length r4, sizeLine_eq]
    show 1 ≤ _
    omega
  have hC4 := I4.kIn _ _ hC
  obtain ⟨h4, g4, d4, tk4, os4⟩ := s4
  refine call_mw hC4 ho4 hu4 hlen fun h' t2 kk hx => ?_
  have J := I4.write (t' := tk4) (x := a) (e := a) (o := exo a C none) (by rw [ha]; exact True.intro) (.inl rfl) kk ⟨_, hx⟩ (exo_ok hx)
  have eu : upd H4 a (exo a C none) = H4 := by
    funext b
    by_cases hb : b = a
    · rw [hb, upd_same, ha]
    · rw [upd_ne hb]
  rw [eu] at J
  exact h _ (J.pins_of (pins' := []) fun p hp => by cases hp)
end
end Gk
namespace Gk
open PySem PySem.Spec PyProof.Rows L2
/-- an own exception's __init__, called at a new instance: it keeps the value under its name -/
def spInit (C : Addr) (fld : Str) : Sp := fun vs H Q _ => ∃ (a : Addr) (v : V), vs = [.ref a, v] ∧ H a = some (exo a C none) ∧ ∀ dx, H dx = none → dx ≠ a → Q .non (upd (upd H dx (exd dx [(fld, v)])) a (exo a C (some dx)))
section
variable {P : Program} {w : World} {K : PySem.W.Frag} {mg : Str → Option Value} {base : Heap} {C f cc cda : Addr} {fd : FuncData} {qual : Str} {params : Arguments} {scope : Scope}
theorem init_ok {par fld txt : Str} {k : Nat} {p0 p1 p2 p3 p4 pos q1 q2 q3 q4 : Pos} {pl : Addr → Sem Bool}
    (T : EInit P K C f cc fd qual params [.Expr (.Call (.Attribute (.Call (.Name "super" p0) [] [] p1) "__init__" p2) [.Constant (.str txt) k p3] [] p4) pos, .Assign [.Attribute (.Name "self" q1) fld q2] (.Name par q3) q4] scope cda) (S : EScope ["self", par] scope)
    (hp : (("self" : Str) == par) = false) (hfld : PySem.W.findIn K (.ref C) fld = some none) (hd1 : (par == ("__debug__" : Str)) = false) (hd2 : (par == ("__classdict__" : Str)) = false) (hsup : mg "super" = none)
    (hpar : (params.posonlyargs ++ params.args).head?.map (·.arg) = some "self")
    (he : ∀ L, eval (.Call (.Attribute (.Call (.Name "super" p0) [] [] p1) "__init__" p2) [.Constant (.str txt) k p3] [] p4) (PySem.W.ksEnv qual scope L f (.ref cda) cc) = (do
      let ov ← attributeBase (.Call (.Name "super" p0) [] [] p1) "__init__" (PySem.W.ksEnv qual scope L f (.ref cda) cc) (eval (.Call (.Name "super" p0) [] [] p1) (PySem.W.ksEnv qual scope L f (.ref cda) cc))
      standAt p2.atName
      let (f', first) ← holding [ov] (getMethod ov "__init__" (pl L))
      callWith p4 f' first (backTo p4 (starEach [.Constant (.str txt) k p3] (PySem.W.ksEnv qual scope L f (.ref cda) cc))) []))
    (hi : ∀ L, interactive (PySem.W.ksEnv qual scope L f (.ref cda) cc) = false)
    (hsw : ∀ L, swapsWith (.Name par q3) (some (.Attribute (.Name "self" q1) fld q2)) q4.line (PySem.W.ksEnv qual scope L f (.ref cda) cc) = pure false) :
    FnOk P w K mg base L2.CX0 1 f fd ["self", par] (spInit C fld) := by
  refine ⟨fun vs H Q E h => by obtain ⟨a, v, rfl, _⟩ := h; rfl, fun A outer s H args us vs Q E hr e0 hb r hsp => ?_⟩
  obtain ⟨a, v, rfl, ha, q⟩ := hsp
  obtain ⟨oc, od, osl, kV, doc, pm, an, ct, lk, efd⟩ := T.fn
  have KX : K.In s.heap := e0.mod.kin.keeps fun b o e => (e0.bs b o e).1
  have lim : s.heap.NoLimit := e0.mod.nolimit.keeps fun b o e => (e0.bs b o e).1
  subst efd
  cases r with
  | @cons _ u0 _ ur r0 rr =>
    cases rr with
    | @cons _ u1 _ ur' r1 rr' =>
      cases rr'
      refine ks_codeAny_call_defAt (binds := (["self", par] : List Str).zip [u0, u1]) hr.depth (KX _ _ lk) rfl lim (PySem.W.codeRec_of KX T.code) rfl hb S.nocell (fun y hy => S.loc _ (List.of_mem_zip (a := y.1) (b := y.2) hy).1) (fun h0 hns hk => ?_) S.co S.gen S.kind
      have I0 := einv (P := P) (w := w) (mg := mg) (tk := s.toks + ((["self", par] : List Str).zip [u0, u1]).length) T S hp hr.hd e0 r0 r1 hns hk
      refine ks_wpAt_mono (Q := fun fl s' => SP (ecx P w K mg base ["self", par] qual scope f cda cc A outer s H) [] { nx := fun _ H' => Q .non H', rt := Q } fl s') (E := fun _ _ => False)
        (sup_init T S (he _) (hi _) hpar hsup I0 ha fun s' I' => PySem.wpAt_of_wpAny ((pss_one (ps_ost (pe_var (i := 0) rfl (.inl (S.loc _ (List.mem_cons_self ..)))) (pe_var (i := 1) rfl (.inl (S.loc _ (List.mem_cons_of_mem _ (List.mem_cons_self ..)))) hd1 hd2) (hsw s.heap.objs.size))).run [] s' _ H _ I' ⟨v, rfl, .ref a, rfl, a, C, rfl, T.oex, hfld, .inl ⟨ha, q⟩⟩))
        (fun fl s' hs => ?_) fun _ _ z => z.elim
      cases fl with
      | next => obtain ⟨σ', H', J, z⟩ := hs; exact ⟨.non, H', J.os, J.bare, J.base, J.hok, rfl, z⟩
      | ret u => obtain ⟨vv, σ', H', J, rv, z⟩ := hs; exact ⟨vv, H', J.os, J.bare, J.base, J.hok, rv, z⟩
      | brk => obtain ⟨_, _, _, z⟩ := hs; exact False.elim z
      | cont => obtain ⟨_, _, _, z⟩ := hs; exact False.elim z
end
end Gk
/-! An own exception with one value, raised and caught by its name. -/
namespace Gk
open PySem PySem.Spec PyProof.Rows L2
structure Xown (P : Program) (w : World) (K : PySem.W.Frag) (mg : Str → Option Value) (base : Heap) (x par fld : Str) (C : Addr) : Prop where
  g : mg x = some (.ref C)
  oex : OexC K C
  ini : ∃ (f : Addr) (fd : FuncData), FnOk P w K mg base L2.CX0 1 f fd ["self", par] (spInit C fld) ∧ PySem.W.findIn K (.ref C) "__init__" = some (some (.ref f)) ∧ PySem.W.typeIn K (.ref f) = some (.type "function") ∧ Binds K fd ["self", par] []
  no : PySem.W.findIn K (.ref C) fld = some none
  te : PySem.W.exmOne K (.ref C) (.ref C) = some true
  xf : XfC K C
theorem spInit_of {C a : Addr} {fld : Str} {v : V} {H1 : Hp} {Q : XK} {E : XK} (na : H1 a = none) (q : ∀ d, H1 d = none → Q (.ref C) (some d) (upd H1 d (.xd [(fld, v)]))) :
    spInit C fld [.ref a, v] (upd H1 a (exo a C none)) (fun v H2 => v = .non ∧ ∃ (d : Addr) (fs : List (Str × V)), H2 a = some (exo a C (some d)) ∧ H2 d = some (exd d fs) ∧ H1 d = none ∧ Q (.ref C) (some d) (upd (del H2 a) d (.xd fs))) E := by
  refine ⟨a, v, rfl, upd_same, fun dx ndx nda => ?_⟩
  rw [upd_ne nda] at ndx
  refine ⟨rfl, dx, [(fld, v)], upd_same, ?_, ndx, ?_⟩
  · rw [upd_ne nda, upd_same]
  · have e : upd (del (upd (upd (upd H1 a (exo a C none)) dx (exd dx [(fld, v)])) a (exo a C (some dx))) a) dx (.xd [(fld, v)]) = upd H1 dx (.xd [(fld, v)]) := by
      funext b
      by_cases hb : b = dx
      · rw [hb, upd_same, upd_same]
      · rw [upd_ne hb, upd_ne hb]
        by_cases ha : b = a
        · rw [ha, del_same, na]
        · rw [del_ne ha, upd_ne ha, upd_ne hb, upd_ne ha]
    rw [e]
    exact q dx ndx
/-- X(e), raised -/
def tRz (C : Addr) (fld : Str) (te : TE) : L2.St → Hp → XK → Prop := fun σ H Q => te σ H fun v H1 => ∀ d, H1 d = none → Q (.ref C) (some d) (upd H1 d (.xd [(fld, v)]))
section
variable {X : Cx} {x par fld : Str} {C : Addr} {j : Nat} {e : Expr} {te : TE} {p pos : Pos}
theorem pmk_own (T : Xown X.prog X.w X.K X.mg X.base x par fld C) (hr : Room j X.A) (hk : 2 ≤ j) (hg : Gl X x) (he : PE X e te) (hdb : (x == ("__debug__" : Str)) = false := by decide)
    (h1 : starEach [e] X.env = (false, eval e X.env) :: starEach [] X.env := by rfl) (hpl : (backTo pos (starEach [] X.env)).any (·.1) = false := by rfl) : PMk X (.Call (.Name x p) [e] [] pos) (tRz C fld te) := by
  obtain ⟨f, fd, F, i1, i2, b⟩ := T.ini
  intro pins s σ H Q I h
  refine pmk_oex (CX := L2.CX0) T.oex i1 i2 F (hr.mono hk) b .nil (fun _ _ _ _ _ _ _ h => h.elim) hg T.g (pa_cons (pe_mid he) pa_nil (hs := h1)) hdb h1 hpl pins s σ H Q I ?_
  exact ⟨_, h, fun v H1 q => ⟨by show 1 ≤ 1000; decide, fun a na => spInit_of na q⟩⟩
theorem ps_raiseOwn {W : WX} {rp : Pos} (T : Xown X.prog X.w X.K X.mg X.base x par fld C) (hc : X.calm = true) (tk : Takes X W) (hr : Room j X.A) (hk : 2 ≤ j) (hg : Gl X x) (he : PE X e te) (hdb : (x == ("__debug__" : Str)) = false := by decide)
    (h1 : starEach [e] X.env = (false, eval e X.env) :: starEach [] X.env := by rfl) (hpl : (backTo pos (starEach [] X.env)).any (·.1) = false := by rfl) :
    PS X (.Raise (some (.Call (.Name x p) [e] [] pos)) none rp) (fun _ σ H => tRz C fld te σ H fun cls d H' => W cls d σ H') := ps_raise hc tk (pmk_own T hr hk hg he hdb h1 hpl)
end
/-- a def that may raise -/
structure DfX (P : Program) (w : World) (K : PySem.W.Frag) (mg : Str → Option Value) (base : Heap) (k : Nat) (x : Str) (ps : List Str) (sp : Sp) : Prop where
  ex : ∃ (f : Addr) (fd : FuncData), FnOk P w K mg base (L2.CX P w) k f fd ps sp ∧ mg x = some (.ref f) ∧ PySem.W.keepIn K (.ref f) = true ∧ Binds K fd ps []
section
variable {X : Cx} {k j : Nat} {x : Str} {ps : List Str} {sp : Sp} {p pos : Pos} {e : Expr} {es : List Expr} {t : TA}
theorem pe_dx {W : WX} (D : DfX X.prog X.w X.K X.mg X.base k x ps sp) (tk : Takes X W) (hr : Room j X.A) (hk : k ≤ j) (hg : Gl X x) (ha : PA X (e :: es) t)
    (hdb : (x == ("__debug__" : Str)) = false := by decide) (he : starEach (e :: es) X.env = (false, eval e X.env) :: starEach es X.env := by rfl)
    (hpl : (backTo pos (starEach es X.env)).any (·.1) = false := by rfl) : PE X (.Call (.Name x p) (e :: es) [] pos) (tCallS sp (WE W) t) := by
  obtain ⟨f, fd, F, m, kp, b⟩ := D.ex
  exact pe_callS (F.mono hk) hr hg m kp b (fun σ => passAt tk σ) ha hdb he hpl
end
end Gk
/-! An own exception's facts, from what is written. -/
namespace Gk
open PySem PySem.Spec PyProof.Rows L2
/-- an error of a class is what the class names -/
theorem exm_same {K : PySem.W.Frag} {S : Addr} (h1 : PySem.W.subIn K (.ref S) (.type "BaseException") = some true) (h2 : PySem.W.isClsIn K S = true) (h3 : PySem.W.typeIn K (.ref S) = some (.type "type")) (h4 : PySem.W.subIn K (.ref S) (.ref S) = some true) :
    PySem.W.exmOne K (.ref S) (.ref S) = some true := by
  have e1 : (PySem.W.subIn K (.ref S) (.type "BaseException") == some true) = true := by rw [h1] <;> rfl
  have e2 : ((PySem.W.clsIn K S).isSome && PySem.W.typeIn K (.ref S) == some (.type "type")) = true := by
    have h2' : (PySem.W.clsIn K S).isSome = true := h2
    rw [h2', h3] <;> rfl
  show (if (PySem.W.subIn K (.ref S) (.type "BaseException") == some true) = true then (if ((PySem.W.clsIn K S).isSome && PySem.W.typeIn K (.ref S) == some (.type "type")) = true then PySem.W.subIn K (.ref S) (.ref S) else none) else none) = some true
  rw [if_pos e1, if_pos e2]
  exact h4
section
variable {P : Program} {w : World} {K : PySem.W.Frag} {mg : Str → Option Value} {base : Heap} {C f cc cda N : Addr} {x par fld qual txt nm q file : Str} {st : Stmt} {k : Nat} {p0 p1 p2 p3 p4 pos q1 q2 q3 q4 : Pos}
variable {bs bm sub : List Value} {sn : List Str} {ab : Bool} {col : Option Bool} {dd od an cdd cld : Option Addr} {m0 m1 m2 m3 m5 : Option Value} {oc kV doc pm ct ccl cl : Value} {osl ccs csl : Array (Option Value)} {vs : Array Value} {tf : Tok}
theorem own_of (S : EScope ["self", par] (defScope st))
    (hbody : defBody st = [.Expr (.Call (.Attribute (.Call (.Name "super" p0) [] [] p1) "__init__" p2) [.Constant (.str txt) k p3] [] p4) pos, .Assign [.Attribute (.Name "self" q1) fld q2] (.Name par q3) q4])
    (hpar : ((defArgs st).posonlyargs ++ (defArgs st).args).head?.map (·.arg) = some "self")
    (hbind : ∀ (kV doc pm : Value) (an : Option Addr) (cdv ct : Value) (cc : Addr) (us : List Value), us.length = 2 → bindArgs (PySem.W.ksFn "__init__" qual (defArgs st) (defBody st) (defScope st) .none kV doc pm an cdv ct cc) ⟨us, []⟩ = pure ((["self", par] : List Str).zip us))
    {pl : Addr → Sem Bool}
    (he : ∀ L, eval (.Call (.Attribute (.Call (.Name "super" p0) [] [] p1) "__init__" p2) [.Constant (.str txt) k p3] [] p4) (PySem.W.ksEnv qual (defScope st) L f (.ref cda) cc) = (do
      let ov ← attributeBase (.Call (.Name "super" p0) [] [] p1) "__init__" (PySem.W.ksEnv qual (defScope st) L f (.ref cda) cc) (eval (.Call (.Name "super" p0) [] [] p1) (PySem.W.ksEnv qual (defScope st) L f (.ref cda) cc))
      standAt p2.atName
      let (f', first) ← holding [ov] (getMethod ov "__init__" (pl L))
      callWith p4 f' first (backTo p4 (starEach [.Constant (.str txt) k p3] (PySem.W.ksEnv qual (defScope st) L f (.ref cda) cc))) []))
    (hsw : ∀ L, swapsWith (.Name par q3) (some (.Attribute (.Name "self" q1) fld q2)) q4.line (PySem.W.ksEnv qual (defScope st) L f (.ref cda) cc) = pure false)
    (hp : (("self" : Str) == par) = false) (hd1 : (par == ("__debug__" : Str)) = false) (hd2 : (par == ("__classdict__" : Str)) = false)
    (g : mg x = some (.ref C)) (hsup : mg "super" = none)
    (xl : K.lookup C = some (excClassObj nm q C N bs bm true sn sub ab col dd m0 m1 m2 m3 m5 "ValueError.__new__")) (hbm : PySem.HandSPX.refsVE bm = true)
    (sa : PySem.W.findIn K (.ref C) "__setattr__" = some (some (.builtin "object.__setattr__"))) (ga : PySem.W.findIn K (.ref C) "__getattribute__" = some (some (.builtin "BaseException.__getattribute__"))) (gg : PySem.W.findIn K (.ref C) "__getattr__" = some none) (no : PySem.W.findIn K (.ref C) fld = some none)
    (iC : PySem.W.findIn K (.ref C) "__init__" = some (some (.ref f))) (tI : PySem.W.typeIn K (.ref f) = some (.type "function"))
    (xli : K.lookup f = some ⟨oc, od, .func (PySem.W.ksFn "__init__" qual (defArgs st) (defBody st) (defScope st) .none kV doc pm an (.ref cda) ct cc), osl⟩) (co : PySem.W.codeIn K (.ref cda) qual = true)
    (xcx : K.lookup cda = some ⟨ccl, cdd, .fields vs, ccs⟩) (xvx : vs[2]? = some (.str file tf)) (xfi : ((P.main.file : Str) == file) = true) (xto : (P.main.scope.names.lookup ("super" : Str)).isSome = false)
    (xce : K.lookup cc = some ⟨cl, cld, .cell (some (.ref C)), csl⟩) (xsu : PySem.W.ks_superIn K C C "__init__" = some (some (.builtin "ValueError.__init__"))) (xse : PySem.W.mroIn K C (.ref C) = some true) (xve : PySem.W.subIn K (.ref C) (.type "ValueError") = some true)
    (xan : PySem.W.nsIn K cStatics "thirdparty.any" = some none) (xkf : PySem.W.keepIn K (.ref f) = true) (xkC : PySem.W.keepIn K (.ref C) = true) (xeC : PySem.W.subIn K (.ref C) (.type "BaseException") = some true) (xtC : PySem.W.typeIn K (.ref C) = some (.type "type")) (xhC : PySem.W.hasDictIn K C = true)
    (xic : PySem.W.isClsIn K C = true) (xsC : PySem.W.subIn K (.ref C) (.ref C) = some true) : Xown P w K mg base x par fld C := by
  have oex : OexC K C := ⟨⟨nm, q, N, bs, bm, sn, sub, ab, col, dd, m0, m1, m2, m3, m5, xl, hbm⟩, sa, xeC, xtC, xkC⟩
  have T : EInit P K C f cc (PySem.W.ksFn "__init__" qual (defArgs st) (defBody st) (defScope st) .none kV doc pm an (.ref cda) ct cc) qual (defArgs st) (defBody st) (defScope st) cda :=
    ⟨oex, ⟨oc, od, osl, kV, doc, pm, an, ct, xli, rfl⟩, co, ⟨ccl, cdd, vs, ccs, file, tf, xcx, xvx, xfi⟩, xto, ⟨cl, cld, csl, xce⟩, xsu, xse, xve, xan, iC, tI, xkf⟩
  refine ⟨g, oex, ⟨f, _, ?_, iC, tI, .all fun us hl => hbind kV doc pm an (.ref cda) ct cc us hl⟩, no, exm_same xeC xic xtC xsC, ⟨ga, gg, xeC, xhC⟩⟩
  rw [hbody] at T
  rw [hbody]
  exact init_ok (w := w) (mg := mg) (base := base) T S hp no hd1 hd2 hsup hpar he (fun L => by
    have e : (PySem.W.ksEnv qual (defScope st) L f (.ref cda) cc).scope.kind = .function := S.kind
    unfold interactive
    rw [e]
    rfl) hsw
end
end Gk
/-! An own exception that is kept behind the suite that caught it. -/
namespace Gk
open PySem PySem.Spec PyProof.Rows L2
/-- a caught exception, held as a value -/
def exk (a : Addr) (cls : Value) (d : Option Addr) : HO := .ext fun h => ∃ oe vs, h.get? a = some oe ∧ Zc cls d oe ∧ oe.data = .fields vs
theorem exk_ok {P : Program} {w : World} {H : Hp} {h : Heap} {a : Addr} {cls : Value} {d : Option Addr} {oe : Obj} {vs : Array Value} (e : h.get? a = some oe) (z : Zc cls d oe) (v : oe.data = .fields vs) : ObjOk P w H h a (exk a cls d) :=
  ⟨⟨oe, vs, e, z, v⟩, ⟨oe, e⟩, fun _ _ ⟨o, us, e1, z1, v1⟩ k => ⟨o, us, k _ e1, z1, v1⟩⟩
theorem exk_at {P : Program} {w : World} {H : Hp} {h : Heap} {a : Addr} {cls : Value} {d : Option Addr} (x : HOk P w H h) (e : H a = some (exk a cls d)) : ∃ oe vs, h.get? a = some oe ∧ Zc cls d oe ∧ oe.data = .fields vs := (x a _ e).1
section
variable {X : Cx} {pins : List (Addr × Obj)} {σ : L2.St} {H : Hp} {s : Shared}
/-- an object of ours that was not told of is told of from here on -/
theorem adopt {a : Addr} {oe : Obj} {vs : Array Value} {o : HO} (I : Inv X pins σ H s) (ha : s.heap.get? a = some oe) (hd : oe.data = .fields vs) (na : H a = none) (nL : a ≠ X.env.locals) (np : ∀ p ∈ X.pn ++ pins, p.1 ≠ a) (n0 : ∀ u, X.s_0.heap.get? a = some u → a ∉ X.ex → False)
    (new : ObjOk X.prog X.w (upd H a o) s.heap a o) : Inv X pins σ (upd H a o) s := by
  have far : ∀ {b : Addr} {u : HO}, H b = some u → (upd H a o) b = some u := fun {b u} e => by
    rw [upd_ne (fun z => by rw [z, na] at e; cases e)]
    exact e
  refine ⟨I.ok, I.os, I.bare, ⟨I.base.keep, I.base.slot, fun b u e n x => ?_, I.base.there, fun b xs e => far (I.base.tups b xs e), fun b p u e => far (I.base.frzs b p u e), fun b ps e => ?_⟩, I.loc, I.cell, ?_, fun x c e => ?_, fun p hp => ?_, I.hok.laidN (fun _ _ q => q) na new, I.len⟩
  · have : b ≠ a := fun z => by rw [z] at e x; exact n0 u e x
    rw [upd_ne this]
    exact I.base.free b u e n x
  · obtain ⟨more, g⟩ := I.base.tbls b ps e
    exact ⟨more, far g⟩
  · rw [upd_ne (Ne.symm nL)]
    exact I.free
  · have : c ≠ a := fun z => by
      obtain ⟨v, oc, e1, e2⟩ := I.cell x c e
      rw [z, ha] at e1
      cases e1
      rw [hd] at e2
      cases e2
    rw [upd_ne this]
    exact I.freeC x c e
  · obtain ⟨h1, h2, h3⟩ := I.pin p hp
    rw [upd_ne (np p hp)]
    exact ⟨h1, h2, h3⟩
end
/-- the wish of «except c as n» where the clause's suite keeps the exception: it always answers -/
def wKeep (K : PySem.W.Frag) (c : Value) (i : Nat) (ts : Addr → Value → Option Addr → TS) (D : Ends) : WX := fun cls d σ H =>
  PySem.W.exmOne K cls c = some true ∧ ∀ a, H a = none → ts a cls d { nx := fun σ' H' => H' a = none → D.nx (σ'.set i none) (upd H' a (exk a cls d)), rt := fun _ _ => False, bk := fun _ _ => False, ct := fun _ _ => False } (σ.set i (some (.ref a))) H
section
variable {X : Cx} {x n : Str} {c : Value} {i : Nat} {body suite : List Stmt} {b₀ : Stmt} {np pos pos' : Pos} {tb : WX → TS} {ts : Addr → Value → Option Addr → TS}
theorem ps_try_keep (hs : X.stack = X.env :: X.outer) (hf : X.env.frame = some X.env.locals) (hN : X.N.Nodup) (hi : X.N[i]? = some n) (hln : X.env.kindOf n = some .local) (hc : Names X x c)
    (hb : ∀ (W : WX) (pn : List (Addr × Obj)) (xe : Value → Shared → Prop), Takes (X.tr pn xe) W → PassesOwn (model X.prog X.w) X.A X.env xe → PSs (X.tr pn xe) body (tb W))
    (hsu : ∀ (a : Addr) (oe : Obj) (cls : Value) (d : Option Addr) (pn : List (Addr × Obj)), Zc cls d oe → (∃ vs, oe.data = .fields vs) → PSs (X.suite a ((a, oe) :: pn)) (b₀ :: suite) (ts a cls d)) :
    PS X (.Try body [.ExceptHandler (some (.Name x np)) (some n) (b₀ :: suite) pos'] [] [] pos) (fun D σ H => tb (wKeep X.K c i ts D) D σ H) := by
  refine ⟨fun pins s σ H D I h => wpAny_Try_except (wpAny_mono ((hb (wKeep X.K c i ts D) (X.pn ++ pins) _ ?_ PassesOwn.looking).run [] s σ H D (I.toTry _) h) ?_ fun _ _ z => z)⟩
  · intro u s' xx
    obtain ⟨a, B, sI, ps, σ1, H1, cls, d, eu, J0, ground, up, sky, na, hos, hag, match_, wish⟩ := xx
    subst eu
    have ok := I.ok
    have J := J0.ofTry (pins := pins) ok
    have fr : X.A.frames = some (X.env :: X.outer) := by rw [ok.frames, hs]
    have sky1 : Sky B (X.env :: X.outer) a (Zc cls d) X.env.locals s'.heap := hs ▸ sky
    refine Sky.land Zc.steady fr hf sky1 fun g fl ug => ?_
    have Jg : Inv X pins σ1 H1 { s' with heap := g } := J.landed ground fl.1 (up.trans ug) hos hag
    obtain ⟨og, vg, eg, zg, dg⟩ := fl.there
    -- a is no frame, and nothing that stood before
    have far : a ∉ frs (X.env :: X.outer) := fun m => by
      obtain ⟨_, o', e', nf⟩ := fl.2.2.1.mem m
      rw [eg] at e'
      cases e'
      exact nf _ dg
    have frsE : frs (X.env :: X.outer) = X.env.locals :: X.fs := by
      show List.filterMap _ _ = _
      rw [List.filterMap_cons, hf]
      rfl
    have nL : a ≠ X.env.locals := fun z => far (by rw [frsE, z]; exact List.mem_cons_self)
    have nF : a ∉ X.fs := fun m => far (by rw [frsE]; exact List.mem_cons_of_mem _ m)
    have noB : ∀ o, B.get? a = some o → False := fun o e => by rw [fl.2.1] at e; cases e
    have none0 : ∀ o, sI.heap.get? a = some o → False := fun o e => noB o (ground a o e (by rw [show X.stack = X.env :: X.outer from hs] at *; exact far))
    have npn : ∀ p ∈ X.pn ++ pins, p.1 ≠ a := fun p hp z => by
      have q := (J.pin p hp).1
      rw [z] at q
      exact none0 _ q
    have n0 : ∀ o, X.s_0.heap.get? a = some o → a ∉ X.ex → False := fun o e nx => by
      obtain ⟨o', e'⟩ := J.base.there a o e nx
      exact none0 o' e'
    refine PySem.W.exc_clause_as ?_
    have Sg := Jg.suite eg dg na nL nF
    have same : ∀ {Q : Value → Shared → Prop} {E : Value → Shared → Prop}, Q c { s' with heap := g } → wpAny (model X.prog X.w) (X.A.mark (some (.ref a))) (eval (.Name x np) X.env) Q E { s' with heap := g } := fun {Q E} q => by
      rcases hc with ⟨g1, g2, g3 | ⟨g3, g4, g5⟩⟩
      · exact ld_glob (X := X.suite a ((a, og) :: (X.pn ++ pins))) Sg g1 g3 q g2
      · exact ld_blt (X := X.suite a ((a, og) :: (X.pn ++ pins))) Sg g1 g3 g4 q g5 g2
    refine same ⟨true, PySem.W.exm_one (M := model X.prog X.w) Jg.kIn (fun A Q E s k q => wpAny_typeOf_ref (k _ _ eg) (by rw [zg.1]; exact q)) match_, ?_⟩
    show wpAny _ _ (setFlight (.ref a) none) _ _ _
    refine HandSPX.lands_againZ fl fun g2 fl2 ug2 => ?_
    have J2 : Inv X pins σ1 H1 { s' with heap := g2 } := J.landed ground fl2.1 ((up.trans ug).trans ug2) hos hag
    obtain ⟨o2, v2, e2, z2, d2⟩ := fl2.there
    refine store_ok (X := X.suite a ((a, o2) :: (X.pn ++ pins))) (v := .ref a) (J2.suite e2 d2 na nL nF) hN hi (.inl hln) rfl (fun s3 S3 => ?_) (.inr hln)
    refine wpAny_mono ((hsu a o2 cls d (X.pn ++ pins) z2 ⟨_, d2⟩).run [] s3 _ H1 _ S3 (wish a na)) (fun f s4 q4 => ?_) (fun _ _ z => False.elim z)
    cases f with
    | next =>
      obtain ⟨σ4, H4, S4, q4⟩ := q4
      obtain ⟨p1, p2, _⟩ := S4.pin (a, o2) (List.mem_append_left _ List.mem_cons_self)
      have J4 := S4.unsuite (pins := pins) ok
      exact gone_ok (adopt J4 p1 d2 p2 nL npn n0 (exk_ok p1 z2 d2)) hN hi hln fun s5 J5 => ⟨_, _, J5, q4 p2⟩
    | brk => obtain ⟨_, _, _, z⟩ := q4; exact False.elim z
    | cont => obtain ⟨_, _, _, z⟩ := q4; exact False.elim z
    | ret u => obtain ⟨_, _, _, _, _, z⟩ := q4; exact False.elim z
  · intro f s1 q
    have ok := I.ok
    cases f with
    | next => obtain ⟨σ1, H1, J, z⟩ := q; exact wpAny_execs_nil ⟨σ1, H1, J.ofTry ok, z⟩
    | brk => obtain ⟨σ1, H1, J, z⟩ := q; exact ⟨σ1, H1, J.ofTry ok, z⟩
    | cont => obtain ⟨σ1, H1, J, z⟩ := q; exact ⟨σ1, H1, J.ofTry ok, z⟩
    | ret u => obtain ⟨v, σ1, H1, J, r, z⟩ := q; exact ⟨v, σ1, H1, J.ofTry ok, r, z⟩
end
end Gk
/-! What is asked of a kept exception: its kind, its value. -/
namespace Gk
open PySem PySem.Spec PyProof.Rows L2
/-- the exception at a: of the class at D, with what it keeps -/
def Kept (H : Hp) (a D : Addr) (fs : List (Str × V)) : Prop := ∃ d, H a = some (exk a (.ref D) (some d)) ∧ H d = some (.xd fs)
theorem Kept.same {H H' : Hp} {a D : Addr} {fs : List (Str × V)} (h : Kept H a D fs) (s : ∀ b o, H b = some o → H' b = some o) : Kept H' a D fs := by
  obtain ⟨d, h1, h2⟩ := h
  exact ⟨d, s _ _ h1, s _ _ h2⟩
section
variable {X : Cx} {pins : List (Addr × Obj)} {σ : L2.St} {H : Hp} {s : Shared}
/-- what stands there -/
theorem kept_at {a D : Addr} {fs : List (Str × V)} (I : Inv X pins σ H s) (k : Kept H a D fs) : ∃ (oe od : Obj), PySem.W.InstAt s.heap a oe D (some od) ∧ ∀ (n : Str) (v : V), fs.lookup n = some v → ∃ u, PySem.W.lookIn n od = some (some u) ∧ RelV v u := by
  obtain ⟨d, h1, h2⟩ := k
  obtain ⟨oe, vs, e, z, v⟩ := exk_at I.hok h1
  have hd : ObjOk X.prog X.w H s.heap d (.xd fs) := I.hok d _ h2
  obtain ⟨m, ns, rel⟩ := hd
  obtain ⟨od, eo, lo⟩ := lookIn_ns ns
  refine ⟨oe, od, ⟨e, z.1, by unfold PySem.W.notCls; rw [v] <;> rfl, by rw [z.2]; exact eo⟩, fun n x hx => ?_⟩
  have g := rel n
  rw [hx] at g
  obtain ⟨u, hu, ru⟩ := RelO.some_of g
  exact ⟨u, by rw [lo, hu], ru⟩
end
/-- isinstance(e, c) of a kept exception -/
def rIsK (K : PySem.W.Frag) : List V → Hp → VK → Prop := fun xs H Q => ∃ (a D : Addr) (fs : List (Str × V)) (c : V) (cv : Value) (b : Bool), xs = [.ref a, c] ∧ Kept H a D fs ∧ ExcC K D ∧ (∀ u, RelV c u → u = cv) ∧ PySem.W.kitOne K (.ref D) cv = some b ∧ Q (.bl b) H
theorem call_isK {X : Cx} : CallR X (.builtin "isinstance") (rIsK X.K) := by
  intro pins s σ H xs us Q I r h
  obtain ⟨a, D, fs, c, cv, b, rfl, k, C, hcv, e, q⟩ := h
  rcases r with _ | ⟨ra, _ | ⟨rc, _ | _⟩⟩
  obtain ⟨oe, od, J, _⟩ := kept_at I k
  obtain ⟨cd, hcl, _⟩ := PySem.W.any_some C.hd
  cases ra
  obtain rfl := hcv _ rc
  exact PySem.W.kia_one (PySem.W.kitx_exc (by rw [hcl]; rfl) C.hg C.hk C.hs C.ha C.hn C.ht C.hm) I.kIn J e (fun z => nomatch z) fun tk => ⟨.bl b, H, I.kept (t' := tk) fun _ _ z => z, rfl, q⟩
/-- e.n of a kept exception -/
def tXk (K : PySem.W.Frag) (n : Str) (te : TE) : TE := fun σ H Q => te σ H fun x H1 => ∃ (a D : Addr) (fs : List (Str × V)) (v : V), x = .ref a ∧ Kept H1 a D fs ∧ XfC K D ∧ PySem.W.findIn K (.ref D) n = some none ∧ fs.lookup n = some v ∧ Q v H1
theorem pe_xk {X : Cx} {e : Expr} {te : TE} {pos : Pos} {n : Str} (he : PE X e te) (hb : attributeBase e n X.env (eval e X.env) = eval e X.env := by rfl) : PE X (.Attribute e n pos) (tXk X.K n te) := by
  refine ⟨fun pins s σ H Q I h => attr_of hb (thn (he.run pins s σ H _ I h) fun u s1 ⟨x, H1, I1, rx, a, D, fs, v, ex, k, T, no, l, q⟩ => ?_)⟩
  subst ex
  cases rx
  obtain ⟨oe, od, J, own⟩ := kept_at I1 k
  obtain ⟨y, hy, ry⟩ := own n v l
  exact HandSPX.exc_get I1.kIn J T.ga T.gg T.exC (PySem.W.findObj_own T.hdC no rfl hy) (handed_of ry) ⟨v, H1, I1.tok _, ry, q⟩
end Gk
/-! An own exception made as a value: positionally, by keyword, without a value; what isinstance and its field then say. -/
namespace Gk
open PySem PySem.Spec PyProof.Rows L2
section
variable {M : Model} {A : Around} {E : Value → Shared → Prop} {h : Heap} {g : Array GenState} {d : Drawn} {t : Nat} {os : OsState}
variable {nm q : Str} {C N : Addr} {bs bm bmB : List Value} {hdct : Bool} {sn : List Str} {sub : List Value} {ab : Bool} {col : Option Bool} {dd : Option Addr} {k0 k1 k2 k3 k5 : Option Value} {B newId initId : String}
theorem check_new_ownW (F : ExcBaseFacts B newId initId bmB) (hT : ∀ X : String, bm.contains (.type X) = bmB.contains (.type X)) {rest : List Value} {kw : List (Str × Value)} {Q : Unit → Shared → Prop}
    (hC : h.get? C = some (excClassObj nm q C N bs bm hdct sn sub ab col dd k0 k1 k2 k3 k5 newId)) (hq : Q () ⟨h, g, d, t, os⟩) : wpAny M A (checkBuiltinCall newId ⟨.ref C :: rest, kw⟩) Q E ⟨h, g, d, t, os⟩ := by
  have hcont : (Value.ref C :: bm).contains (.type B) = true := by rw [List.contains_cons, hT, F.hasB, Bool.or_true]
  have hstar := F.noStar
  simp only [checkBuiltinCall, F.newKind, F.newSplit, F.newRow]
  repeat (first | refine wpAny_loadPart_at hC ?_ | (refine wpAny_isSubtype_exc hC ?_; rw [hcont]) | refine wpAny_staticBase_exc hC ?_ | refine wpAny_madeBy_exc hC ?_ | simp only [bne_self_eq_false, Bool.false_eq_true, if_false] | wp_step)
  exact hq
theorem check_tc_W {rest : List Value} {kw : List (Str × Value)} {Q : Unit → Shared → Prop} (hC : h.get? C = some (excClassObj nm q C N bs bm hdct sn sub ab col dd k0 k1 k2 k3 k5 newId))
    (hq : Q () ⟨h, g, d, t, os⟩) : wpAny M A (checkBuiltinCall "type.__call__" ⟨.ref C :: rest, kw⟩) Q E ⟨h, g, d, t, os⟩ := by
  have f3 := tc_sub
  have hT : (⟨h, g, d, t, os⟩ : Shared).TypeIs (.ref C) "type" := ⟨_, hC, rfl⟩
  simp only [checkBuiltinCall, tc_kind, tc_split]
  repeat (any_goals (first | assumption | with_reducible refine wpAny_loadPart_at hC ?_ | with_reducible refine wpAny_onRaise ?_ | with_reducible refine wpAny_map ?_ | wp_step))
end
section
variable {prog : Program} {w : World} {A : Around} {E : Value → Shared → Prop} {R : Result → Shared → Prop} {h : Heap} {g : Array GenState} {d : Drawn} {t : Nat} {os : OsState}
variable {nm q : Str} {C N : Addr} {bs bm bmB : List Value} {hdct : Bool} {sn : List Str} {sub : List Value} {ab : Bool} {col : Option Bool} {dd : Option Addr} {k0 k1 k2 k3 k5 : Option Value} {B newId initId : String}
theorem new_ownW (F : ExcBaseFacts B newId initId bmB) (hT : ∀ X : String, bm.contains (.type X) = bmB.contains (.type X)) {rest : List Value} {kw : List (Str × Value)}
    (hC : h.get? C = some (excClassObj nm q C N bs bm hdct sn sub ab col dd k0 k1 k2 k3 k5 newId))
    (hq : R (.ok (.ret (.ref (h.objs.size + 1)))) ⟨(h.push { cls := .type "tuple", data := .seq rest.toArray }).push
      { cls := .ref C, data := .fields #[.ref h.objs.size, .none, .none, .none, .bool false, .none] }, g, d, t, os⟩) (hrest : rest.length ≤ sizeLine) :
    codeAny (model prog w) A (.builtin newId ⟨.ref C :: rest, kw⟩) R ⟨h, g, d, t, os⟩ := by
  have hends := F.ends
  have hcB : (Value.ref C :: bm).contains (.type B) = true := by rw [List.contains_cons, hT, F.hasB, Bool.or_true]
  have hcA : (Value.ref C :: bm).contains (.type "AttributeError") = false := by rw [List.contains_cons, hT, F.noAttr]; rfl
  have hcN : (Value.ref C :: bm).contains (.type "NameError") = false := by rw [List.contains_cons, hT, F.noName]; rfl
  refine codeAny_builtinAt F.entry ?_
  unfold Builtin.«BaseException.__new__»
  refine PySem.wpAt_bind ?_
  show PySem.wpAt _ _ _ (stack >>= _) _ _ _
  refine PySem.wpAt_bind (PySem.wpAt_stack fun p below => PySem.wpAt_of_wpAny ?_)
  wp_walk
  refine PySem.wpAt_of_wpAny ?_
  rw [F.owner]
  repeat (first | with_reducible refine wpAny_madeHere_exc F.canon hC ?_ | with_reducible refine wpAny_loadPart_at hC ?_ | (with_reducible refine wpAny_isSubtype_exc hC ?_; first | rw [hcB] | rw [hcA] | rw [hcN]) | wp_step)
  show R _ _
  rw [Heap.size_push]
  exact hq
theorem type_call_ownW (F : ExcBaseFacts B newId initId bmB) (hT : ∀ X : String, bm.contains (.type X) = bmB.contains (.type X)) {rest : List Value} {kw : List (Str × Value)} {fI : Addr} {Q : Fin → Shared → Prop}
    (hC : h.get? C = some (excClassObj nm q C N bs bm hdct sn sub ab col dd k0 k1 k2 k3 k5 newId))
    (hi : PySem.W.Looks (model prog w) h (typeLookup (.ref C) "__init__") (some (.ref fI))) (hb : ∀ self, PySem.W.Looks (model prog w) h (bindSpecial (.ref fI) self) (.ref fI, [self])) (hrest : rest.length ≤ sizeLine)
    (hq : codeAny (model prog w) A (.call (.ref fI) ⟨.ref (h.objs.size + 1) :: rest, kw⟩)
      (fun r s' => match r with | .ok (.ret v) => v = .none ∧ Q (.done (.ret (.ref (h.objs.size + 1)))) s' | .ok _ => False | .error e => E e s')
      ⟨(h.push (PySem.W.kdv_tup rest)).push (PySem.HandSPX.excO C h.objs.size), g, d, t, os⟩) :
    wpAny (model prog w) A (Builtin.«type.__call__» ⟨.ref C :: rest, kw⟩) Q E ⟨h, g, d, t, os⟩ := by
  repeat (first | with_reducible refine wpAny_loadPart_at hC ?_ | with_reducible refine wpAny_madeBy_exc hC ?_ | wp_step)
  refine codeAny_call_builtin_code (Code.quiet_builtin _ F.quiet) (check_new_ownW F hT hC ?_)
  refine new_ownW F hT hC ?_ hrest
  show wpAny _ _ _ _ _ _
  have k : ∀ b o, h.get? b = some o → ((h.push (PySem.W.kdv_tup rest)).push (PySem.HandSPX.excO C h.objs.size)).get? b = some o := fun b o e => Heap.get?_push_of_some _ (Heap.get?_push_of_some _ e)
  have hC₁ := k _ _ hC
  have hget : ((h.push (PySem.W.kdv_tup rest)).push (PySem.HandSPX.excO C h.objs.size)).get? (h.objs.size + 1) = some (PySem.HandSPX.excO C h.objs.size) := by heap_get
  have hcC : (Value.ref C :: bm).contains (.ref C) = true := by simp
  have i1 := hi.keeps k
  have b1 := (hb (.ref (h.objs.size + 1))).keeps k
  unfold isInstance
  repeat (first | with_reducible refine wpAny_loadPart_at hget ?_ | (with_reducible refine wpAny_isSubtype_exc hC₁ ?_; rw [hcC]) | wp_step)
  show wpAny _ _ (typeLookup (.ref C) _) _ _ _
  refine i1.at ?_
  refine wpAny_holding (wpAny_bind (b1.at ?_))
  refine wpAny_bind (wpAny_call (codeAny_mono hq fun r s' z => ?_))
  rcases r with e | (v | _ | _ | _) <;> first | exact z | exact z.elim | skip
  obtain ⟨rfl, z⟩ := z
  first
    | exact wpAny_pure (wpAny_pure z)
    | (wp_walk; exact z)
theorem call_ownW (F : ExcBaseFacts B newId initId bmB) (hT : ∀ X : String, bm.contains (.type X) = bmB.contains (.type X)) {rest : List Value} {kw : List (Str × Value)} {fI : Addr}
    (hC : h.get? C = some (excClassObj nm q C N bs bm hdct sn sub ab col dd k0 k1 k2 k3 k5 newId))
    (hi : PySem.W.Looks (model prog w) h (typeLookup (.ref C) "__init__") (some (.ref fI))) (hb : ∀ self, PySem.W.Looks (model prog w) h (bindSpecial (.ref fI) self) (.ref fI, [self])) (hrest : rest.length ≤ sizeLine)
    (hq : codeAny (model prog w) (A.under (.builtin "type.__call__" ⟨.ref C :: rest, kw⟩)) (.call (.ref fI) ⟨.ref (h.objs.size + 1) :: rest, kw⟩) (PySem.W.InitBack (h.objs.size + 1) R)
      ⟨(h.push (PySem.W.kdv_tup rest)).push (PySem.HandSPX.excO C h.objs.size), g, d, t, os⟩) :
    codeAny (model prog w) A (.call (.ref C) ⟨rest, kw⟩) R ⟨h, g, d, t, os⟩ := by
  have f1 := tc_lookup
  have f2 := tc_bind (.ref C)
  have hTy : (⟨h, g, d, t, os⟩ : Shared).TypeIs (.ref C) "type" := ⟨_, hC, rfl⟩
  refine codeAny_of_tree ?_
  show wpAny _ _ (callAny (.ref C) _) _ _ _
  repeat (any_goals (first | assumption | with_reducible refine wpAny_loadPart_at hC ?_ | wp_step))
  refine ⟨rfl, ?_⟩
  refine codeAny_call_builtin_at (Code.quiet_builtin _ (by decide +kernel)) entry_typeCall (check_tc_W hC (type_call_ownW F hT hC hi hb hrest ?_))
  refine codeAny_mono hq fun r s' z => ?_
  rcases r with e | (v | _ | _ | _) <;> exact z
end
/-- an exception of ours as it is kept: of the class at D -/
def Xi (H : Hp) (a D : Addr) : Prop := H a = some (exo a D none) ∨ ∃ d fs, H a = some (exo a D (some d)) ∧ H d = some (exd d fs)
/-- .. with its one value -/
def Xv (H : Hp) (a D : Addr) (f : Str) (v : V) : Prop := ∃ d, H a = some (exo a D (some d)) ∧ H d = some (exd d [(f, v)])
theorem Xi.same {H H' : Hp} {a D : Addr} (h : Xi H a D) (s : Same H H') : Xi H' a D := by
  rcases h with h | ⟨d, fs, e, e2⟩
  · exact .inl (s _ _ h)
  · exact .inr ⟨d, fs, s _ _ e, s _ _ e2⟩
theorem Xv.same {H H' : Hp} {a D : Addr} {f : Str} {v : V} (h : Xv H a D f v) (s : Same H H') : Xv H' a D f v := let ⟨d, e, e2⟩ := h; ⟨d, s _ _ e, s _ _ e2⟩
theorem Xv.i {H : Hp} {a D : Addr} {f : Str} {v : V} (h : Xv H a D f v) : Xi H a D := let ⟨d, e, e2⟩ := h; .inr ⟨d, _, e, e2⟩
section
variable {X : Cx} {x par fld : Str} {C fI : Addr} {j : Nat} {e : Expr} {te : TE} {fd : FuncData} {p pos kp : Pos}
/-- the making, by whatever arguments -/
theorem run_oexW {CX : CXT} {k : Nat} {ps : List Str} {sp : Sp} {pins : List (Addr × Obj)} {σ : L2.St} {H1 : Hp} {s1 : Shared} {Q : VK} {us ws : List Value} {kw : List (Str × Value)} {vs : List V} (T : OexC X.K C) (iC : PySem.W.findIn X.K (.ref C) "__init__" = some (some (.ref fI))) (tI : PySem.W.typeIn X.K (.ref fI) = some (.type "function"))
    (F1 : FnOk X.prog X.w X.K X.mg X.base CX k fI fd ps sp) (hr : Room (k + 1) X.A) (hx : Passes CX X (fun _ _ _ => False)) (I1 : Inv X pins σ H1 s1) (r2 : Vals vs ws) (hus : us.length ≤ sizeLine)
    (hb : ∀ (s : Shared) (a : Addr), X.K.In s.heap → BindsTo s fd ⟨.ref a :: us, kw⟩ (ps.zip (.ref a :: ws)))
    (hq : ∀ a, H1 a = none → sp (.ref a :: vs) (upd H1 a (exo a C none)) (fun v H2 => v = .non ∧ Q (.ref a) H2) (fun _ _ _ => False)) :
    wpAny (model X.prog X.w) X.A (call (.ref C) us kw) (EP X pins σ Q) X.xe s1 := by
  obtain ⟨nm, q, N, bs, bm, sn, sub, ab, col, dd, k0, k1, k2, k3, k5, hC, hbm⟩ := T.cls
  obtain ⟨hp, g, dr, tk, os⟩ := s1
  have hsz : hp.objs.size ≤ hp.objs.size + 1 := Nat.le_succ _
  have hn : H1 (hp.objs.size + 1) = none := I1.hok.fresh hsz
  have kk : ∀ b o, hp.get? b = some o → ((hp.push (PySem.W.kdv_tup us)).push (PySem.HandSPX.excO C hp.objs.size)).get? b = some o := fun b o e => Heap.get?_push_of_some _ (Heap.get?_push_of_some _ e)
  have hget : ((hp.push (PySem.W.kdv_tup us)).push (PySem.HandSPX.excO C hp.objs.size)).get? (hp.objs.size + 1) = some (PySem.HandSPX.excO C hp.objs.size) := by heap_get
  have I2 : Inv X pins σ (upd H1 (hp.objs.size + 1) (exo (hp.objs.size + 1) C none)) ⟨(hp.push (PySem.W.kdv_tup us)).push (PySem.HandSPX.excO C hp.objs.size), g, dr, tk, os⟩ :=
    I1.laid (t' := tk) (a := hp.objs.size + 1) (o := exo (hp.objs.size + 1) C none) (h' := (hp.push (PySem.W.kdv_tup us)).push (PySem.HandSPX.excO C hp.objs.size)) kk hsz (exo_ok hget)
  have r3 : Vals (V.ref (hp.objs.size + 1) :: vs) (Value.ref (hp.objs.size + 1) :: ws) := .cons rfl r2
  refine wpAny_call (call_ownW F.excBase_ValueError (fun Y => PySem.HandSPX.refsVE_contains Y bm hbm) (I1.kIn _ _ hC) (PySem.W.looks_findIn I1.kIn iC) (fun self => PySem.W.bind_fn I1.kIn self tI) hus
    (codeAny_mono (F1.run _ X.stack _ _ ⟨Value.ref (hp.objs.size + 1) :: us, kw⟩ (Value.ref (hp.objs.size + 1) :: ws) _ _ (fun _ _ _ => False) (hr.make C us kw) (I2.env0.make C us kw) (hb _ _ I2.kIn) r3 (hq _ hn)) fun r s' hq' => ?_))
  cases r with
  | error er => exact hx pins σ _ _ er s' I2 hq'
  | ok fl =>
    cases fl with
    | ret u =>
      obtain ⟨v, H', I3, rv, ev, q3⟩ := I2.after hq'
      subst ev
      exact ⟨rv, ⟨V.ref (hp.objs.size + 1), H', I3, rfl, q3⟩⟩
    | next => exact False.elim hq'
    | brk => exact False.elim hq'
    | cont => exact False.elim hq'
/-- X(e), X(par=e): a new exception with its value -/
def tNewX (C : Addr) (fld : Str) (te : TE) : TE := fun σ H Q => te σ H fun v H1 => ∀ a H2, Same H1 H2 → H1 a = none → Xv H2 a C fld v → Q (.ref a) H2
theorem spInit_xv {C a : Addr} {fld : Str} {v : V} {H1 : Hp} {Q : VK} (na : H1 a = none) (q : ∀ H2, Same H1 H2 → Xv H2 a C fld v → Q (.ref a) H2) :
    spInit C fld [.ref a, v] (upd H1 a (exo a C none)) (fun v H2 => v = .non ∧ Q (.ref a) H2) (fun _ _ _ => False) := by
  refine ⟨a, v, rfl, upd_same, fun dx ndx nda => ⟨rfl, q _ (fun b o e => ?_) ⟨dx, upd_same, ?_⟩⟩⟩
  · rw [upd_ne nda] at ndx
    rw [upd_ne (ne_of_none e na), upd_ne (ne_of_none e ndx), upd_ne (ne_of_none e na)]
    exact e
  · rw [upd_ne nda, upd_same]
theorem pe_newX (T : Xown X.prog X.w X.K X.mg X.base x par fld C) (hr : Room j X.A) (hk : 2 ≤ j) (hg : Gl X x) (he : PE X e te) (hdb : (x == ("__debug__" : Str)) = false := by decide)
    (h1 : starEach [e] X.env = (false, eval e X.env) :: starEach [] X.env := by rfl) (hpl : (backTo pos (starEach [] X.env)).any (·.1) = false := by rfl) : PE X (.Call (.Name x p) [e] [] pos) (tNewX C fld te) := by
  obtain ⟨f, fd, F, i1, i2, b⟩ := T.ini
  refine ⟨fun pins s σ H Q I h => ?_⟩
  refine wpAny_Call_Name_kw (ld_glob I hg T.g ?_ hdb)
  have ha : PA X [e] (tCons (tMid te) tNil) := pa_cons (pe_mid he) pa_nil (hs := h1)
  refine PySem.W.callWith_K (h₀ := X.base) I.ok.mod.kin T.oex.kC (thn (ha.run pos pins s σ H (fun vs H1 => ∃ v, vs = [v] ∧ ∀ a H2, Same H1 H2 → H1 a = none → Xv H2 a C fld v → Q (.ref a) H2) I ?_) fun us s1 ⟨vs, H1, I1, r1, v, ev, q1⟩ => ⟨I1.kIn, ?_⟩) h1 hpl
  · exact ⟨_, h, fun v H1 q => ⟨v, rfl, q⟩⟩
  subst ev
  show wpAny _ _ (call (.ref C) us) _ _ _
  refine run_oexW (us := us) (ws := us) (kw := []) T.oex i1 i2 F (hr.mono hk) (fun _ _ _ _ _ _ _ h => h.elim) I1 r1 ?_ (fun s a X0 => ?_) fun a na => spInit_xv na fun H2 s2 x2 => q1 a H2 s2 na x2
  · rw [← Paired.length r1, sizeLine_eq]
    show 1 ≤ _
    omega
  · have := b s (.ref a :: us) X0 (by rw [List.append_nil, List.length_cons, ← r1.length]; rfl)
    rw [List.append_nil] at this
    exact this
end
end Gk
/-! The own exceptions with and without a value, from what is written; their makings and what is asked of them. -/
namespace Gk
open PySem PySem.Spec PyProof.Rows L2
structure XownW (P : Program) (w : World) (K : PySem.W.Frag) (mg : Str → Option Value) (base : Heap) (x par fld : Str) (C : Addr) : Prop where
  X : Xown P w K mg base x par fld C
  ini : ∃ (f : Addr) (fd : FuncData), FnOk P w K mg base L2.CX0 1 f fd ["self", par] (spInit C fld) ∧ PySem.W.findIn K (.ref C) "__init__" = some (some (.ref f)) ∧ PySem.W.typeIn K (.ref f) = some (.type "function") ∧ Binds K fd ["self", par] [] ∧
    ∀ (s : Shared) (u v : Value), K.In s.heap → BindsTo s fd ⟨[u], [(par, v)]⟩ ((["self", par] : List Str).zip [u, v])
def spInit0 (C : Addr) : Sp := fun vs H Q _ => ∃ a : Addr, vs = [.ref a] ∧ H a = some (exo a C none) ∧ Q .non H
structure XownN (P : Program) (w : World) (K : PySem.W.Frag) (mg : Str → Option Value) (base : Heap) (x : Str) (C : Addr) : Prop where
  g : mg x = some (.ref C)
  oex : OexC K C
  ini : ∃ (f : Addr) (fd : FuncData), FnOk P w K mg base L2.CX0 1 f fd ["self"] (spInit0 C) ∧ PySem.W.findIn K (.ref C) "__init__" = some (some (.ref f)) ∧ PySem.W.typeIn K (.ref f) = some (.type "function") ∧ Binds K fd ["self"] []
section
variable {P : Program} {w : World} {K : PySem.W.Frag} {mg : Str → Option Value} {base : Heap} {C f cc cda : Addr} {fd : FuncData} {qual : Str} {params : Arguments} {body : List Stmt} {scope : Scope}
theorem einv0 {A : Around} {outer : List Env} {s : Shared} {H : Hp} {u0 : Value} {v0 : V} {h0 : Heap} {tk : Nat} (T : EInit P K C f cc fd qual params body scope cda) (S : EScope ["self"] scope) (hd : A.handled = none) (e0 : Env0 P w K mg base A outer s H)
    (r0 : RelV v0 u0) (hns : h0.Ns s.heap.objs.size (fun x => ([("self", u0)] : List (Str × Value)).lookup x)) (k : ∀ b o, s.heap.get? b = some o → h0.get? b = some o) :
    Inv (ecx P w K mg base ["self"] qual scope f cda cc A outer s H) [] [some v0] H { s with heap := h0, toks := tk } := by
  obtain ⟨cl, cld, csl, hcell⟩ := T.cell
  have KXb : K.In base := e0.mod.kin
  have bcc := KXb _ _ hcell
  have one : ∀ x c, (ecx P w K mg base ["self"] qual scope f cda cc A outer s H).env.cells.lookup x = some c → x = "__class__" ∧ c = cc := fun x c h => by
    have h : ([("__class__", cc)] : List (Str × Addr)).lookup x = some c := h
    rw [List.lookup_cons] at h
    split at h
    · rename_i e
      exact ⟨by simpa using e, (Option.some.inj h).symm⟩
    · cases h
  have ok : (ecx P w K mg base ["self"] qual scope f cda cc A outer s H).Ok := by
    refine ⟨e0.mod, S.kind, rfl, rfl, Nat.le_refl _, fun y z c h1 h2 => ?_, fun y hy => ?_, fun y c hf => (nomatch hf), fun _ => hd, Around.frames_deeper e0.frames, .inr ⟨rfl, rfl⟩, fun b z => (by cases z), e0.bs, e0.bsz, fun b _ _ z => (by cases z), fun b z => (by cases z), e0.funs, e0.frf⟩
    · rw [(one y c h1).1, (one z c h2).1]
    · refine ⟨cc, ?_⟩
      have hy : scope.names.lookup y = some .cell ∨ scope.names.lookup y = some .free := hy
      rcases hy with hy | hy
      · exact absurd rfl (S.nocell _ (PySem.mem_of_lookup hy))
      · have e := S.free _ (PySem.mem_of_lookup hy) rfl
        have e : y = "__class__" := e
        subst e
        rfl
  have look : ∀ (i : Nat) (y : Str) (v : V), (["self"] : List Str)[i]? = some y → ([some v0] : List (Option V))[i]? = some (some v) → ∃ u, RelV v u ∧ Look (ecx P w K mg base ["self"] qual scope f cda cc A outer s H).env h0 (fun x => ([("self", u0)] : List (Str × Value)).lookup x) y u := by
    intro i y v h1 h2
    rcases i with _ | i
    · have e1 : ("self" : Str) = y := Option.some.inj h1
      have e2 : v0 = v := Option.some.inj (Option.some.inj h2)
      subst e1 e2
      refine ⟨u0, r0, .inl ⟨S.loc _ (List.mem_cons_self ..), ?_⟩⟩
      simp
    · cases h1
  exact ⟨ok, rfl, e0.bare, Un.kept k, ⟨_, hns, fun i y v h1 h2 _ => look i y v h1 h2⟩, fun y c h => by
      obtain ⟨_, rfl⟩ := one y c h
      exact ⟨_, _, k _ _ (e0.bs _ _ bcc).1, rfl⟩, e0.hok.fresh (Nat.le_refl _), fun y c h => by
      obtain ⟨_, rfl⟩ := one y c h
      exact (e0.bs _ _ bcc).2, fun p hp => (by cases hp), e0.hok.kept k, rfl⟩
theorem sup_init0 {A : Around} {outer : List Env} {s0 s : Shared} {H0 H : Hp} {a : Addr} {txt : Str} {k : Nat} {p0 p1 p2 p3 p4 pos : Pos} {rest : List Stmt} {Q : Flow → Shared → Prop}
    (T : EInit P K C f cc fd qual params body scope cda) (S : EScope ["self"] scope) {pl : Sem Bool} (he : eval (.Call (.Attribute (.Call (.Name "super" p0) [] [] p1) "__init__" p2) [.Constant (.str txt) k p3] [] p4) (PySem.W.ksEnv qual scope s0.heap.objs.size f (.ref cda) cc) = (do
      let ov ← attributeBase (.Call (.Name "super" p0) [] [] p1) "__init__" (PySem.W.ksEnv qual scope s0.heap.objs.size f (.ref cda) cc) (eval (.Call (.Name "super" p0) [] [] p1) (PySem.W.ksEnv qual scope s0.heap.objs.size f (.ref cda) cc))
      standAt p2.atName
      let (f', first) ← holding [ov] (getMethod ov "__init__" pl)
      callWith p4 f' first (backTo p4 (starEach [.Constant (.str txt) k p3] (PySem.W.ksEnv qual scope s0.heap.objs.size f (.ref cda) cc))) []))
    (hi : interactive (PySem.W.ksEnv qual scope s0.heap.objs.size f (.ref cda) cc) = false) (hpar : (params.posonlyargs ++ params.args).head?.map (·.arg) = some "self") (hsup : mg "super" = none)
    (I : Inv (ecx P w K mg base ["self"] qual scope f cda cc A outer s0 H0) [] [some (.ref a)] H s) (ha : H a = some (exo a C none))
    (h : ∀ s', Inv (ecx P w K mg base ["self"] qual scope f cda cc A outer s0 H0) [] [some (.ref a)] H s' → PySem.wpAt (model P w) (A.deeper (PySem.W.ksEnv qual scope s0.heap.objs.size f (.ref cda) cc)) (.func body (PySem.W.ksEnv qual scope s0.heap.objs.size f (.ref cda) cc)) (execs rest (PySem.W.ksEnv qual scope s0.heap.objs.size f (.ref cda) cc)) Q (fun _ _ => False) s') :
    PySem.wpAt (model P w) (A.deeper (PySem.W.ksEnv qual scope s0.heap.objs.size f (.ref cda) cc)) (.func body (PySem.W.ksEnv qual scope s0.heap.objs.size f (.ref cda) cc))
      (execs (.Expr (.Call (.Attribute (.Call (.Name "super" p0) [] [] p1) "__init__" p2) [.Constant (.str txt) k p3] [] p4) pos :: rest) (PySem.W.ksEnv qual scope s0.heap.objs.size f (.ref cda) cc)) Q (fun _ _ => False) s := by
  obtain ⟨oc, od, osl, kV, doc, pm, an, ct, lk, efd⟩ := T.fn
  obtain ⟨ccl, cdd, vs, ccs, file, tf, lcode, hvs, hfile⟩ := T.file
  obtain ⟨cl, cld, csl, lcell⟩ := T.cell
  obtain ⟨nm, q, N, bs, bm, sn, sub, ab, col, dd, k0, k1, k2, k3, k5, hC, hbm⟩ := T.oex.cls
  obtain ⟨ar, har, earg⟩ : ∃ ar, (params.posonlyargs ++ params.args).head? = some ar ∧ ar.arg = "self" := by
    cases e : (params.posonlyargs ++ params.args).head? with
    | none => rw [e] at hpar; cases hpar
    | some ar => rw [e] at hpar; exact ⟨ar, rfl, Option.some.inj hpar⟩
  have X : K.In s.heap := I.kIn
  have hcl : PySem.W.clsIn K C = some { name := nm, bases := bs, mro := .ref C :: bm, ns := N, qualname := q, hasDict := true, slotNames := sn, subclasses := sub, abstract := ab, collection := col, hasDel := false } := by unfold PySem.W.clsIn; rw [hC] <;> rfl
  obtain ⟨t1, ho⟩ := exo_at I.hok ha
  obtain ⟨m, hns, hloc⟩ := id I.loc
  have hm : m "self" = some (.ref a) := by
    obtain ⟨u, ru, l⟩ := hloc 0 "self" (.ref a) rfl rfl (.inl (S.loc _ (List.mem_cons_self ..)))
    obtain rfl : u = Value.ref a := ru
    rcases l with ⟨_, l⟩ | ⟨k, _⟩
    · exact l
    · have z : scope.names.lookup ("self" : Str) = some .local := S.loc _ (List.mem_cons_self ..)
      rcases k with k | k
      · have k : scope.names.lookup ("self" : Str) = some .cell := k
        rw [z] at k; cases k
      · have k : scope.names.lookup ("self" : Str) = some .free := k
        rw [z] at k; cases k
  obtain ⟨mb, hb1, hb2⟩ := I.mod.blt
  refine ks_wpAt_execs_cons (ks_wpAt_Expr_any (ks_wpAt_MethodCall (pl := pl) ?_ he) hi)
  refine ks_wpAt_super_base (env := PySem.W.ksEnv qual scope s0.heap.objs.size f (.ref cda) cc) S.sup S.cls (by decide) rfl (X _ _ lk) rfl har rfl (X _ _ lcode) rfl hvs hfile T.top ?_
  refine PySem.W.ks_loadName_global S.kind S.sup (Calls.loadGlobal_builtin (env := PySem.W.ksEnv qual scope s0.heap.objs.size f (.ref cda) cc) (I.mod.glob.keeps I.bk) hsup (hb1.keeps I.bk) ((hb2 "super" (by decide)).trans (show bootBuiltins "super" = some (.type "super") from by first | boot_by_name | rfl | kernel_rfl)) ⟨rfl, ?_⟩)
  refine wpAny_loadName_free S.kind S.cls rfl ⟨_, X _ _ lcell, rfl⟩ ?_
  rw [earg]
  refine wpAny_loadName_local S.kind (S.loc _ (List.mem_cons_self ..)) hns hm ?_
  obtain ⟨hh, g, d, tk, os⟩ := s
  refine ks_wpAny_isType_cls (X _ _ hC) rfl ⟨rfl, ?_⟩
  refine ks_wpAny_call_super (X _ _ hC) rfl ho rfl (fun c e => by cases e) (PySem.W.looks_mroIn X T.self) (fun h1 e1 kp1 => ?_)
  have X1 : K.In h1 := X.keeps kp1
  have I1 : PySem.W.InstAt h1 a { cls := .ref C, dict := none, data := .fields #[.ref t1, .none, .none, .none, .bool false, .none] } C none := ⟨kp1 _ _ ho, rfl, rfl, trivial⟩
  have hsup' := T.sup
  unfold PySem.W.ks_superIn at hsup'
  rw [hcl] at hsup'
  refine PySem.W.kxs_getMethod PySem.W.kxs_ValueError e1 (PySem.W.looks_opaque X1 T.any) (l₀ := .ref C :: bm) (fun A Q E s k q => wpAny_bind ((PySem.W.looks_clsIn X1 hcl) A _ E s k (wpAny_pure q))) rfl X1 hsup' (I1.type.andThen (PySem.W.looks_subIn X1 T.ve)) (PySem.W.ks_ne X1 I1 hcl) (by decide) ?_
  have kp2 : ∀ b o, hh.get? b = some o → (h1.push (PySem.W.kxs_mw "ValueError.__init__" a)).get? b = some o := fun b o e => Heap.get?_push_of_some _ (kp1 b o e)
  have I2 : Inv (ecx P w K mg base ["self"] qual scope f cda cc A outer s0 H0) [] [some (.ref a)] H ⟨h1.push (PySem.W.kxs_mw "ValueError.__init__" a), g, d, tk + 1, os⟩ := I.kept (t' := tk + 1) kp2
  have hu2 : (h1.push (PySem.W.kxs_mw "ValueError.__init__" a)).get? h1.objs.size = some (PySem.W.kxs_mw "ValueError.__init__" a) := Heap.get?_push_size _ rfl
  refine PySem.W.kxs_callWith (i := "ValueError.__init__") (x := a) rfl ?_
  refine Calls.evalArgs_plain ?_
  have lu : hh.objs.size ≤ h1.objs.size := by
    cases e : h1.get? hh.objs.size with
    | none => rw [e1] at e; cases e
    | some o => exact Nat.le_of_lt (Heap.lt_size e)
  have I3 : Inv (ecx P w K mg base ["self"] qual scope f cda cc A outer s0 H0) [(h1.objs.size, PySem.W.kxs_mw "ValueError.__init__" a)] [some (.ref a)] H ⟨h1.push (PySem.W.kxs_mw "ValueError.__init__" a), g, d, tk + 1, os⟩ :=
    I2.pins_of fun p hp => by
      rw [List.mem_singleton.mp hp]
      refine ⟨hu2, I.hok.fresh lu, Nat.ne_of_gt (Nat.lt_of_lt_of_le I.lt lu), I.nofs lu, fun v q => by cases q⟩
  refine wpAny_mono ((pa_cons (pe_str (X := ecx P w K mg base ["self"] qual scope f cda cc A outer s0 H0) (x := txt) (j := k) (pos := p3)) pa_nil).run p4 _ _ _ H (fun ys G => ys = [.str txt] ∧ G = H) I3 ⟨rfl, rfl⟩) (fun us s4 ⟨ys, H4, I4, r4, ey, eh⟩ => ?_) fun _ _ z => z
  subst ey eh
  obtain ⟨hu4, _⟩ := I4.pin _ (List.mem_append_right _ (List.mem_singleton.mpr rfl))
  refine ⟨hu4, ?_⟩
  obtain ⟨t4, ho4⟩ := exo_at I4.hok ha
  have hlen : us.length ≤ sizeLine := by
    rw [← Paired.length r4, sizeLine_eq]
    show 1 ≤ _
    omega
  have hC4 := I4.kIn _ _ hC
  obtain ⟨h4, g4, d4, tk4, os4⟩ := s4
  refine call_mw hC4 ho4 hu4 hlen fun h' t2 kk hx => ?_
  have J := I4.write (t' := tk4) (x := a) (e := a) (o := exo a C none) (by rw [ha]; exact True.intro) (.inl rfl) kk ⟨_, hx⟩ (exo_ok hx)
  have eu : upd H4 a (exo a C none) = H4 := by
    funext b
    by_cases hb : b = a
    · rw [hb, upd_same, ha]
    · rw [upd_ne hb]
  rw [eu] at J
  exact h _ (J.pins_of (pins' := []) fun p hp => by cases hp)
theorem init0_ok {txt : Str} {k : Nat} {p0 p1 p2 p3 p4 pos : Pos} {pl : Addr → Sem Bool}
    (T : EInit P K C f cc fd qual params [.Expr (.Call (.Attribute (.Call (.Name "super" p0) [] [] p1) "__init__" p2) [.Constant (.str txt) k p3] [] p4) pos] scope cda) (S : EScope ["self"] scope)
    (hsup : mg "super" = none)
    (hpar : (params.posonlyargs ++ params.args).head?.map (·.arg) = some "self")
    (he : ∀ L, eval (.Call (.Attribute (.Call (.Name "super" p0) [] [] p1) "__init__" p2) [.Constant (.str txt) k p3] [] p4) (PySem.W.ksEnv qual scope L f (.ref cda) cc) = (do
      let ov ← attributeBase (.Call (.Name "super" p0) [] [] p1) "__init__" (PySem.W.ksEnv qual scope L f (.ref cda) cc) (eval (.Call (.Name "super" p0) [] [] p1) (PySem.W.ksEnv qual scope L f (.ref cda) cc))
      standAt p2.atName
      let (f', first) ← holding [ov] (getMethod ov "__init__" (pl L))
      callWith p4 f' first (backTo p4 (starEach [.Constant (.str txt) k p3] (PySem.W.ksEnv qual scope L f (.ref cda) cc))) []))
    (hi : ∀ L, interactive (PySem.W.ksEnv qual scope L f (.ref cda) cc) = false) :
    FnOk P w K mg base L2.CX0 1 f fd ["self"] (spInit0 C) := by
  refine ⟨fun vs H Q E h => by obtain ⟨a, rfl, _⟩ := h; rfl, fun A outer s H args us vs Q E hr e0 hb r hsp => ?_⟩
  obtain ⟨a, rfl, ha, q⟩ := hsp
  obtain ⟨oc, od, osl, kV, doc, pm, an, ct, lk, efd⟩ := T.fn
  have KX : K.In s.heap := e0.mod.kin.keeps fun b o e => (e0.bs b o e).1
  have lim : s.heap.NoLimit := e0.mod.nolimit.keeps fun b o e => (e0.bs b o e).1
  subst efd
  cases r with
  | @cons _ u0 _ ur r0 rr =>
    cases rr
    refine ks_codeAny_call_defAt (binds := (["self"] : List Str).zip [u0]) hr.depth (KX _ _ lk) rfl lim (PySem.W.codeRec_of KX T.code) rfl hb S.nocell (fun y hy => S.loc _ (List.of_mem_zip (a := y.1) (b := y.2) hy).1) (fun h0 hns hk => ?_) S.co S.gen S.kind
    have I0 := einv0 (P := P) (w := w) (mg := mg) (tk := s.toks + ((["self"] : List Str).zip [u0]).length) T S hr.hd e0 r0 hns hk
    refine ks_wpAt_mono (Q := fun fl s' => SP (ecx P w K mg base ["self"] qual scope f cda cc A outer s H) [] { nx := fun _ H' => Q .non H', rt := Q } fl s') (E := fun _ _ => False)
      (sup_init0 T S (he _) (hi _) hpar hsup I0 ha fun s' I' => PySem.wpAt_of_wpAny (pss_nil.run [] s' _ H { nx := fun _ H' => Q .non H', rt := Q } I' q))
      (fun fl s' hs => ?_) fun _ _ z => z.elim
    cases fl with
    | next => obtain ⟨σ', H', J, z⟩ := hs; exact ⟨.non, H', J.os, J.bare, J.base, J.hok, rfl, z⟩
    | ret u => obtain ⟨vv, σ', H', J, rv, z⟩ := hs; exact ⟨vv, H', J.os, J.bare, J.base, J.hok, rv, z⟩
    | brk => obtain ⟨_, _, _, z⟩ := hs; exact False.elim z
    | cont => obtain ⟨_, _, _, z⟩ := hs; exact False.elim z
end
section
variable {P : Program} {w : World} {K : PySem.W.Frag} {mg : Str → Option Value} {base : Heap} {C f cc cda N : Addr} {x par fld qual txt nm q file : Str} {st : Stmt} {k : Nat} {p0 p1 p2 p3 p4 pos q1 q2 q3 q4 : Pos}
variable {bs bm sub : List Value} {sn : List Str} {ab : Bool} {col : Option Bool} {dd od an cdd cld : Option Addr} {m0 m1 m2 m3 m5 : Option Value} {oc kV doc pm ct ccl cl : Value} {osl ccs csl : Array (Option Value)} {vs : Array Value} {tf : Tok}
theorem own_ofW (S : EScope ["self", par] (defScope st))
    (hbody : defBody st = [.Expr (.Call (.Attribute (.Call (.Name "super" p0) [] [] p1) "__init__" p2) [.Constant (.str txt) k p3] [] p4) pos, .Assign [.Attribute (.Name "self" q1) fld q2] (.Name par q3) q4])
    (hpar : ((defArgs st).posonlyargs ++ (defArgs st).args).head?.map (·.arg) = some "self")
    (hbind : ∀ (kV doc pm : Value) (an : Option Addr) (cdv ct : Value) (cc : Addr) (us : List Value), us.length = 2 → bindArgs (PySem.W.ksFn "__init__" qual (defArgs st) (defBody st) (defScope st) .none kV doc pm an cdv ct cc) ⟨us, []⟩ = pure ((["self", par] : List Str).zip us))
    (hbk : ∀ (kV doc pm : Value) (an : Option Addr) (cdv ct : Value) (cc : Addr) (u v : Value), bindArgs (PySem.W.ksFn "__init__" qual (defArgs st) (defBody st) (defScope st) .none kV doc pm an cdv ct cc) ⟨[u], [(par, v)]⟩ = pure ((["self", par] : List Str).zip [u, v]))
    {pl : Addr → Sem Bool}
    (he : ∀ L, eval (.Call (.Attribute (.Call (.Name "super" p0) [] [] p1) "__init__" p2) [.Constant (.str txt) k p3] [] p4) (PySem.W.ksEnv qual (defScope st) L f (.ref cda) cc) = (do
      let ov ← attributeBase (.Call (.Name "super" p0) [] [] p1) "__init__" (PySem.W.ksEnv qual (defScope st) L f (.ref cda) cc) (eval (.Call (.Name "super" p0) [] [] p1) (PySem.W.ksEnv qual (defScope st) L f (.ref cda) cc))
      standAt p2.atName
      let (f', first) ← holding [ov] (getMethod ov "__init__" (pl L))
      callWith p4 f' first (backTo p4 (starEach [.Constant (.str txt) k p3] (PySem.W.ksEnv qual (defScope st) L f (.ref cda) cc))) []))
    (hsw : ∀ L, swapsWith (.Name par q3) (some (.Attribute (.Name "self" q1) fld q2)) q4.line (PySem.W.ksEnv qual (defScope st) L f (.ref cda) cc) = pure false)
    (hp : (("self" : Str) == par) = false) (hd1 : (par == ("__debug__" : Str)) = false) (hd2 : (par == ("__classdict__" : Str)) = false)
    (g : mg x = some (.ref C)) (hsup : mg "super" = none)
    (xl : K.lookup C = some (excClassObj nm q C N bs bm true sn sub ab col dd m0 m1 m2 m3 m5 "ValueError.__new__")) (hbm : PySem.HandSPX.refsVE bm = true)
    (sa : PySem.W.findIn K (.ref C) "__setattr__" = some (some (.builtin "object.__setattr__"))) (ga : PySem.W.findIn K (.ref C) "__getattribute__" = some (some (.builtin "BaseException.__getattribute__"))) (gg : PySem.W.findIn K (.ref C) "__getattr__" = some none) (no : PySem.W.findIn K (.ref C) fld = some none)
    (iC : PySem.W.findIn K (.ref C) "__init__" = some (some (.ref f))) (tI : PySem.W.typeIn K (.ref f) = some (.type "function"))
    (xli : K.lookup f = some ⟨oc, od, .func (PySem.W.ksFn "__init__" qual (defArgs st) (defBody st) (defScope st) .none kV doc pm an (.ref cda) ct cc), osl⟩) (co : PySem.W.codeIn K (.ref cda) qual = true)
    (xcx : K.lookup cda = some ⟨ccl, cdd, .fields vs, ccs⟩) (xvx : vs[2]? = some (.str file tf)) (xfi : ((P.main.file : Str) == file) = true) (xto : (P.main.scope.names.lookup ("super" : Str)).isSome = false)
    (xce : K.lookup cc = some ⟨cl, cld, .cell (some (.ref C)), csl⟩) (xsu : PySem.W.ks_superIn K C C "__init__" = some (some (.builtin "ValueError.__init__"))) (xse : PySem.W.mroIn K C (.ref C) = some true) (xve : PySem.W.subIn K (.ref C) (.type "ValueError") = some true)
    (xan : PySem.W.nsIn K cStatics "thirdparty.any" = some none) (xkf : PySem.W.keepIn K (.ref f) = true) (xkC : PySem.W.keepIn K (.ref C) = true) (xeC : PySem.W.subIn K (.ref C) (.type "BaseException") = some true) (xtC : PySem.W.typeIn K (.ref C) = some (.type "type")) (xhC : PySem.W.hasDictIn K C = true)
    (xic : PySem.W.isClsIn K C = true) (xsC : PySem.W.subIn K (.ref C) (.ref C) = some true) : XownW P w K mg base x par fld C := by
  have oex : OexC K C := ⟨⟨nm, q, N, bs, bm, sn, sub, ab, col, dd, m0, m1, m2, m3, m5, xl, hbm⟩, sa, xeC, xtC, xkC⟩
  have T : EInit P K C f cc (PySem.W.ksFn "__init__" qual (defArgs st) (defBody st) (defScope st) .none kV doc pm an (.ref cda) ct cc) qual (defArgs st) (defBody st) (defScope st) cda :=
    ⟨oex, ⟨oc, od, osl, kV, doc, pm, an, ct, xli, rfl⟩, co, ⟨ccl, cdd, vs, ccs, file, tf, xcx, xvx, xfi⟩, xto, ⟨cl, cld, csl, xce⟩, xsu, xse, xve, xan, iC, tI, xkf⟩
  have FI : FnOk P w K mg base L2.CX0 1 f (PySem.W.ksFn "__init__" qual (defArgs st) (defBody st) (defScope st) .none kV doc pm an (.ref cda) ct cc) ["self", par] (spInit C fld) := by
   rw [hbody] at T
   rw [hbody]
   exact init_ok (w := w) (mg := mg) (base := base) T S hp no hd1 hd2 hsup hpar he (fun L => by
    have e : (PySem.W.ksEnv qual (defScope st) L f (.ref cda) cc).scope.kind = .function := S.kind
    unfold interactive
    rw [e]
    rfl) hsw
  have B : Binds K (PySem.W.ksFn "__init__" qual (defArgs st) (defBody st) (defScope st) .none kV doc pm an (.ref cda) ct cc) ["self", par] [] := .all fun us hl => hbind kV doc pm an (.ref cda) ct cc us hl
  exact ⟨⟨g, oex, ⟨f, _, FI, iC, tI, B⟩, no, exm_same xeC xic xtC xsC, ⟨ga, gg, xeC, xhC⟩⟩, ⟨f, _, FI, iC, tI, B, fun s u v _ => BindsTo.of_eq (hbk kV doc pm an (.ref cda) ct cc u v)⟩⟩
end
section
variable {P : Program} {w : World} {K : PySem.W.Frag} {mg : Str → Option Value} {base : Heap} {C f cc cda N : Addr} {x par fld qual txt nm q file : Str} {st : Stmt} {k : Nat} {p0 p1 p2 p3 p4 pos q1 q2 q3 q4 : Pos}
variable {bs bm sub : List Value} {sn : List Str} {ab : Bool} {col : Option Bool} {dd od an cdd cld : Option Addr} {m0 m1 m2 m3 m5 : Option Value} {oc kV doc pm ct ccl cl : Value} {osl ccs csl : Array (Option Value)} {vs : Array Value} {tf : Tok}
theorem own0_of (S : EScope ["self"] (defScope st))
    (hbody : defBody st = [.Expr (.Call (.Attribute (.Call (.Name "super" p0) [] [] p1) "__init__" p2) [.Constant (.str txt) k p3] [] p4) pos])
    (hpar : ((defArgs st).posonlyargs ++ (defArgs st).args).head?.map (·.arg) = some "self")
    (hbind : ∀ (kV doc pm : Value) (an : Option Addr) (cdv ct : Value) (cc : Addr) (us : List Value), us.length = 1 → bindArgs (PySem.W.ksFn "__init__" qual (defArgs st) (defBody st) (defScope st) .none kV doc pm an cdv ct cc) ⟨us, []⟩ = pure ((["self"] : List Str).zip us))
    {pl : Addr → Sem Bool}
    (he : ∀ L, eval (.Call (.Attribute (.Call (.Name "super" p0) [] [] p1) "__init__" p2) [.Constant (.str txt) k p3] [] p4) (PySem.W.ksEnv qual (defScope st) L f (.ref cda) cc) = (do
      let ov ← attributeBase (.Call (.Name "super" p0) [] [] p1) "__init__" (PySem.W.ksEnv qual (defScope st) L f (.ref cda) cc) (eval (.Call (.Name "super" p0) [] [] p1) (PySem.W.ksEnv qual (defScope st) L f (.ref cda) cc))
      standAt p2.atName
      let (f', first) ← holding [ov] (getMethod ov "__init__" (pl L))
      callWith p4 f' first (backTo p4 (starEach [.Constant (.str txt) k p3] (PySem.W.ksEnv qual (defScope st) L f (.ref cda) cc))) []))
    (g : mg x = some (.ref C)) (hsup : mg "super" = none)
    (xl : K.lookup C = some (excClassObj nm q C N bs bm true sn sub ab col dd m0 m1 m2 m3 m5 "ValueError.__new__")) (hbm : PySem.HandSPX.refsVE bm = true)
    (sa : PySem.W.findIn K (.ref C) "__setattr__" = some (some (.builtin "object.__setattr__"))) (ga : PySem.W.findIn K (.ref C) "__getattribute__" = some (some (.builtin "BaseException.__getattribute__"))) (gg : PySem.W.findIn K (.ref C) "__getattr__" = some none)
    (iC : PySem.W.findIn K (.ref C) "__init__" = some (some (.ref f))) (tI : PySem.W.typeIn K (.ref f) = some (.type "function"))
    (xli : K.lookup f = some ⟨oc, od, .func (PySem.W.ksFn "__init__" qual (defArgs st) (defBody st) (defScope st) .none kV doc pm an (.ref cda) ct cc), osl⟩) (co : PySem.W.codeIn K (.ref cda) qual = true)
    (xcx : K.lookup cda = some ⟨ccl, cdd, .fields vs, ccs⟩) (xvx : vs[2]? = some (.str file tf)) (xfi : ((P.main.file : Str) == file) = true) (xto : (P.main.scope.names.lookup ("super" : Str)).isSome = false)
    (xce : K.lookup cc = some ⟨cl, cld, .cell (some (.ref C)), csl⟩) (xsu : PySem.W.ks_superIn K C C "__init__" = some (some (.builtin "ValueError.__init__"))) (xse : PySem.W.mroIn K C (.ref C) = some true) (xve : PySem.W.subIn K (.ref C) (.type "ValueError") = some true)
    (xan : PySem.W.nsIn K cStatics "thirdparty.any" = some none) (xkf : PySem.W.keepIn K (.ref f) = true) (xkC : PySem.W.keepIn K (.ref C) = true) (xeC : PySem.W.subIn K (.ref C) (.type "BaseException") = some true) (xtC : PySem.W.typeIn K (.ref C) = some (.type "type")) (xhC : PySem.W.hasDictIn K C = true)
    (xic : PySem.W.isClsIn K C = true) (xsC : PySem.W.subIn K (.ref C) (.ref C) = some true) : XownN P w K mg base x C := by
  have oex : OexC K C := ⟨⟨nm, q, N, bs, bm, sn, sub, ab, col, dd, m0, m1, m2, m3, m5, xl, hbm⟩, sa, xeC, xtC, xkC⟩
  have T : EInit P K C f cc (PySem.W.ksFn "__init__" qual (defArgs st) (defBody st) (defScope st) .none kV doc pm an (.ref cda) ct cc) qual (defArgs st) (defBody st) (defScope st) cda :=
    ⟨oex, ⟨oc, od, osl, kV, doc, pm, an, ct, xli, rfl⟩, co, ⟨ccl, cdd, vs, ccs, file, tf, xcx, xvx, xfi⟩, xto, ⟨cl, cld, csl, xce⟩, xsu, xse, xve, xan, iC, tI, xkf⟩
  refine ⟨g, oex, ⟨f, _, ?_, iC, tI, .all fun us hl => hbind kV doc pm an (.ref cda) ct cc us hl⟩⟩
  rw [hbody] at T
  rw [hbody]
  exact init0_ok (w := w) (mg := mg) (base := base) T S hsup hpar he (fun L => by
    have e : (PySem.W.ksEnv qual (defScope st) L f (.ref cda) cc).scope.kind = .function := S.kind
    unfold interactive
    rw [e]
    rfl)
end
end Gk
namespace Gk
open PySem PySem.Spec PyProof.Rows L2
section
variable {X : Cx} {x par fld : Str} {C : Addr} {j : Nat} {e : Expr} {te : TE} {p pos kp : Pos}
/-- X(par=e) -/
theorem pe_newK (T : XownW X.prog X.w X.K X.mg X.base x par fld C) (hr : Room j X.A) (hk : 2 ≤ j) (hg : Gl X x) (he : PE X e te) (hdb : (x == ("__debug__" : Str)) = false := by decide)
    (hall : (backToKw pos (keywordEach [⟨some par, e, kp⟩] X.env)).all (·.1.isSome) = true := by rfl) (hks : (backToKw pos (keywordEach [⟨some par, e, kp⟩] X.env)).filterMap (·.1) = [par] := by rfl)
    (hpl : ((backTo pos (starEach [] X.env)).any (·.1) || (backToKw pos (keywordEach [⟨some par, e, kp⟩] X.env)).any (·.1.isNone)) = false := by rfl) : PE X (.Call (.Name x p) [] [⟨some par, e, kp⟩] pos) (tNewX C fld te) := by
  obtain ⟨f, fd, F, i1, i2, _, b⟩ := T.ini
  refine ⟨fun pins s σ H Q I h => ?_⟩
  refine wpAny_Call_Name_kw (ld_glob I hg T.X.g ?_ hdb)
  have ha : PK X [⟨some par, e, kp⟩] (tCons (tMid te) tNil) := pk_cons (pe_mid he) pk_nil
  refine PySem.W.callWith_KW0 (h₀ := X.base) I.ok.mod.kin T.X.oex.kC hall (thn (ha.run pos pins s σ H (fun vs H1 => ∃ v, vs = [v] ∧ ∀ a H2, Same H1 H2 → H1 a = none → Xv H2 a C fld v → Q (.ref a) H2) I ?_) fun us s1 ⟨vs, H1, I1, r1, v, ev, q1⟩ => ⟨I1.kIn, ?_⟩) hpl
  · exact ⟨_, h, fun v H1 q => ⟨v, rfl, q⟩⟩
  subst ev
  rw [hks]
  obtain ⟨u, rfl, ru⟩ : ∃ u, us = [u] ∧ RelV v u := by
    cases r1 with
    | cons r q => cases q; exact ⟨_, rfl, r⟩
  refine run_oexW (us := []) (ws := [u]) (kw := [(par, u)]) T.X.oex i1 i2 F (hr.mono hk) (fun _ _ _ _ _ _ _ h => h.elim) I1 (.cons ru .nil) ?_ (fun s a X0 => b s (.ref a) u X0) fun a na => spInit_xv na fun H2 s2 x2 => q1 a H2 s2 na x2
  rw [sizeLine_eq]
  show 0 ≤ _
  omega
/-- X() -/
def tNew0 (C : Addr) : TE := fun _ H Q => ∀ a H2, Same H H2 → H a = none → Xi H2 a C → Q (.ref a) H2
theorem pe_new0 (T : XownN X.prog X.w X.K X.mg X.base x C) (hr : Room j X.A) (hk : 2 ≤ j) (hg : Gl X x) (hdb : (x == ("__debug__" : Str)) = false := by decide) : PE X (.Call (.Name x p) [] [] pos) (tNew0 C) := by
  obtain ⟨f, fd, F, i1, i2, b⟩ := T.ini
  refine ⟨fun pins s σ H Q I h => ?_⟩
  refine wpAny_Call_Name_kw (ld_glob I hg T.g ?_ hdb)
  refine PySem.W.callWith_K0 I.kIn T.oex.kC ?_
  show wpAny _ _ (call (.ref C) []) _ _ _
  refine run_oexW (us := []) (ws := []) (kw := []) (vs := []) T.oex i1 i2 F (hr.mono hk) (fun _ _ _ _ _ _ _ h => h.elim) I .nil (by rw [sizeLine_eq]; show 0 ≤ _; omega) (fun s a X0 => ?_) fun a na => ⟨a, rfl, upd_same, rfl, ?_⟩
  · have := b s [.ref a] X0 (by rw [List.append_nil]; rfl)
    rw [List.append_nil] at this
    exact this
  · exact h a _ (same_new na) na (.inl upd_same)
/-- X(), no __init__ of its own -/
theorem pe_newB {bmB : List Value} {B newId initId : String} (F : ExcBaseFacts B newId initId bmB) (q : PySem.W.excIn X.K C bmB newId = true) (gC : X.mg x = some (.ref C)) (kC : PySem.W.keepIn X.K (.ref C) = true) (hg : Gl X x) (hdb : (x == ("__debug__" : Str)) = false := by decide) :
    PE X (.Call (.Name x p) [] [] pos) (tNew0 C) := by
  refine ⟨fun pins s σ H Q I h => ?_⟩
  refine wpAny_Call_Name_kw (ld_glob I hg gC ?_ hdb)
  refine PySem.W.callWith_K0 I.kIn kC ?_
  show wpAny _ _ (call (.ref C) []) _ _ _
  obtain ⟨bm, N, nm, qn, bs, hdct, sn, sub, ab, col, dd, k0, k1, k2, k3, k5, mN, hC, hN, hni, T⟩ := exc_obj I.kIn q
  refine wpAny_call_exc_subT F T hC hN hni (fun h' a hm => ?_) (by show 0 ≤ sizeLine; rw [sizeLine_eq]; omega)
  have hn : H a = none := I.hok.gone hm.new
  obtain ⟨t, ht, _, _⟩ := hm.there
  exact ⟨.ref a, upd H a (exo a C none), I.laidN hm.keeps hm.new hn (exo_ok ht), rfl, h a _ (same_new hn) hn (.inl upd_same)⟩
end
section
variable {X : Cx} {pins : List (Addr × Obj)} {σ : L2.St} {H : Hp} {s : Shared}
theorem xd_at {a D d : Addr} {fs : List (Str × V)} (I : Inv X pins σ H s) (h1 : H a = some (exo a D (some d))) (h2 : H d = some (exd d fs)) : ∃ (oe od : Obj), PySem.W.InstAt s.heap a oe D (some od) ∧ ∀ (n : Str) (v : V), fs.lookup n = some v → ∃ u, PySem.W.lookIn n od = some (some u) ∧ RelV v u := by
  obtain ⟨t1, e⟩ := exo_at I.hok h1
  obtain ⟨m, ns, rel⟩ := exd_at I.hok h2
  obtain ⟨od, eo, lo⟩ := lookIn_ns ns
  refine ⟨_, od, ⟨e, rfl, rfl, eo⟩, fun n x hx => ?_⟩
  have g := rel n
  rw [hx] at g
  obtain ⟨u, hu, ru⟩ := RelO.some_of g
  exact ⟨u, by rw [lo, hu], ru⟩
theorem xi_at {a D : Addr} (I : Inv X pins σ H s) (k : Xi H a D) : ∃ (oe : Obj) (od : Option Obj), PySem.W.InstAt s.heap a oe D od := by
  rcases k with k | ⟨d, fs, k, k2⟩
  · obtain ⟨t1, e⟩ := exo_at I.hok k
    exact ⟨_, none, ⟨e, rfl, rfl, trivial⟩⟩
  · obtain ⟨oe, od, J, _⟩ := xd_at I k k2
    exact ⟨oe, _, J⟩
end
/-- isinstance(e, c) -/
def rIsX (K : PySem.W.Frag) : List V → Hp → VK → Prop := fun xs H Q => ∃ (a D : Addr) (c : V) (cv : Value) (b : Bool), xs = [.ref a, c] ∧ Xi H a D ∧ ExcC K D ∧ (∀ u, RelV c u → u = cv) ∧ PySem.W.kitOne K (.ref D) cv = some b ∧ Q (.bl b) H
theorem call_isX {X : Cx} : CallR X (.builtin "isinstance") (rIsX X.K) := by
  intro pins s σ H xs us Q I r h
  obtain ⟨a, D, c, cv, b, rfl, k, C, hcv, e, q⟩ := h
  rcases r with _ | ⟨ra, _ | ⟨rc, _ | _⟩⟩
  obtain ⟨oe, od, J⟩ := xi_at I k
  obtain ⟨cd, hcl, _⟩ := PySem.W.any_some C.hd
  cases ra
  obtain rfl := hcv _ rc
  exact PySem.W.kia_one (PySem.W.kitx_exc (by rw [hcl]; rfl) C.hg C.hk C.hs C.ha C.hn C.ht C.hm) I.kIn J e (fun z => nomatch z) fun tk => ⟨.bl b, H, I.kept (t' := tk) fun _ _ z => z, rfl, q⟩
/-- e.n -/
def tXv (K : PySem.W.Frag) (n : Str) (te : TE) : TE := fun σ H Q => te σ H fun x H1 => ∃ (a D : Addr) (v : V), x = .ref a ∧ Xv H1 a D n v ∧ XfC K D ∧ PySem.W.findIn K (.ref D) n = some none ∧ Q v H1
theorem pe_xv {X : Cx} {e : Expr} {te : TE} {pos : Pos} {n : Str} (he : PE X e te) (hb : attributeBase e n X.env (eval e X.env) = eval e X.env := by rfl) : PE X (.Attribute e n pos) (tXv X.K n te) := by
  refine ⟨fun pins s σ H Q I h => attr_of hb (thn (he.run pins s σ H _ I h) fun u s1 ⟨x, H1, I1, rx, a, D, v, ex, ⟨d, k1, k2⟩, T, no, q⟩ => ?_)⟩
  subst ex
  cases rx
  obtain ⟨oe, od, J, own⟩ := xd_at I1 k1 k2
  obtain ⟨y, hy, ry⟩ := own n v (by simp)
  exact HandSPX.exc_get I1.kIn J T.ga T.gg T.exC (PySem.W.findObj_own T.hdC no rfl hy) (handed_of ry) ⟨v, H1, I1.tok _, ry, q⟩
end Gk
namespace Pf
open PySem PySem.Spec PyProof.Rows L2 Gk
abbrev sNoBranch : Stmt := inClass (topS 2) 0
theorem scNoBranch : EScope ["self", "value"] (defScope sNoBranch) := ⟨rfl, rfl, rfl, by decide +kernel, by decide +kernel, by decide +kernel, rfl, rfl⟩
abbrev sTooShort : Stmt := inClass (topS 3) 0
theorem scTooShort : EScope ["self", "reach"] (defScope sTooShort) := ⟨rfl, rfl, rfl, by decide +kernel, by decide +kernel, by decide +kernel, rfl, rfl⟩
abbrev sTooLong : Stmt := inClass (topS 4) 0
theorem scTooLong : EScope ["self", "limit"] (defScope sTooLong) := ⟨rfl, rfl, rfl, by decide +kernel, by decide +kernel, by decide +kernel, rfl, rfl⟩
abbrev sTooManyBranches : Stmt := inClass (topS 5) 0
theorem scTooManyBranches : EScope ["self", "limit"] (defScope sTooManyBranches) := ⟨rfl, rfl, rfl, by decide +kernel, by decide +kernel, by decide +kernel, rfl, rfl⟩
abbrev sBadScheme : Stmt := inClass (topS 6) 0
theorem scBadScheme : EScope ["self", "value"] (defScope sBadScheme) := ⟨rfl, rfl, rfl, by decide +kernel, by decide +kernel, by decide +kernel, rfl, rfl⟩
abbrev sBadCounter : Stmt := inClass (topS 7) 0
theorem scBadCounter : EScope ["self", "value"] (defScope sBadCounter) := ⟨rfl, rfl, rfl, by decide +kernel, by decide +kernel, by decide +kernel, rfl, rfl⟩
abbrev sBadBranch : Stmt := inClass (topS 8) 0
theorem scBadBranch : EScope ["self", "value"] (defScope sBadBranch) := ⟨rfl, rfl, rfl, by decide +kernel, by decide +kernel, by decide +kernel, rfl, rfl⟩
abbrev sBadOutcome : Stmt := inClass (topS 9) 0
theorem scBadOutcome : EScope ["self", "value"] (defScope sBadOutcome) := ⟨rfl, rfl, rfl, by decide +kernel, by decide +kernel, by decide +kernel, rfl, rfl⟩
abbrev sNoCell : Stmt := inClass (topS 11) 0
theorem scNoCell : EScope ["self", "value"] (defScope sNoCell) := ⟨rfl, rfl, rfl, by decide +kernel, by decide +kernel, by decide +kernel, rfl, rfl⟩
abbrev sBadText : Stmt := inClass (topS 13) 0
theorem scBadText : EScope ["self", "text"] (defScope sBadText) := ⟨rfl, rfl, rfl, by decide +kernel, by decide +kernel, by decide +kernel, rfl, rfl⟩
abbrev sBadLine : Stmt := inClass (topS 14) 0
theorem scBadLine : EScope ["self", "line"] (defScope sBadLine) := ⟨rfl, rfl, rfl, by decide +kernel, by decide +kernel, by decide +kernel, rfl, rfl⟩
abbrev sNothingToUndo : Stmt := inClass (topS 10) 0
theorem scNothingToUndo : EScope ["self"] (defScope sNothingToUndo) := ⟨rfl, rfl, rfl, by decide +kernel, by decide +kernel, by decide +kernel, rfl, rfl⟩
abbrev sNoPredictor : Stmt := inClass (topS 12) 0
theorem scNoPredictor : EScope ["self"] (defScope sNoPredictor) := ⟨rfl, rfl, rfl, by decide +kernel, by decide +kernel, by decide +kernel, rfl, rfl⟩
abbrev sNoTrace : Stmt := inClass (topS 15) 0
theorem scNoTrace : EScope ["self"] (defScope sNoTrace) := ⟨rfl, rfl, rfl, by decide +kernel, by decide +kernel, by decide +kernel, rfl, rfl⟩
end Pf
namespace Gk
open PySem PySem.Spec PyProof.Rows L2 PySem.Builtin.Str
/-! ### enumerate of a tuple -/
theorem enum_newT (l : Addr) (its : Array Value) :
    Meets (Builtin.«enumerate.__new__» ⟨[.type "enumerate", .ref l], []⟩) (fun _ R s => Heap.IsTuple s.heap l its ∧
      R (.ok (.ret (.ref (s.heap.push { cls := .type "tuple_iterator", data := .fields #[.ref l, .int 0 0] }).objs.size)))
        { s with heap := (s.heap.push { cls := .type "tuple_iterator", data := .fields #[.ref l, .int 0 0] }).push { cls := .type "enumerate", data := .fields #[.none, .bool false, .ref s.heap.objs.size, rawInt 0, .none, .none] } }) :=
  .of_wp fun prog w A R s h => by
    obtain ⟨hp, g, d, tk, os⟩ := s
    obtain ⟨hL, h⟩ := h
    have hsub := sub_enumerate
    obtain ⟨⟨oc, od, dt, sl⟩, hl, hcl, n, hdt⟩ := id hL
    replace hcl : oc = .type "tuple" := hcl
    replace hdt : dt = .seq its n := hdt
    subst hcl hdt
    wp_walk using wpAny_loadPart' hl
    refine wpAny_stack_any fun st => wpAny_pure ?_
    split
    · rename_i c _ _ _ _ _
      cases (c == Value.type "enumerate") <;>
      · wp_walk using wpAny_loadPart' hl, wpAny_pyIter_tuple hL
        exact ⟨_, rfl, h⟩
    · wp_walk using wpAny_loadPart' hl, wpAny_pyIter_tuple hL
      exact ⟨_, rfl, h⟩
section
variable {prog : Program} {w : World} {A : Around} {E : Value → Shared → Prop} {s : Shared}
theorem enumT {l : Addr} {its : Array Value} {Q : Value → Shared → Prop} (hL : s.heap.IsTuple l its)
    (h : ∀ h', IsEnum h' (s.heap.objs.size + 1) s.heap.objs.size 0 .none → h'.IsTupleIter s.heap.objs.size l 0 → (∀ b o, s.heap.get? b = some o → h'.get? b = some o) → Q (.ref (s.heap.objs.size + 1)) { s with heap := h' }) :
    wpAny (model prog w) A (call (.type "enumerate") [.ref l]) Q E s := by
  refine callType_new F.called_enumerate (by decide) (F.typeCall_enumerate_1 _) (F.newCall_enumerate_1 _) (fun obj => F.args_object_init_2 obj _) F.entry_enumerate_new (enum_newT l its) ⟨hL, ?_⟩
  have hz : (s.heap.push { cls := .type "tuple_iterator", data := .fields #[.ref l, .int 0 0] }).objs.size = s.heap.objs.size + 1 := Heap.size_push ..
  show _ ∧ _
  rw [hz]
  have he : IsEnum ((s.heap.push { cls := .type "tuple_iterator", data := .fields #[.ref l, .int 0 0] }).push { cls := .type "enumerate", data := .fields #[.none, .bool false, .ref s.heap.objs.size, rawInt 0, .none, .none] }) (s.heap.objs.size + 1) s.heap.objs.size 0 .none := by
    have g := Heap.get?_push_size (s.heap.push { cls := .type "tuple_iterator", data := .fields #[.ref l, .int 0 0] }) (o := { cls := .type "enumerate", data := .fields #[.none, .bool false, .ref s.heap.objs.size, rawInt 0, .none, .none] }) rfl
    rw [hz] at g
    exact g
  exact ⟨⟨_, he, rfl⟩, h _ he ⟨_, Heap.get?_push_of_some _ (Heap.get?_push_size _ rfl), rfl, rfl⟩ fun b o x => Heap.get?_push_of_some _ (Heap.get?_push_of_some _ x)⟩
end
def Ient (K : PySem.W.Frag) (a : Addr) (N : Nat) : It := ⟨fun i H => i < N ∧ ∃ xs : List V, SqT K H a xs ∧ xs.length = N,
  fun i H v H' => ∃ T x, v = .ref T ∧ H T = none ∧ (∀ xs, SqT K H a xs → xs[i]? = some x) ∧ H' = upd H T (.tup [.int (i : Nat), x]), fun i H => N ≤ i ∧ ∃ xs : List V, SqT K H a xs ∧ xs.length = N⟩
theorem turn_ent {P : Program} {w : World} {K : PySem.W.Frag} {elts : List Expr} {kk : Nat} {tpos : Pos} (e it a : Addr) (N : Nat) :
    Turn P w K (.Tuple elts kk tpos) (Ient K a N) [e, it] e (fun i h => ((∃ old, IsEnum h e it i old) ∧ h.IsTupleIter it a i) ∧ e ≠ it ∧ i ≤ N) where
  mem := List.mem_cons_self
  obj := fun i h st b hb => by
    obtain ⟨⟨⟨old, he⟩, ⟨o, ho, hc, hd⟩⟩, _⟩ := st
    rcases List.mem_cons.mp hb with rfl | hb
    · exact ⟨_, he, fun v g => nomatch g⟩
    · rw [List.mem_singleton.mp hb]
      exact ⟨o, ho, fun v g => by rw [hd] at g; cases g⟩
  keep := fun i h h' st k => by
    obtain ⟨⟨⟨old, he⟩, ⟨o, ho, hc, hd⟩⟩, hne⟩ := st
    exact ⟨⟨⟨old, k e List.mem_cons_self _ he⟩, o, k it (List.mem_cons_of_mem _ List.mem_cons_self) o ho, hc, hd⟩, hne⟩
  item := by
    intro X hP hw hK hc i pins s σ H E I hf st hg
    subst hP hw hK
    obtain ⟨hlt, xs, hq, hN⟩ := hg
    obtain ⟨st, hne, hi⟩ := st
    obtain ⟨its, rv, tup, hz⟩ := I.tuple hq
    have hlen : its.toArray.size = N := by rw [List.size_toArray, ← hN]; exact rv.length.symm
    have nat : a ≠ it := fun z => by
      obtain ⟨o1, g1, c1, _⟩ := tup
      obtain ⟨_, o2, g2, c2, _⟩ := st
      rw [z, g2] at g1
      cases g1
      rw [c2] at c1
      exact absurd c1 (by decide)
    have D : Draws X.prog X.w X.A.in1 it [it, a] its.toArray.size _ _ := Draws.tuple (show X.A.in1.handled = none from I.ok.hd hc) it a nat its.toArray
    have nea : e ≠ a := fun z => by
      obtain ⟨o1, g1, c1, _⟩ := tup
      obtain ⟨⟨old, g2⟩, _⟩ := st
      rw [z] at g2
      rw [g2] at g1
      cases g1
      exact absurd (show Value.type "enumerate" = Value.type "tuple" from c1) (by decide)
    have W := WalksT.enumerateD D e hne (fun q => (List.mem_cons.mp q).elim hne fun q => nea (List.mem_singleton.mp q)) List.mem_cons_self
    have hel : e < s.heap.objs.size := by obtain ⟨⟨old, he⟩, _⟩ := st; exact Heap.lt_size he
    have hil : it < s.heap.objs.size := by obtain ⟨_, o, ho, _⟩ := st; exact Heap.lt_size ho
    refine W.item i s _ _ (by rw [hlen]; exact hlt) ⟨st.1, st.2, tup⟩ fun T vals h' tk hp hT isT mid hk => ?_
    obtain ⟨t1, x1, hx1, rfl⟩ := hp
    have nT := W.apart i T h' mid
    obtain ⟨y, hy⟩ : ∃ y, xs[i]? = some y := ⟨xs[i]'(by omega), List.getElem?_eq_getElem (by omega)⟩
    obtain ⟨u, hu, ru⟩ := rv.get hy
    have hx1 : its.toArray[i]? = some x1 := hx1
    rw [List.getElem?_toArray, hu] at hx1
    obtain rfl := Option.some.inj hx1
    refine ⟨_, rfl, W.go elts kk tpos i T { s with heap := h', toks := tk } _ _ mid fun h2 st2 hk2 => ?_⟩
    obtain ⟨oT, gT, cT, nTT, dT⟩ := isT
    have gT2 := hk2 T oT nT gT
    have new : ObjOk X.prog X.w (upd H T (.tup [.int (i : Nat), y])) h2 T (.tup [.int (i : Nat), y]) :=
      ⟨by show 2 ≤ sizeLine; decide, [.int i t1, u], .cons ⟨_, rfl⟩ (.cons ru .nil), ⟨oT, gT2, cT, nTT, dT⟩⟩
    have I1 : Inv X pins σ (upd H T (.tup [.int (i : Nat), y])) { s with heap := h2, toks := tk } :=
      I.turnedNew (ch := [e, it]) (fun b ob hb g => hk2 b ob hb (hk b ob hb g)) hf hT new
    refine ⟨.ref T, _, I1, rfl, ⟨T, y, rfl, I.hok.fresh hT, fun ys hys => ?_, rfl⟩, ⟨⟨st2.1, st2.2.1⟩, hne, hlt⟩, fun b hb => ?_⟩
    · rw [I.tuple_inj hys hq]
      exact hy
    · have hb' : b < s.heap.objs.size := by
        rcases List.mem_cons.mp hb with rfl | hb
        · exact hel
        · rw [List.mem_singleton.mp hb]; exact hil
      rw [upd_ne (Nat.ne_of_lt (Nat.lt_of_lt_of_le hb' hT))]
      exact (hf b hb).1
  done := by
    intro X hP hw hK hc i pins s σ H E I hf st hg
    subst hP hw hK
    obtain ⟨hge, xs, hq, hN⟩ := hg
    obtain ⟨st, hne, hi⟩ := st
    obtain ⟨its, rv, tup, hz⟩ := I.tuple hq
    have hlen : its.toArray.size = N := by rw [List.size_toArray, ← hN]; exact rv.length.symm
    obtain rfl : i = N := Nat.le_antisymm hi hge
    have nat : a ≠ it := fun z => by
      obtain ⟨o1, g1, c1, _⟩ := tup
      obtain ⟨_, o2, g2, c2, _⟩ := st
      rw [z, g2] at g1
      cases g1
      rw [c2] at c1
      exact absurd c1 (by decide)
    have nea : e ≠ a := fun z => by
      obtain ⟨o1, g1, c1, _⟩ := tup
      obtain ⟨⟨old, g2⟩, _⟩ := st
      rw [z] at g2
      rw [g2] at g1
      cases g1
      exact absurd (show Value.type "enumerate" = Value.type "tuple" from c1) (by decide)
    have D : Draws X.prog X.w X.A.in1 it [it, a] its.toArray.size _ _ := Draws.tuple (show X.A.in1.handled = none from I.ok.hd hc) it a nat its.toArray
    have W := WalksT.enumerateD D e hne (fun q => (List.mem_cons.mp q).elim hne fun q => nea (List.mem_singleton.mp q)) List.mem_cons_self
    rw [← hlen] at st
    refine W.done s _ _ ⟨st.1, st.2, tup⟩ fun h' tk hk => ⟨rfl, ?_⟩
    exact I.step (g' := s.gens) (d' := s.drawn) (ch := [e, it]) (fun b hb => ⟨(hf b hb).2.2.2.1, (hf b hb).2.1, (hf b hb).2.2.2.2.1, (hf b hb).2.2.2.2.2⟩) (fun b o _ _ hc g _ => hk b o hc g) (fun b o _ _ hc g _ => ⟨o.slots, hk b o hc g⟩)
      (fun _ _ _ _ n => n) (fun b o hc g => ⟨o, hk b o hc g⟩) (fun _ _ g => g) (fun _ _ _ g => g) (fun b ps g => ⟨#[], by rw [g]; simp⟩)
      (fun m hm => by
        obtain ⟨o, es, ep, ho, r⟩ := hm
        exact ⟨o, es, ep, hk _ o (fun q => (hf _ q).2.1 rfl) ho, r⟩)
      (fun b u g => by
        have nb : ∀ c v, H c = some v → c ∉ [e, it] := fun c v g q => by
          have g' := (hf c q).1
          rw [g'] at g; cases g
        refine (I.hok b u g).stay (fun c v hcv q => hk c v ?_ q) (fun _ q => q) fun _ _ q => q
        rcases hcv with rfl | hcv
        · exact nb _ _ g
        · exact nb _ _ hcv) I.bare
  self := fun A i s Q E st h => by
    obtain ⟨⟨⟨old, he⟩, _⟩, _⟩ := st
    exact wpAny_pyIter_enum he h
def iEnumU (K : PySem.W.Frag) (ta : TA) : TI := fun σ H R => ta σ H fun vs H1 => ∃ a xs, vs = [.ref a] ∧ SqT K H1 a xs ∧ R (Ient K a xs.length) H1
theorem pi_enumU {X : Cx} {e : Expr} {ta : TA} {p pos tpos : Pos} {elts : List Expr} {kk : Nat} (hg : Gl X "enumerate") (hm : X.mg "enumerate" = none) (ha : PA X [e] ta) (hs : starEach [e] X.env = [(false, eval e X.env)] := by rfl) :
    PI X (.Tuple elts kk tpos) (.Call (.Name "enumerate" p) [e] [] pos) (iEnumU X.K ta) := by
  refine ⟨fun pins s σ H R I h => Call_ (ld_blt I hg hm boot_enumerate (PyProof.Rows.callWith_type1 (thn (ha.run pos pins s σ H _ I h) fun us s1 ⟨vs, H1, I1, r1, a, xs, ez, hq, q⟩ => ?_) hs rfl))⟩
  subst ez
  obtain ⟨u, rfl, r2⟩ := vals1 r1
  cases r2
  obtain ⟨its, rv, tup, hz⟩ := I1.tuple hq
  refine enumT tup fun h' he hit hk => wpAny_pyIter_enum he ?_
  refine ⟨s1.heap.objs.size + 1, [s1.heap.objs.size + 1, s1.heap.objs.size], _, _, H1, rfl, I1.kept (t' := s1.toks) hk, turn_ent (s1.heap.objs.size + 1) s1.heap.objs.size a xs.length, ⟨⟨⟨.none, he⟩, hit⟩, Nat.succ_ne_self _, Nat.zero_le _⟩, fun b hb => ?_, q⟩
  have hle : s1.heap.objs.size ≤ b := by
    rcases List.mem_cons.mp hb with rfl | hb
    · exact Nat.le_succ _
    · rw [List.mem_singleton.mp hb]
      exact Nat.le_refl _
  exact I1.fpOk hle (I1.hok.fresh hle)
theorem walk_ent {K : PySem.W.Frag} {a : Addr} {xs : List V} : Walk (Ient K a xs.length) xs.length (fun H => SqT K H a xs) (fun i H v H' => ∃ T x, v = .ref T ∧ H T = none ∧ xs[i]? = some x ∧ H' = upd H T (.tup [.int (i : Nat), x])) :=
  ⟨fun i _ hi g => ⟨hi, xs, g, rfl⟩, fun _ g => ⟨Nat.le_refl _, xs, g, rfl⟩, fun i H v H' _ g y => by
    obtain ⟨T, x, h1, h2, h3, h4⟩ := y
    exact ⟨T, x, h1, h2, h3 xs g, h4⟩⟩
end Gk
namespace Gk
open PySem PySem.Spec PyProof.Rows L2
/-- a pair (branch, outcome) -/
def pd (x : Int × Int) : PyData := .tuple [.int x.1, .int x.2]
def PairsAt (K : PySem.W.Frag) (H : Hp) (p : Addr) (l : List (Int × Int)) : Prop := Dp K H (.ref p) (.tuple (l.map pd))
theorem tups_pd : ∀ l : List (Int × Int), tupsAll (l.map pd) = true
  | [] => rfl
  | x :: l => by
    show (tups (pd x) && tupsAll (l.map pd)) = true
    rw [tups_pd l]
    rfl
theorem PairsAt.keep {K : PySem.W.Frag} {H H' : Hp} {p : Addr} {l : List (Int × Int)} (h : PairsAt K H p l) (k : Keep K H H') : PairsAt K H' p l :=
  Dp.keep k _ _ (by simpa only [tups] using tups_pd l) h
theorem pairs_keep {K : PySem.W.Frag} {H H' : Hp} {as : List V} {l : List (Int × Int)} (h : DpAll K H as (l.map pd)) (k : Keep K H H') : DpAll K H' as (l.map pd) := DpAll.keep k _ _ (tups_pd l) h
theorem keep_lst {K : PySem.W.Frag} {H : Hp} {D : Addr} {xs : List V} {o : HO} (h : H D = some (.lst xs)) : Keep K H (upd H D o) := by
  intro a ys g
  rcases g with (g | ⟨u, g⟩) | g
  · exact .inl (.inl (by rw [upd_ne (ne_of g h (fun q => HO.noConfusion q))]; exact g))
  · exact .inl (.inr ⟨u, by rw [upd_ne (ne_of g h (fun q => HO.noConfusion q))]; exact g⟩)
  · exact .inr g
/-- one pair more in the list at D -/
theorem pairs_snoc {K : PySem.W.Frag} {H : Hp} {D T : Addr} {as : List V} {l : List (Int × Int)} {x y : Int} {o : HO} (h : DpAll K H as (l.map pd)) (hD : H D = some (.lst as)) (nT : H T = none) :
    DpAll K (upd (upd H T (.tup [.int x, .int y])) D o) (as ++ [.ref T]) ((l ++ [(x, y)]).map pd) := by
  have nd : D ≠ T := ne_of_none hD nT
  have hD2 : (upd H T (.tup [.int x, .int y])) D = some (.lst as) := by rw [upd_ne nd]; exact hD
  have k := (Same.keep (K := K) (same_new (o := HO.tup [V.int x, V.int y]) nT)).trans (keep_lst (o := o) hD2)
  rw [List.map_append]
  refine DpAll.app (pairs_keep h k) (.cons (.tup (.inl (.inl ?_)) (.cons (.int x) (.cons (.int y) .nil))) .nil)
  rw [upd_ne nd.symm, upd_same]
theorem pair_at {K : PySem.W.Frag} {H : Hp} {v : V} {x : Int × Int} (h : Dp K H v (pd x)) : ∃ a, v = .ref a ∧ SqT K H a [.int x.1, .int x.2] := by
  cases h with
  | tup h1 h2 =>
    cases h2 with
    | cons a b =>
      cases a
      cases b with
      | cons c d =>
        cases c
        cases d
        exact ⟨_, rfl, h1⟩
theorem DpAll.set {K : PySem.W.Frag} {H : Hp} {v : V} {d : PyData} (hv : Dp K H v d) : ∀ {vs : List V} {ds : List PyData} (i : Nat), DpAll K H vs ds → DpAll K H (vs.set i v) (ds.set i d)
  | _, _, _, .nil => .nil
  | _, _, 0, .cons _ t => .cons hv t
  | _, _, i + 1, .cons h t => .cons h (DpAll.set hv i t)
theorem lc_len {K : PySem.W.Frag} {H : Hp} {as : List V} {l : List (Int × Int)} (h : DpAll K H as (l.map pd)) : as.length = l.length := by
  have := DpAll.len h
  rwa [List.length_map] at this
/-- branches and outcomes -/
def Fair (l : List (Int × Int)) : Prop := ∀ x ∈ l, (0 ≤ x.1 ∧ x.1 ≤ 7) ∧ (x.2 = 0 ∨ x.2 = 1)
theorem Fair.nil : Fair [] := fun _ h => (nomatch h)
theorem Fair.snoc {l : List (Int × Int)} {x y : Int} (h : Fair l) (a : 0 ≤ x) (b : x ≤ 7) (c : y = 0 ∨ y = 1) : Fair (l ++ [(x, y)]) := fun z hz => by
  rcases List.mem_append.mp hz with g | g
  · exact h z g
  · rw [List.mem_singleton.mp g]
    exact ⟨⟨a, b⟩, c⟩
theorem Fair.take {l : List (Int × Int)} (h : Fair l) (n : Nat) : Fair (l.take n) := fun x hx => h x (List.mem_of_mem_take hx)
theorem tame_pd : ∀ {l : List (Int × Int)}, Fair l → tameAll (l.map pd) = true
  | [], _ => rfl
  | x :: l, h => by
    have h1 := h x List.mem_cons_self
    show (tame (pd x) && tameAll (l.map pd)) = true
    rw [tame_pd fun z hz => h z (List.mem_cons_of_mem _ hz), Bool.and_true]
    simp only [pd, tame, tameAll, Bool.and_true, Bool.and_eq_true, decide_eq_true_eq]
    omega
theorem cost_pd : ∀ l : List (Int × Int), costAll (l.map pd) = 1 + 144 * l.length
  | [] => rfl
  | x :: l => by
    show cost (pd x) + 1 + costAll (l.map pd) = _
    rw [cost_pd l, List.length_cons]
    simp only [pd, cost, costAll]
    omega
theorem depth_pd : ∀ l : List (Int × Int), PyData.depthAll (l.map pd) ≤ 1
  | [] => by decide
  | x :: l => by
    show max (PyData.depth (pd x)) (PyData.depthAll (l.map pd)) ≤ 1
    have h := depth_pd l
    have h2 : PyData.depth (pd x) = 1 := by simp [pd, PyData.depth, PyData.depthAll]
    omega
end Gk
namespace Gk
open PySem PySem.Spec PyProof.Rows L2
/-! ### data whose equality is being the same -/
mutual
def exa : PyData → Bool
  | .none | .int _ | .str _ => true
  | .list xs | .tuple xs => exaAll xs
  | .bool _ | .dict _ => false
def exaAll : List PyData → Bool
  | [] => true
  | x :: xs => exa x && exaAll xs
end
mutual
theorem eqv_exa : ∀ d e : PyData, exa d = true → exa e = true → PyData.eqv d e = true → d = e
  | .none, .none, _, _, _ => rfl
  | .int i, .int j, _, _, h => by
    simp only [PyData.eqv, beq_iff_eq] at h
    rw [h]
  | .str x, .str y, _, _, h => by
    simp only [PyData.eqv, beq_iff_eq] at h
    rw [h]
  | .list xs, .list ys, a, b, h => by
    simp only [PyData.eqv] at h
    rw [eqv_exaAll xs ys (by simpa only [exa] using a) (by simpa only [exa] using b) h]
  | .tuple xs, .tuple ys, a, b, h => by
    simp only [PyData.eqv] at h
    rw [eqv_exaAll xs ys (by simpa only [exa] using a) (by simpa only [exa] using b) h]
  | .none, .int _, _, _, h | .none, .str _, _, _, h | .none, .list _, _, _, h | .none, .tuple _, _, _, h => by simp [PyData.eqv] at h
  | .int _, .none, _, _, h | .int _, .str _, _, _, h | .int _, .list _, _, _, h | .int _, .tuple _, _, _, h => by simp [PyData.eqv] at h
  | .str _, .none, _, _, h | .str _, .int _, _, _, h | .str _, .list _, _, _, h | .str _, .tuple _, _, _, h => by simp [PyData.eqv] at h
  | .list _, .none, _, _, h | .list _, .int _, _, _, h | .list _, .str _, _, _, h | .list _, .tuple _, _, _, h => by simp [PyData.eqv] at h
  | .tuple _, .none, _, _, h | .tuple _, .int _, _, _, h | .tuple _, .str _, _, _, h | .tuple _, .list _, _, _, h => by simp [PyData.eqv] at h
  | .bool _, _, a, _, _ | .dict _, _, a, _, _ => by simp [exa] at a
  | .none, .bool _, _, b, _ | .none, .dict _, _, b, _ | .int _, .bool _, _, b, _ | .int _, .dict _, _, b, _ | .str _, .bool _, _, b, _ | .str _, .dict _, _, b, _ => by simp [exa] at b
  | .list _, .bool _, _, b, _ | .list _, .dict _, _, b, _ | .tuple _, .bool _, _, b, _ | .tuple _, .dict _, _, b, _ => by simp [exa] at b
theorem eqv_exaAll : ∀ xs ys : List PyData, exaAll xs = true → exaAll ys = true → PyData.eqvAll xs ys = true → xs = ys
  | [], [], _, _, _ => rfl
  | x :: xs, y :: ys, a, b, h => by
    simp only [exaAll, Bool.and_eq_true] at a b
    simp only [PyData.eqvAll, Bool.and_eq_true] at h
    rw [eqv_exa x y a.1 b.1 h.1, eqv_exaAll xs ys a.2 b.2 h.2]
  | [], _ :: _, _, _, h => by simp [PyData.eqvAll] at h
  | _ :: _, [], _, _, h => by simp [PyData.eqvAll] at h
end
theorem eqv_same {d : PyData} (h : tame d = true) : PyData.eqv d d = true := SeqAt.eqv_refl d (tame_lay d h)
/-- an item of a row or of a loop -/
structure Item (d : PyData) : Prop where
  e : exa d = true
  t : tups d = true
  m : tame d = true
  dp : d.depth ≤ 1
  c : cost d ≤ 143
def Plain (ds : List PyData) : Prop := ∀ d ∈ ds, Item d
theorem Plain.exa : ∀ {ds : List PyData}, Plain ds → exaAll ds = true
  | [], _ => rfl
  | x :: xs, h => by
    simp only [exaAll, (h x List.mem_cons_self).e, Plain.exa fun z hz => h z (List.mem_cons_of_mem _ hz), Bool.and_self]
theorem Plain.tups : ∀ {ds : List PyData}, Plain ds → tupsAll ds = true
  | [], _ => rfl
  | x :: xs, h => by
    simp only [tupsAll, (h x List.mem_cons_self).t, Plain.tups fun z hz => h z (List.mem_cons_of_mem _ hz), Bool.and_self]
theorem Plain.tame : ∀ {ds : List PyData}, Plain ds → tameAll ds = true
  | [], _ => rfl
  | x :: xs, h => by
    simp only [tameAll, (h x List.mem_cons_self).m, Plain.tame fun z hz => h z (List.mem_cons_of_mem _ hz), Bool.and_self]
theorem Plain.depth : ∀ {ds : List PyData}, Plain ds → PyData.depthAll ds ≤ 1
  | [], _ => Nat.zero_le _
  | x :: xs, h => by
    have h1 := (h x List.mem_cons_self).dp
    have h2 := Plain.depth fun z hz => h z (List.mem_cons_of_mem _ hz)
    simp only [PyData.depthAll]
    omega
theorem Plain.cost : ∀ {ds : List PyData}, Plain ds → costAll ds ≤ 1 + 144 * ds.length
  | [], _ => by decide
  | x :: xs, h => by
    have h1 := (h x List.mem_cons_self).c
    have h2 := Plain.cost fun z hz => h z (List.mem_cons_of_mem _ hz)
    simp only [costAll, List.length_cons]
    omega
theorem Plain.sub {ds es : List PyData} (h : Plain ds) (s : ∀ d ∈ es, d ∈ ds) : Plain es := fun d hd => h d (s d hd)
theorem Plain.take {ds : List PyData} (h : Plain ds) (n : Nat) : Plain (ds.take n) := h.sub fun _ g => List.mem_of_mem_take g
theorem Plain.drop {ds : List PyData} (h : Plain ds) (n : Nat) : Plain (ds.drop n) := h.sub fun _ g => List.mem_of_mem_drop g
theorem Plain.app {ds es : List PyData} (h : Plain ds) (g : Plain es) : Plain (ds ++ es) := fun d hd => (List.mem_append.mp hd).elim (h d) (g d)
theorem Plain.rep {ds : List PyData} (h : Plain ds) (n : Nat) : Plain (List.replicate n ds).flatten := fun x hx => by
  obtain ⟨m, hm, hx⟩ := List.mem_flatten.mp hx
  rw [(List.mem_replicate.mp hm).2] at hx
  exact h x hx
theorem plain_pd {l : List (Int × Int)} (h : Fair l) : Plain (l.map pd) := fun d hd => by
  obtain ⟨x, hx, rfl⟩ := List.mem_map.mp hd
  have g := h x hx
  refine ⟨rfl, rfl, ?_, by simp [pd, PyData.depth, PyData.depthAll], by simp only [pd, Gk.cost, costAll]; omega⟩
  simp only [pd, Gk.tame, tameAll, Bool.and_true, Bool.and_eq_true, decide_eq_true_eq]
  omega
theorem plain_bits {l : List Int} (h : ∀ o ∈ l, o = 0 ∨ o = 1) : Plain (l.map PyData.int) := fun d hd => by
  obtain ⟨x, hx, rfl⟩ := List.mem_map.mp hd
  have g := h x hx
  refine ⟨rfl, rfl, ?_, by simp [PyData.depth], by simp only [Gk.cost]; omega⟩
  simp only [Gk.tame, decide_eq_true_eq]
  omega
theorem Plain.fine {ds : List PyData} (h : Plain ds) (hl : ds.length ≤ 1000) : Fine (.tuple ds) := by
  have h1 := h.depth
  have h2 := h.cost
  refine Fine.tame (by simpa only [Gk.tame] using h.tame) ?_ ?_
  · simp only [PyData.depth]
    omega
  · simp only [Gk.cost]
    omega
theorem Plain.shaped {ds : List PyData} (h : Plain ds) : SeqAt.shaped (.tuple ds) = true := by
  have h1 := h.depth
  refine tame_shaped (by simpa only [Gk.tame] using h.tame) ?_
  simp only [PyData.depth]
  omega
def ItsAt (K : PySem.W.Frag) (H : Hp) (p : Addr) (ds : List PyData) : Prop := Dp K H (.ref p) (.tuple ds)
theorem ItsAt.keep {K : PySem.W.Frag} {H H' : Hp} {p : Addr} {ds : List PyData} (h : ItsAt K H p ds) (hp : Plain ds) (k : Keep K H H') : ItsAt K H' p ds :=
  Dp.keep k _ _ (by simpa only [Gk.tups] using hp.tups) h
theorem ItsAt.out {K : PySem.W.Frag} {H : Hp} {p : Addr} {ds : List PyData} (h : ItsAt K H p ds) : ∃ xs, SqT K H p xs ∧ DpAll K H xs ds ∧ xs.length = ds.length := by
  cases h with
  | tup a b => exact ⟨_, a, b, DpAll.len b⟩
theorem plain_eq {ds es : List PyData} (h : Plain ds) (g : Plain es) : PyData.eqv (.tuple ds) (.tuple es) = true ↔ ds = es :=
  ⟨fun e => PyData.tuple.inj (eqv_exa _ _ (by simpa only [Gk.exa] using h.exa) (by simpa only [Gk.exa] using g.exa) e), fun e => by
    rw [e]
    exact eqv_same (by simpa only [Gk.tame] using g.tame)⟩

/-! ### roots -/
def Rep {α : Type} (l : List α) (s : Nat) : Prop := (List.replicate (l.length / s) (l.take s)).flatten = l
structure RootIs {α : Type} (l : List α) (s : Nat) : Prop where
  lo : 1 ≤ s
  hi : s ≤ l.length
  rep : Rep l s
  least : ∀ t, 1 ≤ t → t < s → ¬ Rep l t
theorem flat_len {α : Type} (n : Nat) (l : List α) : ((List.replicate n l).flatten).length = n * l.length := by
  induction n with
  | zero => simp
  | succ n ih => rw [List.replicate_succ, List.flatten_cons, List.length_append, ih, Nat.succ_mul, Nat.add_comm]
theorem Rep.many {α : Type} {l : List α} {s : Nat} (h : Rep l s) (hs : s ≤ l.length) : s * (l.length / s) = l.length := by
  have e := congrArg List.length h
  rw [flat_len, List.length_take, Nat.min_eq_left hs, Nat.mul_comm] at e
  exact e
theorem RootIs.one {α : Type} {l : List α} {s t : Nat} (a : RootIs l s) (b : RootIs l t) : s = t := by
  by_cases h : s < t
  · exact absurd a.rep (b.least s a.lo h)
  · by_cases g : t < s
    · exact absurd b.rep (a.least t b.lo g)
    · omega
theorem rep_all {α : Type} {l : List α} (h : 1 ≤ l.length) : Rep l l.length := by
  unfold Rep
  rw [Nat.div_self h, List.take_length]
  show [l].flatten = l
  simp
theorem flat_mul {α : Type} (x : List α) (k : Nat) : ∀ m : Nat, (List.replicate m (List.replicate k x).flatten).flatten = (List.replicate (m * k) x).flatten
  | 0 => by simp
  | m + 1 => by
    rw [List.replicate_succ, List.flatten_cons, flat_mul x k m, Nat.succ_mul, Nat.add_comm (m * k) k, ← List.replicate_append_replicate, List.flatten_append]
theorem root_again {α : Type} {l : List α} {s t : Nat} (a : RootIs l s) (b : RootIs (l.take s) t) : t = s := by
  have hl : (l.take s).length = s := by rw [List.length_take]; exact Nat.min_eq_left a.hi
  have ht : t ≤ s := by have := b.hi; rwa [hl] at this
  by_cases h : t < s
  · refine absurd ?_ (a.least t b.lo h)
    have r1 := a.rep
    have r2 := b.rep
    have m1 := Rep.many a.rep a.hi
    have m2 := Rep.many b.rep b.hi
    rw [hl] at m2
    unfold Rep at r1 r2 ⊢
    rw [hl] at r2
    have e1 : l.length / t = l.length / s * (s / t) := by
      have : l.length = t * (l.length / s * (s / t)) := by
        have h2 : t * (s / t) * (l.length / s) = l.length := by
          rw [m2]
          exact m1
        rw [Nat.mul_comm (l.length / s) (s / t), ← Nat.mul_assoc]
        exact h2.symm
      exact Nat.div_eq_of_eq_mul_right b.lo this
    have e2 : (l.take s).take t = l.take t := by rw [List.take_take, Nat.min_eq_left ht]
    rw [e2] at r2
    rw [e1, ← flat_mul, r2, r1]
  · omega
/-! ### turned -/
def rot {α : Type} (l : List α) (k : Nat) : List α := l.drop k ++ l.take k
theorem rot_len {α : Type} (l : List α) (k : Nat) : (rot l k).length = l.length := by
  unfold rot
  rw [List.length_append, List.length_drop, List.length_take]
  omega
theorem rot_at {α : Type} {l : List α} {k i : Nat} (hk : k < l.length) (hi : i < l.length) : (rot l k)[i]? = l[(i + k) % l.length]? := by
  unfold rot
  by_cases h : i < l.length - k
  · rw [List.getElem?_append_left (by rw [List.length_drop]; exact h), List.getElem?_drop, Nat.mod_eq_of_lt (by omega), Nat.add_comm]
  · rw [List.getElem?_append_right (by rw [List.length_drop]; omega), List.length_drop, List.getElem?_take_of_lt (by omega)]
    have : (i + k) % l.length = i - (l.length - k) := by
      rw [Nat.mod_eq_sub_mod (by omega), Nat.mod_eq_of_lt (by omega)]
      omega
    rw [this]
theorem rot_back {α : Type} {l : List α} {j k : Nat} (hk : k < l.length) (h : (j = 0 ∧ k = 0) ∨ j + k = l.length) : rot (rot l k) j = l := by
  rcases h with ⟨rfl, rfl⟩ | h
  · unfold rot
    simp
  · have hj : (l.drop k).length = j := by rw [List.length_drop]; omega
    show (rot l k).drop j ++ (rot l k).take j = l
    unfold rot
    rw [← hj, List.drop_left, List.take_left, List.take_append_drop]
/-! ### rules whose written part is named -/
def rLen2 (K : PySem.W.Frag) : List V → Hp → VK → Prop := fun xs H Q => ∃ p ys, xs = [.ref p] ∧ (SqL K H p ys ∨ SqT K H p ys) ∧ Q (.int ys.length) H
theorem call_lenK {X : Cx} (K : PySem.W.Frag) (h : X.K = K := by rfl) : CallR X (.builtin "len") (rLen2 K) := by
  subst h
  exact call_len_seq
theorem ix_tupK {X : Cx} (K : PySem.W.Frag) (h : X.K = K := by rfl) : IxR X (rIxT K) := by
  subst h
  exact ix_tup
theorem ix_listK {X : Cx} (K : PySem.W.Frag) (h : X.K = K := by rfl) : IxR X (rIxL K) := by
  subst h
  exact ix_list
end Gk
namespace Gk
open PySem PySem.Spec PyProof.Rows L2
/-! ### values of any kind: data with lists and dicts, away from what changes -/
mutual
inductive Dv (M : Addr → Prop) (K : PySem.W.Frag) (H : Hp) : V → PyData → Prop
  | non : Dv M K H .non .none
  | bl (b : Bool) : Dv M K H (.bl b) (.bool b)
  | int (i : Int) : Dv M K H (.int i) (.int i)
  | str (x : Str) : Dv M K H (.str x) (.str x)
  | lst {a : Addr} {xs : List V} {ds : List PyData} : H a = some (.lst xs) → ¬ M a → (a == sysModules) = false → DvAll M K H xs ds → Dv M K H (.ref a) (.list ds)
  | tup {a : Addr} {xs : List V} {ds : List PyData} : Rd H a (.tup xs) → ¬ M a → DvAll M K H xs ds → Dv M K H (.ref a) (.tuple ds)
  | tupK {a : Addr} {xs : List V} {ds : List PyData} : (∃ (o : Obj) (its : Array Value) (n : Nat), K.lookup a = some o ∧ o.cls = .type "tuple" ∧ o.data = .seq its n ∧ its.size ≤ sizeLine ∧ Vals xs its.toList) → DvAll M K H xs ds → Dv M K H (.ref a) (.tuple ds)
  | dct {a : Addr} {kvs : List (Key × V)} {ks : List Str} {xs : List V} {ds : List PyData} : H a = some (.dK kvs) → ¬ M a → kvs = (ks.map Sum.inr).zip xs → ks.length = ds.length → DvAll M K H xs ds →
      Dv M K H (.ref a) (.dict ((ks.map PyData.str).zip ds))
inductive DvAll (M : Addr → Prop) (K : PySem.W.Frag) (H : Hp) : List V → List PyData → Prop
  | nil : DvAll M K H [] []
  | cons {v : V} {vs : List V} {d : PyData} {ds : List PyData} : Dv M K H v d → DvAll M K H vs ds → DvAll M K H (v :: vs) (d :: ds)
end
/-- what does not belong to M stays -/
def Off (M : Addr → Prop) (H H' : Hp) : Prop := ∀ a o, ¬ M a → H a = some o → H' a = some o
theorem Off.refl {M : Addr → Prop} {H : Hp} : Off M H H := fun _ _ _ h => h
theorem Off.trans {M : Addr → Prop} {H H1 H2 : Hp} (x : Off M H H1) (y : Off M H1 H2) : Off M H H2 := fun a o n h => y a o n (x a o n h)
theorem Off.same {M : Addr → Prop} {H H' : Hp} (s : Same H H') : Off M H H' := fun a o _ h => s a o h
theorem Off.but {M : Addr → Prop} {H H' : Hp} {b : Addr} (s : But b H H') (hb : M b) : Off M H H' := fun a o n h => s a o (fun z => n (by rw [z]; exact hb)) h
theorem Off.mut {M : Addr → Prop} {H : Hp} {D : Addr} {o : HO} (hb : M D) : Off M H (upd H D o) := fun a u n h => by
  rw [upd_ne (fun z => n (by rw [z]; exact hb))]
  exact h
theorem Off.rd {M : Addr → Prop} {H H' : Hp} {a : Addr} {o : HO} (k : Off M H H') (n : ¬ M a) (h : Rd H a o) : Rd H' a o := h.elim (fun h => .inl (k _ _ n h)) fun ⟨ob, h⟩ => .inr ⟨ob, k _ _ n h⟩
theorem rd_some {H : Hp} {a : Addr} {o : HO} (h : Rd H a o) : ∃ u, H a = some u := h.elim (fun h => ⟨_, h⟩) fun ⟨ob, h⟩ => ⟨_, h⟩
mutual
theorem Dv.keep {M M' : Addr → Prop} {K : PySem.W.Frag} {H H' : Hp} (k : Off M H H') (m : ∀ a o, H a = some o → ¬ M a → ¬ M' a) : ∀ {v : V} {d : PyData}, Dv M K H v d → Dv M' K H' v d
  | _, _, .non => .non
  | _, _, .bl b => .bl b
  | _, _, .int i => .int i
  | _, _, .str x => .str x
  | _, _, .lst h n s r => .lst (k _ _ n h) (m _ _ h n) s (DvAll.keep k m r)
  | _, _, .tup h n r => .tup (k.rd n h) (let ⟨_, e⟩ := rd_some h; m _ _ e n) (DvAll.keep k m r)
  | _, _, .tupK h r => .tupK h (DvAll.keep k m r)
  | _, _, .dct h n e l r => .dct (k _ _ n h) (m _ _ h n) e l (DvAll.keep k m r)
theorem DvAll.keep {M M' : Addr → Prop} {K : PySem.W.Frag} {H H' : Hp} (k : Off M H H') (m : ∀ a o, H a = some o → ¬ M a → ¬ M' a) : ∀ {vs : List V} {ds : List PyData}, DvAll M K H vs ds → DvAll M' K H' vs ds
  | _, _, .nil => .nil
  | _, _, .cons h t => .cons (Dv.keep k m h) (DvAll.keep k m t)
end
section
variable {M : Addr → Prop} {K : PySem.W.Frag} {H H' : Hp}
theorem Dv.off {v : V} {d : PyData} (h : Dv M K H v d) (k : Off M H H') : Dv M K H' v d := h.keep k fun _ _ _ n => n
theorem DvAll.off {vs : List V} {ds : List PyData} (h : DvAll M K H vs ds) (k : Off M H H') : DvAll M K H' vs ds := h.keep k fun _ _ _ n => n
theorem DvAll.len : ∀ {vs : List V} {ds : List PyData}, DvAll M K H vs ds → vs.length = ds.length
  | _, _, .nil => rfl
  | _, _, .cons _ t => by rw [List.length_cons, List.length_cons, DvAll.len t]
theorem DvAll.take : ∀ {vs : List V} {ds : List PyData} (n : Nat), DvAll M K H vs ds → DvAll M K H (vs.take n) (ds.take n)
  | _, _, 0, _ => .nil
  | _, _, _ + 1, .nil => .nil
  | _, _, n + 1, .cons h t => .cons h (DvAll.take n t)
theorem DvAll.drop : ∀ {vs : List V} {ds : List PyData} (n : Nat), DvAll M K H vs ds → DvAll M K H (vs.drop n) (ds.drop n)
  | _, _, 0, h => h
  | _, _, _ + 1, .nil => .nil
  | _, _, n + 1, .cons _ t => DvAll.drop n t
theorem DvAll.app : ∀ {vs us : List V} {ds es : List PyData}, DvAll M K H vs ds → DvAll M K H us es → DvAll M K H (vs ++ us) (ds ++ es)
  | _, _, _, _, .nil, h => h
  | _, _, _, _, .cons h t, h2 => .cons h (DvAll.app t h2)
theorem DvAll.rev : ∀ {vs : List V} {ds : List PyData}, DvAll M K H vs ds → DvAll M K H vs.reverse ds.reverse
  | _, _, .nil => .nil
  | _, _, .cons h t => by
    rw [List.reverse_cons, List.reverse_cons]
    exact DvAll.app (DvAll.rev t) (.cons h .nil)
theorem DvAll.at : ∀ {vs : List V} {ds : List PyData} {i : Nat} {v : V}, DvAll M K H vs ds → vs[i]? = some v → ∃ d, ds[i]? = some d ∧ Dv M K H v d
  | _, _, _, _, .nil, h => by simp at h
  | _, _, 0, _, .cons h _, e => by
    obtain rfl := Option.some.inj e
    exact ⟨_, rfl, h⟩
  | _, _, i + 1, _, .cons _ t, e => DvAll.at (i := i) t (by simpa using e)
end
/-- the keys and the values of a dict's entries, as they are read -/
theorem pairs_reads {P : Program} {w : World} {h : Heap} : ∀ {es : List DictEntry} {ks : List Str} {xs : List V} {vs : List (Key × Value)} {us : List Value}, ks.length = xs.length → KV ((ks.map Sum.inr).zip xs) vs → Pairs (mixKind P w) es vs →
    (∃ us, Vals xs us ∧ es.map (·.val) = us) ∧ ReadsAll h (es.map (·.key)) (ks.map PyData.str) []
  | es, [], [], vs, us, _, r, p => by
    cases r
    cases p
    exact ⟨⟨[], .nil, rfl⟩, .nil⟩
  | es, k :: ks, x :: xs, vs, us, l, r, p => by
    cases r with
    | cons r1 r2 =>
      cases p with
      | cons p1 p2 p3 =>
        obtain ⟨⟨us', v', e'⟩, rd⟩ := pairs_reads (us := []) (by simpa using l) r2 p3
        obtain ⟨r1a, r1b⟩ := r1
        refine ⟨⟨_ :: us', .cons r1b v', by rw [List.map_cons, e', p2]⟩, ?_⟩
        rw [← r1a] at p1
        have p1' : Value.isStrOf k _ = true := p1
        obtain ⟨t, et⟩ := Value.isStrOf_shape p1'
        rw [List.map_cons, List.map_cons, et]
        exact ReadsAll.cons (as := []) (bs := []) (Reads.str k t) rd
  | _, [], _ :: _, _, _, l, _, _ => by simp at l
  | _, _ :: _, [], _, _, l, _, _ => by simp at l
section
variable {X : Cx} {M : Addr → Prop} {pins : List (Addr × Obj)} {σ : L2.St} {H : Hp} {s : Shared}
mutual
theorem Dv.reads (I : Inv X pins σ H s) : ∀ {v : V} {d : PyData} {u : Value}, Dv M X.K H v d → RelV v u → ∃ as, Reads s.heap u d as ∧ sysModules ∉ as
  | _, _, u, .non, r => by cases r; exact ⟨[], .none, fun z => nomatch z⟩
  | _, _, u, .bl b, r => by cases r; exact ⟨[], .bool b, fun z => nomatch z⟩
  | _, _, u, .int i, r => by obtain ⟨t, rfl⟩ := r; exact ⟨[], .int i t, fun z => nomatch z⟩
  | _, _, u, .str x, r => by obtain ⟨t, rfl⟩ := r; exact ⟨[], .str x t, fun z => nomatch z⟩
  | _, _, u, .lst (a := a) h n sm ra, r => by
    cases r
    obtain ⟨hz, its, k, rv, ho⟩ := I.hok _ _ h
    obtain ⟨as, rd, na⟩ := DvAll.reads I ra rv
    refine ⟨a :: as, .list ho rfl rfl (by simpa using rd), fun z => ?_⟩
    rcases List.mem_cons.mp z with z | z
    · rw [z] at sm
      exact absurd sm (by simp)
    · exact na z
  | _, _, u, .tup h n ra, r => by
    cases r
    obtain ⟨its, rv, ⟨o, ho, hc, k, hd⟩, _⟩ := I.tuple (.inl h)
    obtain ⟨as, rd, na⟩ := DvAll.reads I ra rv
    exact ⟨as, .tuple ho hc hd (by simpa using rd), na⟩
  | _, _, u, .tupK h ra, r => by
    cases r
    obtain ⟨its, rv, ⟨o, ho, hc, k, hd⟩, _⟩ := I.tuple (.inr h)
    obtain ⟨as, rd, na⟩ := DvAll.reads I ra rv
    exact ⟨as, .tuple ho hc hd (by simpa using rd), na⟩
  | _, _, u, .dct (a := a) (ks := ks) (xs := xs) h n e l ra, r => by
    cases r
    obtain ⟨hz, sm, vs, kv, o, es, ep, ho, ex, hd, _, ps, _⟩ := I.hok _ _ h
    rw [e] at kv
    have hl := DvAll.len ra
    obtain ⟨⟨us, vu, eu⟩, rk⟩ := pairs_reads (P := X.prog) (w := X.w) (h := s.heap) (us := []) (l.trans hl.symm) kv ps
    obtain ⟨as, rd, na⟩ := DvAll.reads I ra vu
    rw [← eu] at rd
    refine ⟨a :: [] ++ as, .dict ho ex.1 hd ?_ ?_, fun z => ?_⟩
    · rw [List.map_fst_zip (by rw [List.length_map]; omega)]
      exact rk
    · rw [List.map_snd_zip (by rw [List.length_map]; omega)]
      exact rd
    · rcases List.mem_cons.mp z with z | z
      · rw [z] at sm
        exact absurd sm (by simp)
      · exact na z
theorem DvAll.reads (I : Inv X pins σ H s) : ∀ {vs : List V} {ds : List PyData} {us : List Value}, DvAll M X.K H vs ds → Vals vs us → ∃ as, ReadsAll s.heap us ds as ∧ sysModules ∉ as
  | _, _, _, .nil, r => by cases r; exact ⟨[], .nil, fun z => nomatch z⟩
  | _, _, _, .cons h t, r => by
    cases r with
    | cons r1 r2 =>
      obtain ⟨as, q1, n1⟩ := Dv.reads I h r1
      obtain ⟨bs, q2, n2⟩ := DvAll.reads I t r2
      exact ⟨as ++ bs, .cons q1 q2, fun z => (List.mem_append.mp z).elim n1 n2⟩
end
end
end Gk
namespace Gk
open PySem PySem.Spec PyProof.Rows L2
mutual
def fin : PyData → Nat → Bool
  | .none, _ | .bool _, _ => true
  | .int i, B => decide (i.natAbs ≤ B)
  | .str x, _ => x.cps.all (· < 0x110000)
  | .list xs, B | .tuple xs, B => finAll xs B
  | .dict kvs, B => finKv kvs B
def finAll : List PyData → Nat → Bool
  | [], _ => true
  | x :: xs, B => fin x B && finAll xs B
def finKv : List (PyData × PyData) → Nat → Bool
  | [], _ => true
  | (k, v) :: r, B => fin k B && fin v B && finKv r B
end
mutual
def big : PyData → Nat
  | .none | .bool _ | .int _ => 70
  | .str x => x.cps.size + 1
  | .list xs | .tuple xs => bigAll xs
  | .dict kvs => bigKv kvs
def bigAll : List PyData → Nat
  | [] => 1
  | x :: xs => big x + 1 + bigAll xs
def bigKv : List (PyData × PyData) → Nat
  | [] => 1
  | (k, v) :: r => big k + big v + 2 + bigKv r
end
mutual
theorem fin_facts {B : Nat} (hB : B < 10 ^ 20) : ∀ d : PyData, fin d B = true → d.showable = true ∧ d.leavesShort 21 = true ∧ d.weight ≤ big d
  | .none, _ => ⟨rfl, rfl, Nat.zero_le _⟩
  | .bool _, _ => ⟨rfl, rfl, Nat.zero_le _⟩
  | .int i, h => by
    simp only [fin, decide_eq_true_eq] at h
    have h1 := int_log20 (c := i) (by omega)
    have h2 := int_len20 (c := i) (by omega)
    refine ⟨?_, ?_, ?_⟩
    · simp only [PyData.showable]
      exact decide_eq_true (by omega)
    · simp only [PyData.leavesShort]
      exact decide_eq_true h2
    · simp only [PyData.weight, big]
      split <;> omega
  | .str x, h => by
    have h1 : tame (.str x) = true := by simpa only [fin, tame] using h
    exact ⟨rfl, tame_short _ h1, by simp only [PyData.weight, big]; omega⟩
  | .list xs, h => by
    have := fin_factsAll hB xs (by simpa only [fin] using h)
    simpa only [PyData.showable, PyData.leavesShort, PyData.weight, big] using this
  | .tuple xs, h => by
    have := fin_factsAll hB xs (by simpa only [fin] using h)
    simpa only [PyData.showable, PyData.leavesShort, PyData.weight, big] using this
  | .dict kvs, h => by
    have := fin_factsKv hB kvs (by simpa only [fin] using h)
    simpa only [PyData.showable, PyData.leavesShort, PyData.weight, big] using this
theorem fin_factsAll {B : Nat} (hB : B < 10 ^ 20) : ∀ ds : List PyData, finAll ds B = true → PyData.showableAll ds = true ∧ PyData.leavesShortAll 21 ds = true ∧ PyData.weightAll ds ≤ bigAll ds
  | [], _ => ⟨rfl, rfl, Nat.zero_le _⟩
  | x :: xs, h => by
    simp only [finAll, Bool.and_eq_true] at h
    obtain ⟨a1, a2, a3⟩ := fin_facts hB x h.1
    obtain ⟨b1, b2, b3⟩ := fin_factsAll hB xs h.2
    refine ⟨by simp only [PyData.showableAll, a1, b1, Bool.and_self], by simp only [PyData.leavesShortAll, a2, b2, Bool.and_self], ?_⟩
    simp only [PyData.weightAll, bigAll]
    omega
theorem fin_factsKv {B : Nat} (hB : B < 10 ^ 20) : ∀ kvs : List (PyData × PyData), finKv kvs B = true → PyData.showableKv kvs = true ∧ PyData.leavesShortKv 21 kvs = true ∧ PyData.weightKv kvs ≤ bigKv kvs
  | [], _ => ⟨rfl, rfl, Nat.zero_le _⟩
  | (k, v) :: r, h => by
    simp only [finKv, Bool.and_eq_true] at h
    obtain ⟨a1, a2, a3⟩ := fin_facts hB k h.1.1
    obtain ⟨c1, c2, c3⟩ := fin_facts hB v h.1.2
    obtain ⟨b1, b2, b3⟩ := fin_factsKv hB r h.2
    refine ⟨by simp only [PyData.showableKv, a1, b1, c1, Bool.and_self], by simp only [PyData.leavesShortKv, a2, b2, c2, Bool.and_self], ?_⟩
    simp only [PyData.weightKv, bigKv]
    omega
end
/-- data that may be shown, of any kind -/
structure Show (d : PyData) : Prop where
  a : d.showable = true
  c : d.depth ≤ 40
  e : d.shown.length ≤ sizeLine
theorem Show.of {d : PyData} {B : Nat} (hB : B < 10 ^ 20) (h : fin d B = true) (hd : d.depth ≤ 40) (hc : big d ≤ 500000) : Show d := by
  obtain ⟨a1, a2, a3⟩ := fin_facts hB d h
  refine ⟨a1, hd, ?_⟩
  have h1 := PyData.shown_le 21 (by decide) d a2
  have h3 : sizeLine = 16777216 := sizeLine_eq
  omega
theorem call_reprV {X : Cx} {k : Nat} (M : Addr → Prop) (hr : Room k X.A) (hg : X.A.guards = some []) : CallR X (.builtin "repr") (fun xs H Q => ∃ v d, xs = [v] ∧ Dv M X.K H v d ∧ Show d ∧ Q (.str d.shown) H) := by
  intro pins s σ H xs us Q I r h
  obtain ⟨v, d, rfl, hd, sh, q⟩ := h
  obtain ⟨u, rfl, ru⟩ := vals1 r
  have hun := hr.units
  have hc := sh.c
  obtain ⟨as, rd, na⟩ := Dv.reads I hd ru
  cases hd with
  | non =>
    cases ru
    exact PySem.P.repr_of_none ⟨.str _, H, I.tok _, ⟨_, rfl⟩, q⟩
  | bl b =>
    cases ru
    exact PySem.P.repr_of_bool ⟨.str _, H, I.tok _, ⟨_, rfl⟩, q⟩
  | int i =>
    obtain ⟨t, rfl⟩ := ru
    exact PySem.P.repr_of_int (of_decide_eq_true sh.a) ⟨.str _, H, I.tok _, ⟨_, rfl⟩, q⟩
  | str x =>
    obtain ⟨t, rfl⟩ := ru
    exact PySem.P.repr_of_str ⟨.str _, H, I.tok _, ⟨_, rfl⟩, q⟩ sh.e
  | lst _ _ _ _ =>
    cases ru
    exact repr_of_reads' rd sh.a (fun _ => na) hg (by omega) (fun _ _ e => e) (fun h' t tk hk => ⟨.str _, H, I.kept (t' := tk) hk, ⟨_, rfl⟩, q⟩) sh.e
  | tupK _ _ =>
    cases ru
    exact repr_of_reads' rd sh.a (fun _ => na) hg (by omega) (fun _ _ e => e) (fun h' t tk hk => ⟨.str _, H, I.kept (t' := tk) hk, ⟨_, rfl⟩, q⟩) sh.e
  | tup _ _ _ =>
    cases ru
    exact repr_of_reads' rd sh.a (fun _ => na) hg (by omega) (fun _ _ e => e) (fun h' t tk hk => ⟨.str _, H, I.kept (t' := tk) hk, ⟨_, rfl⟩, q⟩) sh.e
  | dct _ _ _ _ _ =>
    cases ru
    exact repr_of_reads' rd sh.a (fun _ => na) hg (by omega) (fun _ _ e => e) (fun h' t tk hk => ⟨.str _, H, I.kept (t' := tk) hk, ⟨_, rfl⟩, q⟩) sh.e
/-- a list of written items, its place told apart from the table of modules -/
def tLstN (t : TA) : TE := fun σ H Q => t σ H fun xs H1 => xs.length ≤ sizeLine ∧ ∀ p, H1 p = none → (p == sysModules) = false → Q (.ref p) (upd H1 p (.lst xs))
theorem not_modules {X : Cx} {pins : List (Addr × Obj)} {σ : L2.St} {H : Hp} {s : Shared} (I : Inv X pins σ H s) : (s.heap.objs.size == sysModules) = false := beq_eq_false_iff_ne.mpr (Nat.ne_of_gt I.big)
theorem pe_lstN {X : Cx} {es : List Expr} {t : TA} {pos : Pos} (h : PA X es t) : PE X (.List es pos) (tLstN t) :=
  ⟨fun pins s σ H Q I hq => wpAny_List_spliced (thn (h.run pos pins s σ H _ I hq) fun us s1 ⟨xs, H1, I1, r, z, q⟩ => ⟨by rw [← r.length]; exact z, .ref s1.heap.objs.size, upd H1 s1.heap.objs.size (.lst xs),
    I1.laid (t' := s1.toks) (fun b u e => Heap.get?_push_of_some _ e) (Nat.le_refl _) ⟨z, us, 0, r, Heap.get?_push_size _ rfl⟩, rfl, q _ (I1.hok.fresh (Nat.le_refl _)) (not_modules I1)⟩)⟩
/-- what isinstance says of such a value -/
def tyD : PyData → Value
  | .none => .type "NoneType"
  | .bool _ => .type "bool"
  | .int _ => .type "int"
  | .str _ => .type "str"
  | .list _ => .type "list"
  | .tuple _ => .type "tuple"
  | .dict _ => .type "dict"
theorem Dv.ty {M : Addr → Prop} {K : PySem.W.Frag} {H : Hp} {v : V} {d : PyData} (h : Dv M K H v d) : TyX K H v (tyD d) := by
  cases h with
  | non => exact .base .non
  | bl b => exact .base (.bl b)
  | int i => exact .base (.int i)
  | str x => exact .base (.str x)
  | lst h _ _ _ => exact .base (.lst h)
  | tup h _ _ =>
    rcases h with h | ⟨o, h⟩
    · exact .base (.tup h)
    · exact .fTuple h
  | tupK h _ =>
    obtain ⟨o, _, _, e, c, _⟩ := h
    exact .kTuple e c
  | dct h _ _ _ _ => exact .base (.dK h)
def isTup : PyData → Bool
  | .tuple _ => true
  | _ => false
def isIn : PyData → Bool
  | .int _ | .bool _ => true
  | _ => false
def isBo : PyData → Bool
  | .bool _ => true
  | _ => false
theorem kit_tup {K : PySem.W.Frag} (d : PyData) : PySem.W.kitOne K (tyD d) (.type "tuple") = some (isTup d) := by
  have t : ∀ x ∈ ["NoneType", "bool", "int", "str", "list", "dict"], kitB x "tuple" = some false := by decide +kernel
  cases d with
  | none => exact L2.kit_ty (t "NoneType" (by decide))
  | bool _ => exact L2.kit_ty (t "bool" (by decide))
  | int _ => exact L2.kit_ty (t "int" (by decide))
  | str _ => exact L2.kit_ty (t "str" (by decide))
  | list _ => exact L2.kit_ty (t "list" (by decide))
  | dict _ => exact L2.kit_ty (t "dict" (by decide))
  | tuple _ => exact L2.kit_ty (show kitB "tuple" "tuple" = some true by decide +kernel)
theorem kit_int {K : PySem.W.Frag} (d : PyData) : PySem.W.kitOne K (tyD d) (.type "int") = some (isIn d) := by
  have t : ∀ x ∈ ["NoneType", "str", "list", "tuple", "dict"], kitB x "int" = some false := by decide +kernel
  have u : ∀ x ∈ ["bool", "int"], kitB x "int" = some true := by decide +kernel
  cases d with
  | none => exact L2.kit_ty (t "NoneType" (by decide))
  | bool _ => exact L2.kit_ty (u "bool" (by decide))
  | int _ => exact L2.kit_ty (u "int" (by decide))
  | str _ => exact L2.kit_ty (t "str" (by decide))
  | list _ => exact L2.kit_ty (t "list" (by decide))
  | dict _ => exact L2.kit_ty (t "dict" (by decide))
  | tuple _ => exact L2.kit_ty (t "tuple" (by decide))
theorem kit_bool {K : PySem.W.Frag} (d : PyData) : PySem.W.kitOne K (tyD d) (.type "bool") = some (isBo d) := by
  have t : ∀ x ∈ ["NoneType", "int", "str", "list", "tuple", "dict"], kitB x "bool" = some false := by decide +kernel
  cases d with
  | none => exact L2.kit_ty (t "NoneType" (by decide))
  | int _ => exact L2.kit_ty (t "int" (by decide))
  | str _ => exact L2.kit_ty (t "str" (by decide))
  | list _ => exact L2.kit_ty (t "list" (by decide))
  | dict _ => exact L2.kit_ty (t "dict" (by decide))
  | tuple _ => exact L2.kit_ty (t "tuple" (by decide))
  | bool _ => exact L2.kit_ty (show kitB "bool" "bool" = some true by decide +kernel)
end Gk
namespace Gk
open PySem PySem.Spec PyProof.Rows L2
/-! ### expressions that make data -/
theorem same_new2 {H : Hp} {p : Addr} {o o' : HO} (h : H p = none) : Same H (upd (upd H p o) p o') := fun a u e => by
  rw [upd_ne (ne_of_none e h), upd_ne (ne_of_none e h)]; exact e
/-- what M speaks of stands on the heap -/
def Stands (M : Addr → Prop) (H : Hp) : Prop := ∀ a, M a → ∃ o, H a = some o
theorem Stands.same {M : Addr → Prop} {H H' : Hp} (h : Stands M H) (s : Same H H') : Stands M H' := fun a m => by
  obtain ⟨o, e⟩ := h a m
  exact ⟨o, s _ _ e⟩
theorem Stands.new {M : Addr → Prop} {H : Hp} {p : Addr} (h : Stands M H) (n : H p = none) : ¬ M p := fun m => by
  obtain ⟨o, e⟩ := h p m
  rw [n] at e; cases e
def Mk (M : Addr → Prop) (K : PySem.W.Frag) (t : TE) (σ : L2.St) (H0 : Hp) (d : PyData) : Prop :=
  ∀ (H : Hp) (M' : Addr → Prop) (Q : VK), Same H0 H → (∀ a, M a → M' a) → (∀ a, M' a → M a ∨ H0 a = none) → Stands M' H → (∀ v H', Same H H' → Dv M' K H' v d → Q v H') → t σ H Q
def MkA (M : Addr → Prop) (K : PySem.W.Frag) (t : TA) (σ : L2.St) (H0 : Hp) (ds : List PyData) : Prop :=
  ∀ (H : Hp) (M' : Addr → Prop) (Q : List V → Hp → Prop), Same H0 H → (∀ a, M a → M' a) → (∀ a, M' a → M a ∨ H0 a = none) → Stands M' H → (∀ vs H', Same H H' → DvAll M' K H' vs ds → Q vs H') → t σ H Q
theorem none_of {H H' : Hp} {p : Addr} (s : Same H H') (n : H' p = none) : H p = none := by
  cases e : H p with
  | none => rfl
  | some o => rw [s _ _ e] at n; cases n
section
variable {M : Addr → Prop} {K : PySem.W.Frag} {σ : L2.St} {H0 : Hp}
theorem mk_c {v : V} {d : PyData} (h : ∀ M H, Dv M K H v d) : Mk M K (tC v) σ H0 d := fun H M' Q s u w z q => q _ _ (Same.refl _) (h M' H)
theorem mk_int {i : Int} : Mk M K (tC (.int i)) σ H0 (.int i) := mk_c fun _ _ => .int i
theorem mk_str {x : Str} : Mk M K (tC (.str x)) σ H0 (.str x) := mk_c fun _ _ => .str x
theorem mk_non : Mk M K (tC .non) σ H0 .none := mk_c fun _ _ => .non
theorem mk_bl {b : Bool} : Mk M K (tC (.bl b)) σ H0 (.bool b) := mk_c fun _ _ => .bl b
theorem mk_neg {i : Int} : Mk M K (tUn (rU fun i => .int (-i)) (tC (.int i))) σ H0 (.int (-i)) := fun H M' Q s u w z q => ⟨_, rfl, q _ _ (Same.refl _) (.int _)⟩
theorem mk_pow {i j : Int} (c : CPow i j) : Mk M K (tOp (rI CPow fun i j => .int (i ^ j.toNat)) (tC (.int i)) (tC (.int j))) σ H0 (.int (i ^ j.toNat)) :=
  fun H M' Q s u w z q => ⟨_, _, rfl, rfl, c, q _ _ (Same.refl _) (.int _)⟩
theorem mk_var {i : Nat} {v : V} {d : PyData} (e : σ[i]? = some (some v)) (h : Dv M K H0 v d) : Mk M K (tVar i) σ H0 d := fun H M' Q s u w z q =>
  ⟨v, e, q _ _ (Same.refl _) (h.keep (Off.same s) fun a o ea na ma => (w a ma).elim na fun en => by rw [ea] at en; cases en)⟩
theorem mkA_nil : MkA M K tNil σ H0 [] := fun H M' Q s u w z q => q _ _ (Same.refl _) .nil
theorem mkA_cons {t : TE} {r : TA} {d : PyData} {ds : List PyData} (h : Mk M K t σ H0 d) (hr : MkA M K r σ H0 ds) : MkA M K (tCons t r) σ H0 (d :: ds) := fun H M' Q s u w z q =>
  h H M' _ s u w z fun v H1 s1 e1 => hr H1 M' _ (s.trans s1) u w (z.same s1) fun vs H2 s2 e2 => q _ _ (s1.trans s2) (.cons (e1.off (Off.same s2)) e2)
theorem mk_tup {t : TA} {ds : List PyData} (h : MkA M K t σ H0 ds) (l : ds.length ≤ 1000) : Mk M K (tTup t) σ H0 (.tuple ds) := fun H M' Q s u w z q =>
  h H M' _ s u w z fun vs H1 s1 e1 => ⟨by rw [e1.len, sizeLine_eq]; omega, fun p n => q _ _ (s1.trans (same_new n)) (.tup (.inl upd_same) ((z.same s1).new n) (e1.off (Off.same (same_new n))))⟩
theorem mk_lst {t : TA} {ds : List PyData} (h : MkA M K t σ H0 ds) (l : ds.length ≤ 1000) : Mk M K (tLstN t) σ H0 (.list ds) := fun H M' Q s u w z q =>
  h H M' _ s u w z fun vs H1 s1 e1 => ⟨by rw [e1.len, sizeLine_eq]; omega, fun p n y => q _ _ (s1.trans (same_new n)) (.lst upd_same ((z.same s1).new n) y (e1.off (Off.same (same_new n))))⟩
theorem mk_dct {t : TE} {k : Str} {d : PyData} (h : Mk M K t σ H0 d) : Mk M K (tDisp [(tC (.str k), t)]) σ H0 (.dict [(.str k, d)]) := fun H M' Q s u w z q => by
  intro p n
  show t σ _ _
  refine h _ (fun a => M' a ∨ a = p) _ (s.trans (same_new n)) (fun a ma => .inl (u a ma)) (fun a ma => ma.elim (w a) fun e => .inr (by rw [e]; exact none_of s n)) (fun a ma => ?_) fun v H1 s1 e1 => ?_
  · rcases ma with ma | rfl
    · obtain ⟨o, e⟩ := z a ma
      exact ⟨o, same_new n _ _ e⟩
    · exact ⟨_, upd_same⟩
  · have hp : H1 p = some (.dK []) := s1 _ _ upd_same
    have sm : Same H (upd H1 p (.dK [(Sum.inr k, v)])) := fun a o e => by
      rw [upd_ne (ne_of_none e n)]
      exact s1 _ _ (same_new n _ _ e)
    refine ⟨hp, [(Sum.inr k, v)], rfl, by show 1 ≤ 15; decide, q _ _ sm ?_⟩
    exact Dv.dct (ks := [k]) (xs := [v]) (ds := [d]) upd_same (z.new n) rfl rfl (.cons (e1.keep (Off.mut (.inr rfl)) fun a o _ na ma => na (.inl ma)) .nil)
theorem mk_dct0 : Mk M K tDNewK σ H0 (.dict []) := fun H M' Q s u w z q => by
  intro p n
  exact q _ _ (same_new n) (.dct (ks := []) (xs := []) (ds := []) upd_same (z.new n) rfl rfl .nil)
/-- a list of made things -/
theorem mk_some {t : TA} {ds : List PyData} {Q : VK} (h : MkA M K t σ H0 ds) (z : Stands M H0) (l : ds.length ≤ 1000) (q : ∀ p xs H', Same H0 H' → H0 p = none → H' p = some (.lst xs) → DvAll M K H' xs ds → xs.length = ds.length → Q (.ref p) H') : tLst t σ H0 Q :=
  h H0 M _ (Same.refl _) (fun _ m => m) (fun _ m => .inl m) z fun vs H1 s1 e1 => ⟨by rw [e1.len, sizeLine_eq]; omega, fun p n => q p vs _ (s1.trans (same_new n)) (none_of s1 n) upd_same (e1.off (Off.same (same_new n))) e1.len⟩
end
end Gk
namespace Gk
open PySem PySem.Spec PyProof.Rows L2 HT
/-! ### a tuple from behind -/
section
variable {prog : Program} {w : World} {A : Around} {E : Value → Shared → Prop} {s : Shared}
theorem adjust_rev (n : Nat) : Builtin.Slice.sliceAdjust none none (-1) (n : Int) = ((n : Int) - 1, -1) := by
  have h1 : ((-1 : Int) < 0) := by decide
  unfold Builtin.Slice.sliceAdjust
  simp only [h1, if_true]
theorem places_rev (n : Nat) : Builtin.Slice.slicePlaces ((n : Int) - 1) (-1) (-1) = n := by
  unfold Builtin.Slice.slicePlaces
  have h1 : ¬ ((-1 : Int) > 0) := by decide
  have h2 : (-(-1) : Int) = 1 := by decide
  simp only [h1, if_false, h2, Int.ediv_one]
  split <;> omega
theorem applied_rev {sl : Addr} {vs : Value} {n : Nat} {Q : Int × Int × Nat → Shared → Prop} (hs : s.heap.IsSliceOf sl .none .none vs) (ps : IsPart vs (some (-1)))
    (h : Q ((n : Int) - 1, -1, n) s) : wpAny (model prog w) A (Builtin.Slice.sliceApplied (.ref sl) (pure (n : Int))) Q E s := by
  obtain ⟨os, hos, hcs, hds⟩ := id hs
  unfold Builtin.Slice.sliceApplied Builtin.Slice.sliceFields
  refine wpAny_bind (wpAny_bind (wpAny_field hos hds (x := .none) rfl (wpAny_bind (wpAny_field hos hds (x := .none) rfl (wpAny_bind (wpAny_field hos hds (x := vs) rfl (wpAny_pure ?_)))))))
  refine wpAny_bind (slicePart_ ps ?_)
  show wpAny _ _ (if ((-1 : Int) == 0) = true then _ else _) _ _ s
  rw [if_neg (by decide)]
  refine wpAny_bind (slicePart_none (wpAny_bind (slicePart_none (wpAny_bind (wpAny_pure ?_)))))
  show wpAny _ _ (match Builtin.Slice.sliceAdjust none none (-1) (n : Int) with | (lo, hi) => pure (lo, (-1 : Int), Builtin.Slice.slicePlaces lo hi (-1))) _ _ s
  rw [adjust_rev n]
  show wpAny _ _ (pure ((n : Int) - 1, (-1 : Int), Builtin.Slice.slicePlaces ((n : Int) - 1) (-1) (-1))) _ _ s
  rw [places_rev]
  exact wpAny_pure h
theorem fm_congr {α β : Type} {f g : α → Option β} : ∀ l : List α, (∀ m ∈ l, f m = g m) → l.filterMap f = l.filterMap g
  | [], _ => rfl
  | a :: l, h => by
    rw [List.filterMap_cons, List.filterMap_cons, h a List.mem_cons_self, fm_congr l fun m hm => h m (List.mem_cons_of_mem _ hm)]
theorem pick_rev (xs : Array Value) : ((List.range xs.size).filterMap fun (m : Nat) => xs[(((xs.size : Int) - 1) + (m : Int) * (-1)).toNat]?).toArray = xs.toList.reverse.toArray := by
  have e : ((List.range xs.size).filterMap fun (m : Nat) => xs[(((xs.size : Int) - 1) + (m : Int) * (-1)).toNat]?) = ((List.range xs.size).map fun k => xs.size - 1 - k).filterMap (xs[·]?) := by
    rw [List.filterMap_map]
    refine fm_congr _ fun m hm => ?_
    have hm := List.mem_range.mp hm
    show xs[(((xs.size : Int) - 1) + (m : Int) * (-1)).toNat]? = xs[xs.size - 1 - m]?
    have : (((xs.size : Int) - 1) + (m : Int) * (-1)).toNat = xs.size - 1 - m := by omega
    rw [this]
  rw [e, PySem.W.krv_range, List.filterMap_reverse, PySem.W.krv_all]
theorem getItem_tuple_rev {t sl : Addr} {items : Array Value} {vs : Value} {Q : Value → Shared → Prop} (ht : IsTup s.heap t items) (hs : s.heap.IsSliceOf sl .none .none vs) (ps : IsPart vs (some (-1)))
    (h : Q (.ref s.heap.objs.size) { s with heap := s.heap.push { cls := .type "tuple", data := .seq items.toList.reverse.toArray } })
    (hsz : items.size ≤ sizeLine) : wpAny (model prog w) A (getItem (.ref t) (.ref sl)) Q E s := by
  have htake : sizeOk (.seq items.toList.reverse.toArray) := by
    show items.toList.reverse.toArray.size ≤ sizeLine
    rw [List.size_toArray, List.length_reverse, Array.length_toList]
    exact hsz
  obtain ⟨os, hos, hcs, hds⟩ := id hs
  have hTs : s.TypeIs (.ref sl) "slice" := ⟨os, hos, hcs⟩
  unfold getItem
  try with_reducible refine wpAny_holding ?_
  first | refine wpAny_bind (wpAny_pure ?_) | skip
  refine wpAny_bind (wpAny_sequenceKey ht.typeIs (by decide) ?_)
  refine wpAny_bind (wpAny_callSpecial?_slot (name := Str.ofString "__getitem__") ht.typeIs PyProof.Rows.slot_tuple_getitem
    (wpAny_call_entry PyProof.Rows.slot_tuple_getitem ht.typeIs entry_tuple_getitem ?_ (args_tuple_getitem _ _)))
  show wpAny _ _ (Builtin.Tuple.tupleItemsOf (.ref t) >>= _) _ _ s
  refine wpAny_bind (tupleItemsOf_ ht ?_)
  refine wpAny_bind (wpAny_typeOf hTs ?_)
  rw [if_pos (by decide)]
  refine wpAny_bind (applied_rev hs ps ?_)
  have hno : ¬ (((((items.size : Int) - 1) : Int) == 0 && (-1 : Int) == 1 && items.size == items.size) = true) := by simp
  show wpAny _ _ (if ((((items.size : Int) - 1) : Int) == 0 && (-1 : Int) == 1 && items.size == items.size) = true then _ else _) _ _ s
  rw [if_neg hno, pick_rev]
  first
    | exact wpAny_bind (m := Builtin.Tuple.tupleExact _) (wpAny_newObj_type (wpAny_pure ⟨_, rfl, wpAny_pure h⟩) htake)
    | exact wpAny_bind (m := Builtin.Tuple.tupleExact _) (wpAny_newObj_type (wpAny_bind (wpAny_pure (wpAny_pure ⟨_, rfl, wpAny_pure h⟩))) htake)
    | exact wpAny_bind (wpAny_bind (m := Builtin.Tuple.tupleExact _) (wpAny_newObj_type (wpAny_pure (wpAny_pure ⟨_, rfl, wpAny_pure h⟩)) htake))
    | exact wpAny_bind (wpAny_bind (m := Builtin.Tuple.tupleExact _) (wpAny_newObj_type (wpAny_pure ⟨_, rfl, wpAny_pure h⟩) htake))
end
def tRevU (K : PySem.W.Frag) (te : TE) : TE := fun σ H Q => te σ H fun x H1 => ∃ a xs, x = .ref a ∧ SqT K H1 a xs ∧ ∀ p, H1 p = none → Q (.ref p) (upd H1 p (.tup xs.reverse))
theorem pe_revU {X : Cx} {e : Expr} {te : TE} {k : Nat} {p1 p2 p3 pos : Pos} (he : PE X e te) : PE X (.Subscript e (.Slice none none (some (.UnaryOp .USub (.Constant (.int 1) k p1) p2)) p3) pos) (tRevU X.K te) := by
  refine ⟨fun pins s σ H Q I h => ?_⟩
  refine Subscript_ (thn (he.run pins s σ H _ I h) fun v s1 ⟨x, H1, I1, r1, q1⟩ => ?_)
  obtain ⟨a, xs, ex, hx, q⟩ := q1
  subst ex
  cases r1
  have hst : PO X (some (.UnaryOp .USub (.Constant (.int 1) k p1) p2)) (tPart (tUn (rU fun i => .int (-i)) (tC (.int 1)))) := po_some (pe_un un_neg pe_int)
  refine wpAny_Slice (thn (po_none.run pins s1 σ H1 (fun o H2 => o = none ∧ H2 = H1) I1 ⟨rfl, rfl⟩) fun vl s2 ⟨l, H2, I2, pl, el, e2⟩ => ?_)
  subst el e2
  refine thn (po_none.run pins s2 σ H2 (fun o H3 => o = none ∧ H3 = H2) I2 ⟨rfl, rfl⟩) fun vu s3 ⟨u, H3, I3, pu, eu, e3⟩ => ?_
  subst eu e3
  refine thn (hst.run pins s3 σ H3 (fun o H4 => o = some (-1) ∧ H4 = H3) I3 ⟨1, rfl, -1, rfl, rfl, rfl⟩) fun vs s4 ⟨o, H4, I4, ps, eo, e4⟩ => ?_
  subst eo e4
  cases pl
  cases pu
  have I5 : Inv X pins σ H4 { s4 with heap := s4.heap.push { cls := .type "slice", data := .fields #[.none, .none, vs] } } := I4.kept (t' := s4.toks) fun b ob q => Heap.get?_push_of_some _ q
  obtain ⟨its, r, ht, hz⟩ := I5.tuple hx
  have hlen := r.length
  refine tail_any (ops := [.ref a, .ref s4.heap.objs.size]) ht.typeIs (PyProof.Rows.slot_tuple_getitem.lookup) ?_ (by with_unfolding_all rfl)
  refine getItem_tuple_rev ht (Heap.IsSliceOf.new _ .none .none vs) ps ?_ (by rw [List.size_toArray]; omega)
  refine ⟨.ref _, _, I5.laid (t' := s4.toks) (o := .tup xs.reverse) (fun b ob q => Heap.get?_push_of_some _ q) (Nat.le_refl _) ?_, rfl, q _ (I5.hok.fresh (Nat.le_refl _))⟩
  exact ⟨by rw [List.length_reverse]; exact hz, _, r.reverse, IsTup.new _ _⟩
/-! ### whether a tuple is not () -/
def rNe0 (K : PySem.W.Frag) : R2 := fun x y H Q => ∃ a b xs, x = .ref a ∧ y = .ref b ∧ SqT K H a xs ∧ SqT K H b [] ∧ Q (.bl (!decide (xs = []))) H
theorem op_ne0 {X : Cx} (hu : X.A.units < cLine) : OpR X (compareOp .NotEq) (rNe0 X.K) := by
  intro pins s σ H x y v u Q I rx ry h
  obtain ⟨a, b, xs, rfl, rfl, ha, hb, q⟩ := h
  cases rx
  cases ry
  obtain ⟨its, r1, p1, _⟩ := I.tuple ha
  obtain ⟨its2, r2, p2, _⟩ := I.tuple hb
  cases r2
  have t1 : s.heap.IsTuple a its.toArray := by
    obtain ⟨o, ho, hc, n, hd⟩ := p1
    exact ⟨o, ho, hc, n, hd⟩
  have t2 : s.heap.IsTuple b ([] : List Value).toArray := by
    obtain ⟨o, ho, hc, n, hd⟩ := p2
    exact ⟨o, ho, hc, n, hd⟩
  refine SeqAt.RcNeAt.tuples (e := fun _ => true) t1 t2 hu (fun j h1 h2 => absurd h2 (Nat.not_lt_zero _)) X.prog X.w X.xe (EP X pins σ Q) ⟨.bl _, H, I, ?_, q⟩
  have hl := r1.length
  show Value.bool _ = Value.bool _
  congr 1
  cases xs with
  | nil =>
    cases r1
    rfl
  | cons x xs =>
    cases r1
    simp
end Gk
namespace Gk
open PySem PySem.Spec PyProof.Rows L2
/-! ### a list from a tuple, its place told apart from the table of modules -/
def rLstN (K : PySem.W.Frag) : List V → Hp → VK → Prop := fun xs H Q => ∃ p ys, xs = [.ref p] ∧ SqT K H p ys ∧ ∀ l, H l = none → (l == sysModules) = false → Q (.ref l) (upd H l (.lst ys))
theorem call_listN {X : Cx} : CallR X (.type "list") (rLstN X.K) := by
  intro pins s σ H xs us Q I r h
  obtain ⟨p, ys, rfl, hq, q⟩ := h
  obtain ⟨u, rfl, rx⟩ := vals1 r
  cases rx
  obtain ⟨its, r', pl, hz⟩ := I.tuple hq
  have hlen := r'.length
  obtain ⟨o, ho, hc, n, hd⟩ := pl
  refine call_list_seq p (.inr rfl) ho hc hd (fun h' c' kp e => ?_) (by simp only [List.size_toArray] <;> omega)
  exact ⟨.ref s.heap.objs.size, _, I.laid (t' := s.toks) kp (Nat.le_refl _) (show ObjOk X.prog X.w _ h' _ (.lst ys) from ⟨hz, its, c', r', e⟩), rfl, q _ (I.hok.fresh (Nat.le_refl _)) (not_modules I)⟩
/-! ### readings, taken apart -/
theorem go_op {r : R2} {ta tb : TE} {σ : L2.St} {H : Hp} {Q : VK} (h : ta σ H fun x H1 => tb σ H1 fun y H2 => r x y H2 Q) : tOp r ta tb σ H Q := h
theorem go_ret {te : TE} {D : Ends} {σ : L2.St} {H : Hp} (h : te σ H D.rt) : tRet te D σ H := h
theorem go_asg {te : TE} {g : TG} {u : TS} {D : Ends} {σ : L2.St} {H : Hp} (h : te σ H fun v H' => g v σ H' (u D)) : tSeq (tAsg te g) u D σ H := h
theorem go_as {te : TE} {g : TG} {D : Ends} {σ : L2.St} {H : Hp} (h : te σ H fun v H' => g v σ H' D.nx) : tAsg te g D σ H := h
theorem go_name {i : Nat} {v : V} {σ : L2.St} {H : Hp} {Q : L2.St → Hp → Prop} (h : Q (σ.set i (some v)) H) : gName i v σ H Q := h
section
variable {M : Addr → Prop} {K : PySem.W.Frag} {σ : L2.St} {H H0 : Hp}
theorem tup_of {v : V} {ds : List PyData} (h : Dv M K H v (.tuple ds)) : ∃ a xs, v = .ref a ∧ SqT K H a xs ∧ (∀ H', Off M H H' → SqT K H' a xs) ∧ DvAll M K H xs ds := by
  cases h with
  | tup h n r => exact ⟨_, _, rfl, .inl h, fun H' k => .inl (k.rd n h), r⟩
  | tupK h r => exact ⟨_, _, rfl, .inr h, fun _ _ => .inr h, r⟩
theorem sq_tup {a : Addr} {xs : List V} (h : H a = some (.tup xs)) : SqT K H a xs := .inl (.inl h)
/-- a tuple that other rules made, as data -/
theorem dv_sq {a : Addr} {xs : List V} {ds : List PyData} (h : SqT K H a xs) (n : ¬ M a) (r : DvAll M K H xs ds) : Dv M K H (.ref a) (.tuple ds) := h.elim (fun h => .tup h n r) fun h => .tupK h r
/-- two tuples joined -/
theorem cat_go {x y : V} {ds es : List PyData} {Q : VK} (hx : Dv M K H x (.tuple ds)) (hy : Dv M K H y (.tuple es)) (l : ds.length + es.length ≤ 1000000) (z : Stands M H)
    (q : ∀ v H', Same H H' → Dv M K H' v (.tuple (ds ++ es)) → Q v H') : rCatA K x y H Q := by
  obtain ⟨a, xs, rfl, ha, na, da⟩ := tup_of hx
  obtain ⟨b, ys, rfl, hb, nb, db⟩ := tup_of hy
  have l1 := da.len
  have l2 := db.len
  refine ⟨a, b, xs, ys, rfl, rfl, ha, hb, by rw [sizeLine_eq]; omega, fun e => ?_, fun _ e => ?_, fun _ _ p n => q _ _ (same_new n) (.tup (.inl upd_same) (z.new n) ((da.app db).off (Off.same (same_new n))))⟩
  · subst e
    cases da
    exact q _ _ (Same.refl _) hy
  · subst e
    cases db
    rw [List.append_nil] at q
    exact q _ _ (Same.refl _) hx
theorem mk_cat {t u : TE} {ds es : List PyData} (h : Mk M K t σ H0 (.tuple ds)) (g : Mk M K u σ H0 (.tuple es)) (l : ds.length + es.length ≤ 1000000) : Mk M K (tOp (rCatA K) t u) σ H0 (.tuple (ds ++ es)) := fun H M' Q s u' w z q =>
  h H M' _ s u' w z fun v1 H1 s1 d1 => g H1 M' _ (s.trans s1) u' w (z.same s1) fun v2 H2 s2 d2 => cat_go (d1.off (Off.same s2)) d2 l ((z.same s1).same s2) fun v H' s3 d3 => q _ _ ((s1.trans s2).trans s3) d3
/-- a bound that is read -/
def Pt (tl : TO) (σ : L2.St) (o : Option Int) : Prop := ∀ H Q, Q o H → tl σ H Q
theorem pt_none : Pt tNoPart σ none := fun _ _ q => q
theorem pt_v {i : Nat} {n : Int} (e : σ[i]? = some (some (.int n))) : Pt (tPart (tVar i)) σ (some n) := fun _ _ q => ⟨_, e, n, rfl, q⟩
theorem pt_v1 {i : Nat} {n : Int} (e : σ[i]? = some (some (.int n))) : Pt (tPart (tOp (rI0 fun i j => .int (i + j)) (tVar i) (tC (.int 1)))) σ (some (n + 1)) := fun _ _ q => ⟨_, e, n, 1, rfl, rfl, _, rfl, q⟩
def cutD {α : Type} (xs : List α) (lo hi : Option Int) : List α := (xs.drop (HT.sIx xs.length 0 lo)).take (HT.sIx xs.length xs.length hi - HT.sIx xs.length 0 lo)
theorem cutD_to {α : Type} {xs : List α} (n : Nat) : cutD xs none (some (n : Int)) = xs.take n := by
  unfold cutD
  rw [HT.sIx_none, HT.sIx_nat]
  show ((xs.drop 0).take (min n xs.length - 0)) = _
  rw [List.drop_zero, Nat.sub_zero, Nat.min_comm, List.take_eq_take_iff]
  omega
theorem cutD_from {α : Type} {xs : List α} (n : Nat) : cutD xs (some (n : Int)) none = xs.drop n := by
  unfold cutD
  rw [HT.sIx_none, HT.sIx_nat]
  by_cases h : n ≤ xs.length
  · rw [Nat.min_eq_left h, List.take_of_length_le (by rw [List.length_drop]; exact Nat.le_refl _)]
  · rw [Nat.min_eq_right (by omega), List.drop_eq_nil_of_le (Nat.le_refl _), List.drop_eq_nil_of_le (by omega)]
    exact List.take_nil
theorem mk_cut {t : TE} {tl th : TO} {lo hi : Option Int} {ds : List PyData} (h : Mk M K t σ H0 (.tuple ds)) (pl : Pt tl σ lo) (ph : Pt th σ hi) : Mk M K (tSl (rSlA K) t tl th) σ H0 (.tuple (cutD ds lo hi)) := fun H M' Q s u w z q =>
  h H M' _ s u w z fun v1 H1 s1 d1 => pl _ _ (ph _ _ (by
    obtain ⟨a, xs, rfl, ha, na, da⟩ := tup_of d1
    have l1 := da.len
    refine ⟨a, xs, rfl, ha, fun e => ?_, fun _ p n => q _ _ (s1.trans (same_new n)) (.tup (.inl upd_same) ((z.same s1).new n) ?_)⟩
    · have : cutD ds lo hi = ds := by
        unfold cutD
        rw [← l1, e.1, e.2, List.drop_zero, Nat.sub_zero]
        exact List.take_of_length_le (Nat.le_of_eq l1.symm)
      rw [this] at q
      exact q _ _ s1 d1
    · refine DvAll.off ?_ (Off.same (same_new n))
      unfold cutV cutD
      rw [l1]
      exact (da.drop _).take _))
theorem mk_to {t : TE} {tl th : TO} {n : Nat} {ds : List PyData} (h : Mk M K t σ H0 (.tuple ds)) (pl : Pt tl σ none) (ph : Pt th σ (some (n : Int))) : Mk M K (tSl (rSlA K) t tl th) σ H0 (.tuple (ds.take n)) := by
  have := mk_cut h pl ph
  rwa [cutD_to] at this
theorem mk_from {t : TE} {tl th : TO} {n : Nat} {ds : List PyData} (h : Mk M K t σ H0 (.tuple ds)) (pl : Pt tl σ (some (n : Int))) (ph : Pt th σ none) : Mk M K (tSl (rSlA K) t tl th) σ H0 (.tuple (ds.drop n)) := by
  have := mk_cut h pl ph
  rwa [cutD_from] at this
theorem mk_rev {t : TE} {ds : List PyData} (h : Mk M K t σ H0 (.tuple ds)) : Mk M K (tRevU K t) σ H0 (.tuple ds.reverse) := fun H M' Q s u w z q =>
  h H M' _ s u w z fun v1 H1 s1 d1 => by
    obtain ⟨a, xs, rfl, ha, na, da⟩ := tup_of d1
    exact ⟨a, xs, rfl, ha, fun p n => q _ _ (s1.trans (same_new n)) (.tup (.inl upd_same) ((z.same s1).new n) (da.rev.off (Off.same (same_new n))))⟩
theorem mk_list {t : TE} {ds : List PyData} (h : Mk M K t σ H0 (.tuple ds)) : Mk M K (tCB (rLstN K) (tCons t tNil)) σ H0 (.list ds) := fun H M' Q s u w z q =>
  h H M' _ s u w z fun v1 H1 s1 d1 => by
    obtain ⟨a, xs, rfl, ha, na, da⟩ := tup_of d1
    exact ⟨a, xs, rfl, ha, fun p n y => q _ _ (s1.trans (same_new n)) (.lst upd_same ((z.same s1).new n) y (da.off (Off.same (same_new n))))⟩
/-- a plain value that is read -/
theorem mk_gv {t : TE} {v : V} {d : PyData} (g : ∀ H Q, Q v H → t σ H Q) (h : ∀ M H, Dv M K H v d) : Mk M K t σ H0 d := fun H M' Q s u w z q => g _ _ (q _ _ (Same.refl _) (h M' H))
end
/-! ### sizes -/
theorem int_cps (i : Int) : fin (.str (Str.ofString (toString i))) 0 = true := by
  simp only [fin, Array.all_eq_true', decide_eq_true_eq]
  intro c hc
  refine Nat.lt_of_not_le fun h => int_text_free' c ⟨by omega, .inr (by omega)⟩ i ?_
  exact Array.mem_toList_iff.mpr hc
mutual
theorem fin_mono {B C : Nat} (h : B ≤ C) : ∀ d : PyData, fin d B = true → fin d C = true
  | .none, _ => rfl
  | .bool _, _ => rfl
  | .int i, g => by
    simp only [fin, decide_eq_true_eq] at g ⊢
    omega
  | .str x, g => by simpa only [fin] using g
  | .list xs, g => by
    simp only [fin] at g ⊢
    exact fin_monoAll h xs g
  | .tuple xs, g => by
    simp only [fin] at g ⊢
    exact fin_monoAll h xs g
  | .dict kvs, g => by
    simp only [fin] at g ⊢
    exact fin_monoKv h kvs g
theorem fin_monoAll {B C : Nat} (h : B ≤ C) : ∀ ds : List PyData, finAll ds B = true → finAll ds C = true
  | [], _ => rfl
  | x :: xs, g => by
    simp only [finAll, Bool.and_eq_true] at g ⊢
    exact ⟨fin_mono h x g.1, fin_monoAll h xs g.2⟩
theorem fin_monoKv {B C : Nat} (h : B ≤ C) : ∀ kvs : List (PyData × PyData), finKv kvs B = true → finKv kvs C = true
  | [], _ => rfl
  | (k, v) :: r, g => by
    simp only [finKv, Bool.and_eq_true] at g ⊢
    exact ⟨⟨fin_mono h k g.1.1, fin_mono h v g.1.2⟩, fin_monoKv h r g.2⟩
end
theorem finAll_iff {B : Nat} : ∀ {ds : List PyData}, finAll ds B = true ↔ ∀ d ∈ ds, fin d B = true
  | [] => by simp [finAll]
  | x :: xs => by
    simp only [finAll, Bool.and_eq_true, List.mem_cons, forall_eq_or_imp]
    rw [finAll_iff]
theorem bigAll_app : ∀ ds es : List PyData, bigAll (ds ++ es) + 1 = bigAll ds + bigAll es
  | [], es => by simp only [List.nil_append, bigAll]; omega
  | d :: ds, es => by
    have := bigAll_app ds es
    simp only [List.cons_append, bigAll]
    omega
theorem bigAll_rev : ∀ ds : List PyData, bigAll ds.reverse = bigAll ds
  | [] => rfl
  | d :: ds => by
    have := bigAll_app ds.reverse [d]
    have h := bigAll_rev ds
    rw [List.reverse_cons]
    simp only [bigAll] at this ⊢
    omega
theorem bigAll_len : ∀ ds : List PyData, ds.length + 1 ≤ bigAll ds
  | [] => Nat.le_refl _
  | d :: ds => by
    have := bigAll_len ds
    simp only [List.length_cons, bigAll]
    omega
theorem bigAll_split (ds : List PyData) (n : Nat) : bigAll (ds.take n) + bigAll (ds.drop n) = bigAll ds + 1 := by
  have := bigAll_app (ds.take n) (ds.drop n)
  rw [List.take_append_drop] at this
  omega
theorem depthAll_iff {n : Nat} : ∀ {ds : List PyData}, PyData.depthAll ds ≤ n ↔ ∀ d ∈ ds, d.depth ≤ n
  | [] => by simp [PyData.depthAll]
  | x :: xs => by
    simp only [PyData.depthAll, List.mem_cons, forall_eq_or_imp]
    rw [← depthAll_iff (ds := xs)]
    omega
end Gk
namespace Gk
open PySem PySem.Spec PyProof.Rows L2
/-! ### what is bent stays small -/
theorem depth_tup (ds : List PyData) : (PyData.tuple ds).depth = PyData.depthAll ds + 1 := by simp only [PyData.depth]
theorem depth_lst (ds : List PyData) : (PyData.list ds).depth = PyData.depthAll ds + 1 := by simp only [PyData.depth]
theorem el_ok {ds : List PyData} {d : PyData} {B : Nat} (f : fin (.tuple ds) B = true) (h : d ∈ ds) : fin d B = true ∧ d.depth + 1 ≤ (PyData.tuple ds).depth := by
  simp only [fin] at f
  refine ⟨finAll_iff.mp f d h, ?_⟩
  rw [depth_tup]
  exact Nat.succ_le_succ (depthAll_iff.mp (Nat.le_refl _) d h)
theorem drop_at {α : Type} {ds : List α} {i : Nat} {d : α} (g : ds[i]? = some d) : ds.drop i = d :: ds.drop (i + 1) := by
  obtain ⟨hi, e⟩ := List.getElem?_eq_some_iff.mp g
  rw [List.drop_eq_getElem_cons hi, e]
theorem el_big {ds : List PyData} {i : Nat} {d : PyData} (g : ds[i]? = some d) : bigAll (ds.take i) + big d + bigAll (ds.drop (i + 1)) = bigAll ds := by
  have h := bigAll_split ds i
  rw [drop_at g] at h
  simp only [bigAll] at h
  omega
theorem el_le {ds : List PyData} {i : Nat} {d : PyData} (g : ds[i]? = some d) : big d ≤ big (.tuple ds) := by
  have h := el_big g
  simp only [big]
  omega
/-- one item put for another -/
theorem put_ok {ds : List PyData} {i : Nat} {d e : PyData} {B : Nat} (g : ds[i]? = some d) (f : fin (.tuple ds) B = true) (f1 : fin e (B + 1) = true) (f2 : e.depth ≤ d.depth + 9) (f3 : big e ≤ 2 * big d + 1100) :
    fin (.tuple (ds.take i ++ [e] ++ ds.drop (i + 1))) (B + 1) = true ∧ (PyData.tuple (ds.take i ++ [e] ++ ds.drop (i + 1))).depth ≤ (PyData.tuple ds).depth + 9 ∧ big (.tuple (ds.take i ++ [e] ++ ds.drop (i + 1))) ≤ 2 * big (.tuple ds) + 1100 := by
  have hm := List.mem_of_getElem? g
  have ok := el_ok f hm
  refine ⟨?_, ?_, ?_⟩
  · simp only [fin]
    refine finAll_iff.mpr fun x hx => ?_
    simp only [List.mem_append, List.mem_cons, List.not_mem_nil, or_false] at hx
    rcases hx with (hx | rfl) | hx
    · exact fin_mono (Nat.le_succ B) _ (el_ok f (List.mem_of_mem_take hx)).1
    · exact f1
    · exact fin_mono (Nat.le_succ B) _ (el_ok f (List.mem_of_mem_drop hx)).1
  · rw [depth_tup (ds.take i ++ [e] ++ ds.drop (i + 1))]
    have : PyData.depthAll (ds.take i ++ [e] ++ ds.drop (i + 1)) ≤ (PyData.tuple ds).depth + 8 := depthAll_iff.mpr fun x hx => by
      simp only [List.mem_append, List.mem_cons, List.not_mem_nil, or_false] at hx
      rcases hx with (hx | rfl) | hx
      · have := (el_ok f (List.mem_of_mem_take hx)).2
        omega
      · omega
      · have := (el_ok f (List.mem_of_mem_drop hx)).2
        omega
    omega
  · have h1 := bigAll_app (ds.take i ++ [e]) (ds.drop (i + 1))
    have h2 := bigAll_app (ds.take i) [e]
    have h3 := el_big g
    simp only [bigAll] at h2
    simp only [big]
    omega
/-- items left out, twice, turned round, as a list -/
theorem sub_ok {ds : List PyData} {i : Nat} {e : PyData} {B : Nat} (f : fin (.tuple ds) B = true) (h : e ∈ [PyData.tuple (ds.take i ++ ds.drop (i + 1)), .tuple (ds.take (i + 1) ++ ds.drop i), .tuple ds.reverse, .list ds]) :
    fin e (B + 1) = true ∧ e.depth ≤ (PyData.tuple ds).depth + 9 ∧ big e ≤ 2 * big (.tuple ds) + 1100 := by
  have go : ∀ es : List PyData, (∀ x ∈ es, x ∈ ds) → finAll es (B + 1) = true ∧ PyData.depthAll es ≤ PyData.depthAll ds := fun es s =>
    ⟨finAll_iff.mpr fun x hx => fin_mono (Nat.le_succ B) _ (el_ok f (s x hx)).1, depthAll_iff.mpr fun x hx => depthAll_iff.mp (Nat.le_refl _) x (s x hx)⟩
  have a1 := bigAll_app (ds.take i) (ds.drop (i + 1))
  have a2 := bigAll_app (ds.take (i + 1)) (ds.drop i)
  have b1 := bigAll_split ds i
  have b2 := bigAll_split ds (i + 1)
  have c1 := bigAll_len (ds.take i)
  have c2 := bigAll_len (ds.drop i)
  have c3 := bigAll_len (ds.take (i + 1))
  have c4 := bigAll_len (ds.drop (i + 1))
  have mono : bigAll (ds.drop (i + 1)) ≤ bigAll (ds.drop i) := by
    cases g : ds[i]? with
    | some d =>
      rw [drop_at g]
      simp only [bigAll]
      omega
    | none =>
      have := List.getElem?_eq_none_iff.mp g
      rw [List.drop_eq_nil_of_le this, List.drop_eq_nil_of_le (by omega)]
      exact Nat.le_refl _
  simp only [List.mem_cons, List.not_mem_nil, or_false] at h
  rcases h with rfl | rfl | rfl | rfl
  · obtain ⟨g1, g2⟩ := go (ds.take i ++ ds.drop (i + 1)) fun x hx => (List.mem_append.mp hx).elim List.mem_of_mem_take List.mem_of_mem_drop
    refine ⟨by simpa only [fin] using g1, by rw [depth_tup, depth_tup]; omega, by simp only [big]; omega⟩
  · obtain ⟨g1, g2⟩ := go (ds.take (i + 1) ++ ds.drop i) fun x hx => (List.mem_append.mp hx).elim List.mem_of_mem_take List.mem_of_mem_drop
    refine ⟨by simpa only [fin] using g1, by rw [depth_tup, depth_tup]; omega, by simp only [big]; omega⟩
  · obtain ⟨g1, g2⟩ := go ds.reverse fun x hx => List.mem_reverse.mp hx
    refine ⟨by simpa only [fin] using g1, by rw [depth_tup, depth_tup]; omega, by simp only [big, bigAll_rev]; omega⟩
  · obtain ⟨g1, g2⟩ := go ds fun x hx => hx
    refine ⟨by simpa only [fin] using g1, by rw [depth_tup, depth_lst]; omega, by simp only [big]; omega⟩
/-- what an int is bent to -/
theorem int_ok {i : Int} {e : PyData} {B : Nat} (f : fin (.int i) B = true) (hB : 10 ^ 17 ≤ B) (hC : B ≤ 10 ^ 19)
    (h : e ∈ [PyData.int (i + 1), .int (i - 1), .int (1 - i), .bool (decide (V.int i = V.int 1)), .str (Str.ofString (toString i)), .tuple [.int i], .none, .int 64, .int 65]) :
    fin e (B + 1) = true ∧ e.depth ≤ (PyData.int i).depth + 9 ∧ big e ≤ 2 * big (.int i) + 1100 := by
  have hi : i.natAbs ≤ B := by simpa only [fin, decide_eq_true_eq] using f
  have bi : big (.int i) = 70 := rfl
  have dz : ∀ j : Int, (PyData.int j).depth = 0 := fun j => by simp only [PyData.depth]
  have fi : ∀ j : Int, j.natAbs ≤ B + 1 → fin (.int j) (B + 1) = true := fun j hj => by simpa only [fin, decide_eq_true_eq] using hj
  simp only [List.mem_cons, List.not_mem_nil, or_false] at h
  rcases h with rfl | rfl | rfl | rfl | rfl | rfl | rfl | rfl | rfl
  · exact ⟨fi _ (by omega), by rw [dz]; omega, by simp only [big]; omega⟩
  · exact ⟨fi _ (by omega), by rw [dz]; omega, by simp only [big]; omega⟩
  · exact ⟨fi _ (by omega), by rw [dz]; omega, by simp only [big]; omega⟩
  · exact ⟨rfl, by simp only [PyData.depth]; omega, by simp only [big]; omega⟩
  · refine ⟨fin_mono (Nat.zero_le _) _ (int_cps i), by simp only [PyData.depth]; omega, ?_⟩
    have h1 := int_len20 (c := i) (by omega)
    have h2 : (Str.ofString (toString i)).cps.size ≤ 21 := h1
    simp only [big]
    omega
  · refine ⟨by simp only [fin, finAll, Bool.and_true]; exact fi i (by omega), by rw [depth_tup]; simp only [PyData.depthAll, dz]; omega, by simp only [big, bigAll]; omega⟩
  · exact ⟨rfl, by simp only [PyData.depth]; omega, by simp only [big]; omega⟩
  · exact ⟨fi _ (by omega), by rw [dz]; omega, by simp only [big]; omega⟩
  · exact ⟨fi _ (by omega), by rw [dz]; omega, by simp only [big]; omega⟩
end Gk
namespace Gk
open PySem PySem.Spec PyProof.Rows L2
theorem stands_box {m : Nat} {H : Hp} {b : Addr} (h : Box m H b) : Stands (fun a => a = b) H := by
  rintro a rfl
  obtain ⟨x, y, z, e, _⟩ := h
  exact ⟨_, e⟩
theorem Stands.but {M : Addr → Prop} {H H' : Hp} {b : Addr} {m : Nat} (h : Stands M H) (bt : But b H H') (bx : Box m H' b) : Stands M H' := fun a ma => by
  by_cases e : a = b
  · subst e
    obtain ⟨x, y, z, e, _⟩ := bx
    exact ⟨_, e⟩
  · obtain ⟨o, eo⟩ := h a ma
    exact ⟨o, bt a o e eo⟩
theorem Stands.or {M : Addr → Prop} {H : Hp} {p : Addr} {o : HO} (h : Stands M H) (e : H p = some o) : Stands (fun a => M a ∨ a = p) H := fun a ma => ma.elim (h a) fun z => ⟨o, by rw [z]; exact e⟩
/-- what M speaks of are lists -/
def Lists (M : Addr → Prop) (H : Hp) : Prop := ∀ a, M a → ∃ xs, H a = some (.lst xs)
theorem Lists.not {M : Addr → Prop} {K : PySem.W.Frag} {H : Hp} {a : Addr} {xs : List V} (h : Lists M H) (r : Rd H a (.tup xs)) : ¬ M a := fun m => by
  obtain ⟨ys, e⟩ := h a m
  rcases r with r | ⟨o, r⟩ <;> rw [e] at r <;> cases r
mutual
/-- tuples wherever they stand, as data -/
theorem dv_dp {M : Addr → Prop} {K : PySem.W.Frag} {H : Hp} (l : Lists M H) : ∀ (d : PyData) (v : V), tups d = true → Dp K H v d → Dv M K H v d
  | .none, _, _, h => by cases h; exact .non
  | .bool _, _, _, h => by cases h; exact .bl _
  | .int _, _, _, h => by cases h; exact .int _
  | .str _, _, _, h => by cases h; exact .str _
  | .list _, _, t, _ => by simp [tups] at t
  | .dict _, _, t, _ => by simp [tups] at t
  | .tuple ds, _, t, h => by
    cases h with
    | tup hs r =>
      have r' := dv_dpAll l ds _ (by simpa only [tups] using t) r
      rcases hs with hs | hs
      · exact .tup hs (l.not (K := K) hs) r'
      · exact .tupK hs r'
theorem dv_dpAll {M : Addr → Prop} {K : PySem.W.Frag} {H : Hp} (l : Lists M H) : ∀ (ds : List PyData) (vs : List V), tupsAll ds = true → DpAll K H vs ds → DvAll M K H vs ds
  | [], _, _, h => by cases h; exact .nil
  | d :: ds, _, t, h => by
    simp only [tupsAll, Bool.and_eq_true] at t
    cases h with
    | cons h1 h2 => exact .cons (dv_dp l d _ t.1 h1) (dv_dpAll l ds _ t.2 h2)
end
end Gk
namespace Pf
open PySem PySem.Spec PyProof.Rows L2 Gk
abbrev sAny : Stmt := topS 20
theorem scAny : FnScope ["_law_box_here", "_law_some", "_law_found", "_law_turn"] ["_law_box_here"] (defScope sAny) := ⟨rfl, rfl, rfl, by decide +kernel, rfl, by decide +kernel, by decide +kernel⟩
def anyA : List PyData := [.none, .bool true, .bool false, .int 0, .int 1, .int (-1), .int 2, .int 7, .int 8, .int 64, .int 65, .int (10 ^ (17 : Int).toNat), .str "", .str "0", .str "own", .str "01", .tuple [], .list [], .dict [], .tuple [.int 0, .int 1], .list [.int 0, .int 1]]
def anyB : List PyData := [.tuple [.tuple [.int 0, .int 1]], .tuple [.str "own", .int 1], .tuple [.str "shared", .int 2], .tuple [.int 2, .int 1], .dict [(.str "a", .int 1)], .tuple [.str "folded", .int 1, .int 1], .tuple [.int 1, .int 1, .int 0]]
theorem any_ok : ((anyA ++ anyB).all fun d => fin d (10 ^ 17) && decide (d.depth ≤ 2) && decide (big d ≤ 400)) = true := by decide +kernel
section
variable {P : Program} {w : World} {K : PySem.W.Frag} {mg : Str → Option Value} {base : Heap}
def spAny (K : PySem.W.Frag) : Sp := fun vs H Q _ => ∃ (M : Addr → Prop) (b : Addr) (m : Nat), vs = [.ref b] ∧ M b ∧ Stands M H ∧ Box m H b ∧ m ≤ 990000 ∧
  ∀ H' v d, But b H H' → Box (m + 20) H' b → Dv M K H' v d → fin d (10 ^ 17) = true → d.depth ≤ 8 → big d ≤ 1000 → Q v H'
theorem dct_a {M : Addr → Prop} {H : Hp} {a : Addr} {v : V} {d : PyData} (h : H a = some (.dK [(Sum.inr "a", v)])) (n : ¬ M a) (hv : Dv M K H v d) : Dv M K H (.ref a) (.dict [(.str "a", d)]) :=
  .dct (ks := ["a"]) (xs := [v]) (ds := [d]) h n rfl rfl (.cons hv .nil)
/-- one of some made things -/
theorem choose {M : Addr → Prop} {ts : TA} {ds : List PyData} {σ : L2.St} {H : Hp} {Q : VK} {i m : Nat} {b : Addr} (eb : σ[i]? = some (some (.ref b))) (h : MkA M K ts σ H ds) (hb : Box m H b) (hMb : M b) (hS : Stands M H) (l0 : 0 < ds.length) (l : ds.length ≤ 1000) (hm : m < 1000000000)
    (q : ∀ v d H', d ∈ ds → But b H H' → Box (m + 1) H' b → Dv M K H' v d → Q v H') : tCall (spOf K) [] E0 (tCons (tVar i) (tCons (tLst ts) tNil)) σ H Q := by
  refine ⟨.ref b, eb, mk_some h hS l fun p xs H1 s1 n1 e1 d1 l1 => ⟨b, p, xs, m, rfl, SqL.of e1, fun z => hb.ne n1 z.symm, by omega, by omega, hb.same s1, hm, fun i v H2 g bt bx same => ?_⟩⟩
  obtain ⟨d, gd, dv⟩ := d1.at g
  exact q v d H2 (List.mem_of_getElem? gd) (fun x o n e => bt x o n (s1 _ _ e)) bx (dv.off (Off.but bt hMb))
theorem nest_ok {d e : PyData} {n c : Nat} (f1 : fin d (10 ^ 17) = true) (f2 : d.depth ≤ n) (f3 : big d ≤ c) (h : e ∈ [PyData.tuple [d], .list [d], .dict [(.str "a", d)], .tuple [d, .int 1]]) : fin e (10 ^ 17) = true ∧ e.depth ≤ n + 1 ∧ big e ≤ c + 100 := by
  have fa : fin (.str "a") (10 ^ 17) = true := by decide +kernel
  have ba : big (.str "a") = 2 := by decide +kernel
  have fo : fin (.int 1) (10 ^ 17) = true := by decide +kernel
  have bo : big (.int 1) = 70 := rfl
  simp only [List.mem_cons, List.not_mem_nil, or_false] at h
  rcases h with rfl | rfl | rfl | rfl
  · refine ⟨by simp only [fin, finAll, f1, Bool.and_self], ?_, by simp only [big, bigAll]; omega⟩
    simp only [PyData.depth, PyData.depthAll]; omega
  · refine ⟨by simp only [fin, finAll, f1, Bool.and_self], ?_, by simp only [big, bigAll]; omega⟩
    simp only [PyData.depth, PyData.depthAll]; omega
  · refine ⟨by simp only [fin, finKv, f1, Bool.and_self, Bool.and_true] ; exact fa, ?_, by simp only [big, bigKv]; have := ba; simp only [big] at this; omega⟩
    simp only [PyData.depth, PyData.depthKv]; omega
  · refine ⟨by simp only [fin, finAll, f1, Bool.true_and, Bool.and_true]; exact fo, ?_, by simp only [big, bigAll]; omega⟩
    simp only [PyData.depth, PyData.depthAll]; omega
theorem ok_any {f : Addr} {fd : FuncData} (DO : Dfn P w K mg base 2 "_law_of" ["_law_box_here", "_law_some"] (spOf K)) (mr : mg "range" = none)
    (F : L2.Fun K "_law_any" "_law_any" sAny f fd) : FnOk P w K mg base L2.CX0 3 f fd ["_law_box_here"] (spAny K) := by
  refine F.ok scAny (fun vs H Q E h => ?_) (fun cdv A outer s H vs Q E hr h => ?_)
  · obtain ⟨M, b, m, rfl, _⟩ := h
    rfl
  · obtain ⟨M, b, m, rfl, hMb, z0, hb, hm, q⟩ := h
    refine ⟨_, pss_cons (ps_set (i := 1) scAny.nd rfl (.inl rfl) (pe_lst (pa_cons pe_non (pa_cons pe_bl (pa_cons pe_bl (pa_cons pe_int (pa_cons pe_int (pa_cons (pe_un un_neg pe_int) (pa_cons pe_int (pa_cons pe_int (pa_cons pe_int (pa_cons pe_int (pa_cons pe_int (pa_cons (pe_op op_pow pe_int pe_int)
          (pa_cons pe_str (pa_cons pe_str (pa_cons pe_str (pa_cons pe_str (pa_cons (pe_tup pa_nil) (pa_cons (pe_lstN pa_nil) (pa_cons pe_dnewK (pa_cons (pe_tup (pa_cons pe_int (pa_cons pe_int pa_nil))) (pa_cons (pe_lstN (pa_cons pe_int (pa_cons pe_int pa_nil))) pa_nil)))))))))))))))))))))))
      (C8.pss_cut (ps_set (i := 2) scAny.nd rfl (.inl rfl) (pe_d DO hr (by decide) (by rfl) (pa_cons (pv 0) (pa_cons (pe_op op_cat (pv 1) (pe_lst (pa_cons (pe_tup (pa_cons (pe_tup (pa_cons pe_int (pa_cons pe_int pa_nil))) pa_nil)) (pa_cons (pe_tup (pa_cons pe_str (pa_cons pe_int pa_nil))) (pa_cons (pe_tup (pa_cons pe_str (pa_cons pe_int pa_nil)))
          (pa_cons (pe_tup (pa_cons pe_int (pa_cons pe_int pa_nil))) (pa_cons (pe_disp (pps_cons pe_str pe_int pps_nil) (by rfl) (by rfl) (fun z => by cases z) (by decide)) (pa_cons (pe_tup (pa_cons pe_str (pa_cons pe_int (pa_cons pe_int pa_nil)))) (pa_cons (pe_tup (pa_cons pe_int (pa_cons pe_int (pa_cons pe_int pa_nil)))) pa_nil))))))))) pa_nil))))
      (pss_cons (ps_for PassesOwn.never rfl (pi_range1 rfl mr (pa_cons (pe_mid (pe_d DO hr (by decide) (by rfl) (pa_cons (pv 0) (pa_cons (pe_lst (pa_cons pe_int (pa_cons pe_int (pa_cons pe_int (pa_cons pe_int (pa_cons pe_int (pa_cons pe_int pa_nil))))))) pa_nil)))) pa_nil)) (pg_name (i := 3) scAny.nd rfl (.inl rfl))
        (pss_one (ps_set (i := 2) scAny.nd rfl (.inl rfl) (pe_d DO hr (by decide) (by rfl) (pa_cons (pv 0) (pa_cons (pe_lst (pa_cons (pe_tup (pa_cons (pv 2) pa_nil)) (pa_cons (pe_lstN (pa_cons (pv 2) pa_nil)) (pa_cons (pe_disp (pps_cons pe_str (pv 2) pps_nil) (by rfl) (by rfl) (fun z => by cases z) (by decide)) (pa_cons (pe_tup (pa_cons (pv 2) (pa_cons pe_int pa_nil))) pa_nil))))) pa_nil))))))
      (pss_one (ps_ret (pv 2))))), ?_⟩
    refine go_asg ?_
    refine mk_some (K := K) (ds := anyA) (mkA_cons mk_non (mkA_cons mk_bl (mkA_cons mk_bl (mkA_cons mk_int (mkA_cons mk_int (mkA_cons mk_neg (mkA_cons mk_int (mkA_cons mk_int (mkA_cons mk_int (mkA_cons mk_int (mkA_cons mk_int (mkA_cons (mk_pow ⟨by decide, by decide, by decide⟩) (mkA_cons mk_str (mkA_cons mk_str (mkA_cons mk_str (mkA_cons mk_str
      (mkA_cons (mk_tup mkA_nil (by decide)) (mkA_cons (mk_lst mkA_nil (by decide)) (mkA_cons mk_dct0 (mkA_cons (mk_tup (mkA_cons mk_int (mkA_cons mk_int mkA_nil)) (by decide)) (mkA_cons (mk_lst (mkA_cons mk_int (mkA_cons mk_int mkA_nil)) (by decide)) mkA_nil))))))))))))))))))))) z0 (by decide) fun a xs H1 s1 n1 e1 d1 l1 => ?_
    have hb1 := hb.same s1
    have ab : a ≠ b := fun z => hb.ne n1 z.symm
    refine ⟨fun σ' H' => ∃ v d, σ' = [some (.ref b), some (.ref a), some v, none] ∧ But b H H' ∧ Box (m + 1) H' b ∧ Dv M K H' v d ∧ fin d (10 ^ 17) = true ∧ d.depth ≤ 2 ∧ big d ≤ 400, ?_, fun σ' H' hM => ?_⟩
    · refine go_as ?_
      refine ⟨.ref b, rfl, .ref a, rfl, mk_some (K := K) (ds := anyB) (mkA_cons (mk_tup (mkA_cons (mk_tup (mkA_cons mk_int (mkA_cons mk_int mkA_nil)) (by decide)) mkA_nil) (by decide)) (mkA_cons (mk_tup (mkA_cons mk_str (mkA_cons mk_int mkA_nil)) (by decide)) (mkA_cons (mk_tup (mkA_cons mk_str (mkA_cons mk_int mkA_nil)) (by decide))
        (mkA_cons (mk_tup (mkA_cons mk_int (mkA_cons mk_int mkA_nil)) (by decide)) (mkA_cons (mk_dct mk_int) (mkA_cons (mk_tup (mkA_cons mk_str (mkA_cons mk_int (mkA_cons mk_int mkA_nil))) (by decide)) (mkA_cons (mk_tup (mkA_cons mk_int (mkA_cons mk_int (mkA_cons mk_int mkA_nil))) (by decide)) mkA_nil)))))))
        (z0.same s1) (by decide) fun p ys H2 s2 n2 e2 d2 l2 => ?_⟩
      have hx : xs.length = 21 := l1
      have hy : ys.length = 7 := l2
      refine ⟨a, p, xs, ys, rfl, rfl, s2 _ _ e1, e2, by rw [hx, hy, sizeLine_eq]; decide, fun r nr => ?_⟩
      have s3 := same_new (o := HO.lst (xs ++ ys)) nr
      have hb3 := (hb1.same s2).same s3
      refine ⟨b, r, xs ++ ys, m, rfl, SqL.of upd_same, fun z => ((hb1.same s2).ne nr) z.symm, by rw [List.length_append, hx, hy]; decide, by rw [List.length_append, hx, hy]; decide, hb3, by omega, fun i v H4 g bt bx same => ?_⟩
      have dall := (DvAll.app (d1.off (Off.same s2)) d2).off (Off.same s3)
      obtain ⟨d, gd, dv⟩ := dall.at g
      have dm := List.mem_of_getElem? gd
      have ok := List.all_eq_true.mp any_ok d dm
      simp only [Bool.and_eq_true, decide_eq_true_eq] at ok
      exact ⟨v, d, rfl, fun x o n e => bt x o n (s3 _ _ (s2 _ _ (s1 _ _ e))), bx, dv.off (Off.but bt hMb), ok.1.1, ok.1.2, ok.2⟩
    · obtain ⟨v, d, rfl, bt, bx, dv, f1, f2, f3⟩ := hM
      refine ⟨fun x H2 => ∃ j : Int, x = .int j ∧ 0 ≤ j ∧ j ≤ 6 ∧ But b H H2 ∧ Box (m + 2) H2 b ∧ Dv M K H2 v d, ?_, fun x H2 hx => ?_⟩
      · refine choose (ds := [.int 0, .int 0, .int 0, .int 1, .int 2, .int 6]) rfl (mkA_cons mk_int (mkA_cons mk_int (mkA_cons mk_int (mkA_cons mk_int (mkA_cons mk_int (mkA_cons mk_int mkA_nil)))))) bx hMb (z0.but bt bx) (by decide) (by decide) (by omega) fun x e H2 em bt2 bx2 dx => ?_
        have hj : ∃ j : Int, e = .int j ∧ 0 ≤ j ∧ j ≤ 6 := by
          simp only [List.mem_cons, List.not_mem_nil, or_false] at em
          rcases em with h | h | h | h | h | h <;> exact ⟨_, h, by decide, by decide⟩
        obtain ⟨j, rfl, j0, j6⟩ := hj
        cases dx
        exact ⟨j, rfl, j0, j6, bt.trans bt2, bx2, dv.off (Off.but bt2 hMb)⟩
      · obtain ⟨j, rfl, j0, j6, bt2, bx2, dv2⟩ := hx
        refine ⟨j, rfl, by omega, by omega, fun i k σ' H' => ∃ v d y, σ' = [some (.ref b), some (.ref a), some v, y] ∧ k = j.toNat - i ∧ i ≤ j.toNat ∧ But b H H' ∧ Box (m + 2 + i) H' b ∧ Dv M K H' v d ∧ fin d (10 ^ 17) = true ∧ d.depth ≤ 2 + i ∧ big d ≤ 400 + 100 * i, ⟨_, v, d, none, rfl, rfl, Nat.zero_le _, bt2, bx2, dv2, f1, f2, f3⟩, ?_⟩
        rintro i k σ' H' ⟨v, d, y, rfl, rfl, hi, bt, bx, dv, f1, f2, f3⟩
        by_cases c : i < j.toNat
        · refine .inr ⟨c, fun σ' H' => ∃ v d y, σ' = [some (.ref b), some (.ref a), some v, y] ∧ But b H H' ∧ Box (m + 2 + (i + 1)) H' b ∧ Dv M K H' v d ∧ fin d (10 ^ 17) = true ∧ d.depth ≤ 2 + (i + 1) ∧ big d ≤ 400 + 100 * (i + 1), ?_, ?_⟩
          · rintro σ' H' ⟨v, d, y, e, x1, x2, x3, x4, x5, x6⟩
            exact ⟨j.toNat - (i + 1), by omega, v, d, y, e, rfl, c, x1, x2, x3, x4, x5, x6⟩
          · rintro x H3 ⟨rfl, rfl⟩
            refine go_name ?_
            refine go_as ?_
            refine choose (ds := [.tuple [d], .list [d], .dict [(.str "a", d)], .tuple [d, .int 1]]) rfl (mkA_cons (mk_tup (mkA_cons (mk_var rfl dv) mkA_nil) (Nat.le_of_ble_eq_true rfl)) (mkA_cons (mk_lst (mkA_cons (mk_var rfl dv) mkA_nil) (Nat.le_of_ble_eq_true rfl)) (mkA_cons (mk_dct (mk_var rfl dv))
              (mkA_cons (mk_tup (mkA_cons (mk_var rfl dv) (mkA_cons mk_int mkA_nil)) (Nat.le_of_ble_eq_true rfl)) mkA_nil)))) bx hMb (z0.but bt bx) (Nat.lt_of_lt_of_eq (by decide : 0 < 4) rfl) (Nat.le_of_ble_eq_true rfl) (by omega) fun x e H2 em bt2 bx2 dx => ?_
            obtain ⟨g1, g2, g3⟩ := nest_ok f1 f2 f3 em
            exact ⟨x, e, _, rfl, bt.trans bt2, bx2, dx, g1, g2, g3⟩
        · refine .inl ⟨Nat.le_of_not_lt c, v, rfl, ?_⟩
          have i6 : i ≤ 6 := by omega
          exact q _ _ d bt (bx.up (by omega)) dv f1 (by omega) (by omega)
end
end Pf
namespace Pf
open PySem PySem.Spec PyProof.Rows L2 Gk
/-- what is asked of the classes: told by one look -/
def kindB (K : PySem.W.Frag) (D : Addr) : Bool := xfB K D && (decide (PySem.W.findIn K (.ref D) "__class__" = some (some (.builtin "object.__class__"))) && decide (PySem.W.mroIn K D (.type "object") = some true))
def kitB (K : PySem.W.Frag) (D : Addr) (cs : List Addr) (i : Nat) : Bool := (List.range 14).all fun j => decide (PySem.W.kitOne K (.ref D) (.ref (cs.getD j 0)) = some (decide (i = j)))
def kindsB (K : PySem.W.Frag) (cs : List Addr) (CP : Addr) : Bool := (CP :: cs).all (kindB K) && (((List.range 14).all fun i => kitB K (cs.getD i 0) cs i) && (kitB K CP cs 14 && cs.all fun c => decide (PySem.W.kitOne K (.ref c) (.ref CP) = some true) && decide (PySem.W.kitOne K (.ref c) (.type "ValueError") = some true)))
structure Kinds (K : PySem.W.Frag) (cs : List Addr) (CP : Addr) : Prop where
  len : cs.length = 14
  exc : ∀ c ∈ CP :: cs, ExcC K c
  kit : ∀ i j : Nat, i < 14 → j < 14 → PySem.W.kitOne K (.ref (cs.getD i 0)) (.ref (cs.getD j 0)) = some (decide (i = j))
  none : ∀ j : Nat, j < 14 → PySem.W.kitOne K (.ref CP) (.ref (cs.getD j 0)) = some false
  par : ∀ c ∈ cs, PySem.W.kitOne K (.ref c) (.ref CP) = some true
  ve : ∀ c ∈ cs, PySem.W.kitOne K (.ref c) (.type "ValueError") = some true
theorem kinds_of {K : PySem.W.Frag} {cs : List Addr} {CP : Addr} (l : cs.length = 14) (h : kindsB K cs CP = true) (hn : PySem.W.specialIn K (.builtin "object.__class__") "__get__" = some (some (.builtin "getset_descriptor.__get__"))) (ht : PySem.W.takesIn K (.builtin "object.__class__") = some true) : Kinds K cs CP := by
  unfold kindsB at h
  rw [Bool.and_eq_true, Bool.and_eq_true, Bool.and_eq_true, List.all_eq_true, List.all_eq_true, List.all_eq_true] at h
  obtain ⟨h1, h2, h3, h4⟩ := h
  have row : ∀ {D : Addr} {i : Nat}, kitB K D cs i = true → ∀ j, j < 14 → PySem.W.kitOne K (.ref D) (.ref (cs.getD j 0)) = some (decide (i = j)) := fun z j hj => of_decide_eq_true (List.all_eq_true.mp z j (List.mem_range.mpr hj))
  refine ⟨l, fun c hc => ?_, fun i j hi hj => row (h2 i (List.mem_range.mpr hi)) j hj, fun j hj => ?_, fun c hc => ?_, fun c hc => ?_⟩
  · have := h1 c hc
    unfold kindB at this
    rw [Bool.and_eq_true, Bool.and_eq_true] at this
    obtain ⟨a, b, c⟩ := this
    have x := xfB_ok a
    exact ⟨x.ga, x.gg, x.exC, x.hdC, of_decide_eq_true b, hn, ht, of_decide_eq_true c⟩
  · have := row h3 j hj
    rwa [decide_eq_false (by omega)] at this
  · have := h4 c hc
    rw [Bool.and_eq_true] at this
    exact of_decide_eq_true this.1
  · have := h4 c hc
    rw [Bool.and_eq_true] at this
    exact of_decide_eq_true this.2
theorem bits14 {bs : List Bool} (h : bs.length = 14) : ∃ b0 b1 b2 b3 b4 b5 b6 b7 b8 b9 b10 b11 b12 b13, bs = [b0, b1, b2, b3, b4, b5, b6, b7, b8, b9, b10, b11, b12, b13] := by
  match bs, h with
  | [b0, b1, b2, b3, b4, b5, b6, b7, b8, b9, b10, b11, b12, b13], _ => exact ⟨b0, b1, b2, b3, b4, b5, b6, b7, b8, b9, b10, b11, b12, b13, rfl⟩
abbrev sKinds : Stmt := topS 21
theorem scKinds : FnScope ["_law_mistake", "_law_found"] ["_law_mistake"] (defScope sKinds) := ⟨rfl, rfl, rfl, by decide +kernel, rfl, by decide +kernel, by decide +kernel⟩
theorem isi_is : bootBuiltins "isinstance" = some (.builtin "isinstance") := by decide +kernel
theorem ext_step {H H1 : Hp} {l e : Addr} {xs zs : List V} (s : Same H H1) (nl : H l = none) (ne : H1 e = none) : Same H (upd (upd H1 e (.lst zs)) l (.lst (xs ++ zs))) ∧ (upd (upd H1 e (.lst zs)) l (.lst (xs ++ zs))) l = some (.lst (xs ++ zs)) := by
  refine ⟨fun b o h => ?_, upd_same⟩
  rw [upd_ne (ne_of_none h nl), upd_ne (ne_of_none (s _ _ h) ne)]
  exact s _ _ h
theorem isx_go {K : PySem.W.Frag} {H : Hp} {a D c : Addr} {b : Bool} {σ : L2.St} {Q : VK} (e : σ[0]? = some (some (.ref a))) (xi : Xi H a D) (ex : ExcC K D) (k : PySem.W.kitOne K (.ref D) (.ref c) = some b) (q : Q (.bl b) H) : tCB (rIsX K) (tCons (tVar 0) (tCons (tC (.ref c)) tNil)) σ H Q :=
  ⟨.ref a, e, a, D, .ref c, .ref c, b, rfl, xi, ex, fun _ r => r, k, q⟩
section
variable {P : Program} {w : World} {K : PySem.W.Frag} {mg : Str → Option Value} {base : Heap}
/-- of which kinds: bs -/
def spKinds (K : PySem.W.Frag) (cs : List Addr) : Sp := fun vs H Q _ => ∃ (a D : Addr) (bs : List Bool), vs = [.ref a] ∧ Xi H a D ∧ ExcC K D ∧ bs.length = 14 ∧ (∀ j : Nat, j < 14 → PySem.W.kitOne K (.ref D) (.ref (cs.getD j 0)) = some (bs.getD j false)) ∧
  ∀ H' l, Same H H' → H' l = some (.lst (bs.map V.bl)) → Q (.ref l) H'
theorem ok_kinds {f : Addr} {fd : FuncData} {k : Nat} {c0 c1 c2 c3 c4 c5 c6 c7 c8 c9 c10 c11 c12 c13 : Addr} (mi : mg "isinstance" = none) (g0 : mg "NoBranch" = some (.ref c0)) (g1 : mg "TooShort" = some (.ref c1)) (g2 : mg "TooLong" = some (.ref c2)) (g3 : mg "TooManyBranches" = some (.ref c3)) (g4 : mg "BadScheme" = some (.ref c4)) (g5 : mg "BadCounter" = some (.ref c5)) (g6 : mg "BadBranch" = some (.ref c6)) (g7 : mg "BadOutcome" = some (.ref c7)) (g8 : mg "NoCell" = some (.ref c8)) (g9 : mg "BadText" = some (.ref c9)) (g10 : mg "BadLine" = some (.ref c10)) (g11 : mg "NothingToUndo" = some (.ref c11)) (g12 : mg "NoPredictor" = some (.ref c12)) (g13 : mg "NoTrace" = some (.ref c13))
    (F : L2.Fun K "_law_kinds" "_law_kinds" sKinds f fd) : FnOk P w K mg base L2.CX0 (k + 1) f fd ["_law_mistake"] (spKinds K [c0, c1, c2, c3, c4, c5, c6, c7, c8, c9, c10, c11, c12, c13]) := by
  refine F.ok scKinds (fun vs H Q E h => ?_) (fun cdv A outer s H vs Q E hr h => ?_)
  · obtain ⟨a, D, bs, rfl, _⟩ := h
    rfl
  · obtain ⟨a, D, bs, rfl, xi, ex, lb, kit, q⟩ := h
    refine ⟨_, pss_cons (ps_set (i := 1) scKinds.nd rfl (.inl rfl) (pe_lst (pa_cons (pe_callB call_isX (by rfl) mi isi_is (pa_cons (pv 0) (pa_cons (pe_glob (v := .ref c0) (by rfl) g0 rfl) pa_nil))) (pa_cons (pe_callB call_isX (by rfl) mi isi_is (pa_cons (pv 0) (pa_cons (pe_glob (v := .ref c1) (by rfl) g1 rfl) pa_nil))) (pa_cons (pe_callB call_isX (by rfl) mi isi_is (pa_cons (pv 0) (pa_cons (pe_glob (v := .ref c2) (by rfl) g2 rfl) pa_nil))) pa_nil)))))
      (pss_cons (ps_expr (pe_bm PySem.F.plainAttrs_list PySem.F.slot_list_extend PySem.F.type_list_extend mt_extend (pv 1) (pa_cons (pe_lst (pa_cons (pe_callB call_isX (by rfl) mi isi_is (pa_cons (pv 0) (pa_cons (pe_glob (v := .ref c3) (by rfl) g3 rfl) pa_nil))) (pa_cons (pe_callB call_isX (by rfl) mi isi_is (pa_cons (pv 0) (pa_cons (pe_glob (v := .ref c4) (by rfl) g4 rfl) pa_nil))) pa_nil))) pa_nil)))
      (pss_cons (ps_expr (pe_bm PySem.F.plainAttrs_list PySem.F.slot_list_extend PySem.F.type_list_extend mt_extend (pv 1) (pa_cons (pe_lst (pa_cons (pe_callB call_isX (by rfl) mi isi_is (pa_cons (pv 0) (pa_cons (pe_glob (v := .ref c5) (by rfl) g5 rfl) pa_nil))) (pa_cons (pe_callB call_isX (by rfl) mi isi_is (pa_cons (pv 0) (pa_cons (pe_glob (v := .ref c6) (by rfl) g6 rfl) pa_nil))) pa_nil))) pa_nil)))
      (pss_cons (ps_expr (pe_bm PySem.F.plainAttrs_list PySem.F.slot_list_extend PySem.F.type_list_extend mt_extend (pv 1) (pa_cons (pe_lst (pa_cons (pe_callB call_isX (by rfl) mi isi_is (pa_cons (pv 0) (pa_cons (pe_glob (v := .ref c7) (by rfl) g7 rfl) pa_nil))) (pa_cons (pe_callB call_isX (by rfl) mi isi_is (pa_cons (pv 0) (pa_cons (pe_glob (v := .ref c8) (by rfl) g8 rfl) pa_nil))) pa_nil))) pa_nil)))
      (pss_cons (ps_expr (pe_bm PySem.F.plainAttrs_list PySem.F.slot_list_extend PySem.F.type_list_extend mt_extend (pv 1) (pa_cons (pe_lst (pa_cons (pe_callB call_isX (by rfl) mi isi_is (pa_cons (pv 0) (pa_cons (pe_glob (v := .ref c9) (by rfl) g9 rfl) pa_nil))) (pa_cons (pe_callB call_isX (by rfl) mi isi_is (pa_cons (pv 0) (pa_cons (pe_glob (v := .ref c10) (by rfl) g10 rfl) pa_nil))) (pa_cons (pe_callB call_isX (by rfl) mi isi_is (pa_cons (pv 0) (pa_cons (pe_glob (v := .ref c11) (by rfl) g11 rfl) pa_nil))) pa_nil)))) pa_nil)))
      (pss_one (ps_ret (pe_op op_cat (pv 1) (pe_lst (pa_cons (pe_callB call_isX (by rfl) mi isi_is (pa_cons (pv 0) (pa_cons (pe_glob (v := .ref c12) (by rfl) g12 rfl) pa_nil))) (pa_cons (pe_callB call_isX (by rfl) mi isi_is (pa_cons (pv 0) (pa_cons (pe_glob (v := .ref c13) (by rfl) g13 rfl) pa_nil))) pa_nil)))))))))), ?_⟩
    obtain ⟨b0, b1, b2, b3, b4, b5, b6, b7, b8, b9, b10, b11, b12, b13, rfl⟩ := bits14 lb
    have k0 : PySem.W.kitOne K (.ref D) (.ref c0) = some b0 := kit 0 (by decide)
    have k1 : PySem.W.kitOne K (.ref D) (.ref c1) = some b1 := kit 1 (by decide)
    have k2 : PySem.W.kitOne K (.ref D) (.ref c2) = some b2 := kit 2 (by decide)
    have k3 : PySem.W.kitOne K (.ref D) (.ref c3) = some b3 := kit 3 (by decide)
    have k4 : PySem.W.kitOne K (.ref D) (.ref c4) = some b4 := kit 4 (by decide)
    have k5 : PySem.W.kitOne K (.ref D) (.ref c5) = some b5 := kit 5 (by decide)
    have k6 : PySem.W.kitOne K (.ref D) (.ref c6) = some b6 := kit 6 (by decide)
    have k7 : PySem.W.kitOne K (.ref D) (.ref c7) = some b7 := kit 7 (by decide)
    have k8 : PySem.W.kitOne K (.ref D) (.ref c8) = some b8 := kit 8 (by decide)
    have k9 : PySem.W.kitOne K (.ref D) (.ref c9) = some b9 := kit 9 (by decide)
    have k10 : PySem.W.kitOne K (.ref D) (.ref c10) = some b10 := kit 10 (by decide)
    have k11 : PySem.W.kitOne K (.ref D) (.ref c11) = some b11 := kit 11 (by decide)
    have k12 : PySem.W.kitOne K (.ref D) (.ref c12) = some b12 := kit 12 (by decide)
    have k13 : PySem.W.kitOne K (.ref D) (.ref c13) = some b13 := kit 13 (by decide)
    refine go_asg (isx_go rfl xi ex k0 (isx_go rfl xi ex k1 (isx_go rfl xi ex k2 ⟨by show 3 ≤ sizeLine; decide, fun l nl => ?_⟩)))
    have s1 : Same H (upd H l (.lst [.bl b0, .bl b1, .bl b2])) := same_new nl
    have h1 : (upd H l (.lst [.bl b0, .bl b1, .bl b2])) l = some (.lst [.bl b0, .bl b1, .bl b2]) := upd_same

    generalize upd H l (.lst [.bl b0, .bl b1, .bl b2]) = H1 at s1 h1
    refine ⟨.ref l, rfl, .inl ⟨rfl, _, SqL.of h1⟩, (isx_go rfl (xi.same s1) ex k3 (isx_go rfl (xi.same s1) ex k4 ⟨by show 2 ≤ sizeLine; decide, fun e1 n1 => ⟨l, e1, [.bl b0, .bl b1, .bl b2], [.bl b3, .bl b4], rfl, rfl, same_new n1 _ _ h1, upd_same, by show 5 ≤ sizeLine; decide, ?_⟩⟩))⟩
    obtain ⟨s2, h2⟩ := ext_step (xs := [.bl b0, .bl b1, .bl b2]) (zs := [.bl b3, .bl b4]) s1 nl n1
    generalize upd (upd H1 e1 (.lst [.bl b3, .bl b4])) l (.lst ([.bl b0, .bl b1, .bl b2] ++ [.bl b3, .bl b4])) = H2 at s2 h2
    have h2 : H2 l = some (.lst [.bl b0, .bl b1, .bl b2, .bl b3, .bl b4]) := h2
    refine ⟨.ref l, rfl, .inl ⟨rfl, _, SqL.of h2⟩, (isx_go rfl (xi.same s2) ex k5 (isx_go rfl (xi.same s2) ex k6 ⟨by show 2 ≤ sizeLine; decide, fun e2 n2 => ⟨l, e2, [.bl b0, .bl b1, .bl b2, .bl b3, .bl b4], [.bl b5, .bl b6], rfl, rfl, same_new n2 _ _ h2, upd_same, by show 7 ≤ sizeLine; decide, ?_⟩⟩))⟩
    obtain ⟨s3, h3⟩ := ext_step (xs := [.bl b0, .bl b1, .bl b2, .bl b3, .bl b4]) (zs := [.bl b5, .bl b6]) s2 nl n2
    generalize upd (upd H2 e2 (.lst [.bl b5, .bl b6])) l (.lst ([.bl b0, .bl b1, .bl b2, .bl b3, .bl b4] ++ [.bl b5, .bl b6])) = H3 at s3 h3
    have h3 : H3 l = some (.lst [.bl b0, .bl b1, .bl b2, .bl b3, .bl b4, .bl b5, .bl b6]) := h3
    refine ⟨.ref l, rfl, .inl ⟨rfl, _, SqL.of h3⟩, (isx_go rfl (xi.same s3) ex k7 (isx_go rfl (xi.same s3) ex k8 ⟨by show 2 ≤ sizeLine; decide, fun e3 n3 => ⟨l, e3, [.bl b0, .bl b1, .bl b2, .bl b3, .bl b4, .bl b5, .bl b6], [.bl b7, .bl b8], rfl, rfl, same_new n3 _ _ h3, upd_same, by show 9 ≤ sizeLine; decide, ?_⟩⟩))⟩
    obtain ⟨s4, h4⟩ := ext_step (xs := [.bl b0, .bl b1, .bl b2, .bl b3, .bl b4, .bl b5, .bl b6]) (zs := [.bl b7, .bl b8]) s3 nl n3
    generalize upd (upd H3 e3 (.lst [.bl b7, .bl b8])) l (.lst ([.bl b0, .bl b1, .bl b2, .bl b3, .bl b4, .bl b5, .bl b6] ++ [.bl b7, .bl b8])) = H4 at s4 h4
    have h4 : H4 l = some (.lst [.bl b0, .bl b1, .bl b2, .bl b3, .bl b4, .bl b5, .bl b6, .bl b7, .bl b8]) := h4
    refine ⟨.ref l, rfl, .inl ⟨rfl, _, SqL.of h4⟩, (isx_go rfl (xi.same s4) ex k9 (isx_go rfl (xi.same s4) ex k10 (isx_go rfl (xi.same s4) ex k11 ⟨by show 3 ≤ sizeLine; decide, fun e4 n4 => ⟨l, e4, [.bl b0, .bl b1, .bl b2, .bl b3, .bl b4, .bl b5, .bl b6, .bl b7, .bl b8], [.bl b9, .bl b10, .bl b11], rfl, rfl, same_new n4 _ _ h4, upd_same, by show 12 ≤ sizeLine; decide, ?_⟩⟩)))⟩
    obtain ⟨s5, h5⟩ := ext_step (xs := [.bl b0, .bl b1, .bl b2, .bl b3, .bl b4, .bl b5, .bl b6, .bl b7, .bl b8]) (zs := [.bl b9, .bl b10, .bl b11]) s4 nl n4
    generalize upd (upd H4 e4 (.lst [.bl b9, .bl b10, .bl b11])) l (.lst ([.bl b0, .bl b1, .bl b2, .bl b3, .bl b4, .bl b5, .bl b6, .bl b7, .bl b8] ++ [.bl b9, .bl b10, .bl b11])) = H5 at s5 h5
    have h5 : H5 l = some (.lst [.bl b0, .bl b1, .bl b2, .bl b3, .bl b4, .bl b5, .bl b6, .bl b7, .bl b8, .bl b9, .bl b10, .bl b11]) := h5
    refine ⟨.ref l, rfl, (isx_go rfl (xi.same s5) ex k12 (isx_go rfl (xi.same s5) ex k13 ⟨by show 2 ≤ sizeLine; decide, fun e ne => ⟨l, e, [.bl b0, .bl b1, .bl b2, .bl b3, .bl b4, .bl b5, .bl b6, .bl b7, .bl b8, .bl b9, .bl b10, .bl b11], [.bl b12, .bl b13], rfl, rfl, same_new ne _ _ h5, upd_same, by show 14 ≤ sizeLine; decide, fun p np => ?_⟩⟩))⟩
    refine q _ p ((s5.trans (same_new ne)).trans (same_new np)) ?_
    rw [upd_same]
    rfl
end
end Pf
namespace Gk
open PySem PySem.Spec PyProof.Rows L2
section
variable {X : Cx}
/-- two lists joined, the new one's place told apart from the table of modules -/
def rCatN : R2 := fun x y H Q => ∃ l b xs zs, x = .ref l ∧ y = .ref b ∧ H l = some (.lst xs) ∧ H b = some (.lst zs) ∧ xs.length + zs.length ≤ sizeLine ∧ ∀ p, H p = none → (p == sysModules) = false → Q (.ref p) (upd H p (.lst (xs ++ zs)))
theorem op_catN : OpR X (binaryOp .Add) rCatN := by
  rintro pins s σ H x y v u Q I rx ry ⟨l, b, xs, zs, rfl, rfl, h1, h2, hz, q⟩
  cases rx
  cases ry
  obtain ⟨_, its, _, r, n1, e1⟩ := I.lstM h1
  obtain ⟨_, its2, _, r2, n2, e2⟩ := I.lstM h2
  refine PySem.P.add_list e1 e2 ?_ (by rw [List.size_toArray, List.size_toArray]; omega)
  rw [show its.toArray ++ its2.toArray = (its ++ its2).toArray by simp]
  exact ⟨.ref _, _, I.lnew (t' := s.toks) (r.append r2) (by rw [List.length_append]; omega), rfl, q _ I.fresh (not_modules I)⟩
/-- a list of one thing, many times -/
def rRepN : R2 := fun x y H Q => ∃ l k v, x = .ref l ∧ y = .int k ∧ H l = some (.lst [v]) ∧ 0 < k ∧ k ≤ 1000 ∧ ∀ p, H p = none → (p == sysModules) = false → Q (.ref p) (upd H p (.lst (List.replicate k.toNat v)))
theorem fold_one {α : Type} (a : α) : ∀ m : Nat, ∀ xs : Array α, List.foldl (fun x1 x2 => x1 ++ x2) xs (List.replicate m #[a]) = xs ++ (List.replicate m a).toArray
  | 0, xs => by simp
  | m + 1, xs => by
    rw [List.replicate_succ, List.foldl_cons, fold_one a m, List.replicate_succ]
    apply Array.ext'
    simp
theorem op_repN : OpR X (binaryOp .Mult) rRepN := by
  rintro pins s σ H x y v u Q I rx ry ⟨l, k, v, rfl, rfl, h1, k0, k1, q⟩
  cases rx
  obtain ⟨t, rfl⟩ := ry
  obtain ⟨_, its, n, r, n1, e1⟩ := I.lstM h1
  obtain ⟨a, rfl, ra⟩ := r.one
  have small : [a].toArray.size * k.toNat ≤ sizeLine := by
    rw [sizeLine_eq, List.size_toArray]
    show 1 * k.toNat ≤ _
    omega
  refine wpAny_binaryOp_repeat_ref (T := "list") (U := "int") (by decide) ⟨_, e1, rfl⟩ (fun s' => typeIs_int s' k t) noFill_list_mul F.fills_int_mul F.slot_int_rmul repeat_list F.slot_int_index.lookup
    (call_meets F.slot_int_rmul (typeIs_int s k t) F.entry_int_rmul (F.args_int_rmul_2 _ _) (int___rmul___int_list k t l [a].toArray n)
      ⟨e1, rfl, ⟨_, e1, rfl⟩, call_meets F.slot_list_mul ⟨_, e1, rfl⟩ F.entry_list_mul (F.args_list_mul_2 _ _) (AutoListH.list___mul___list_int_3 l [a].toArray n k t ?_ ?_ ?_) ⟨e1, ?_⟩⟩)
  · rw [fitsIndex_both (by omega) (by omega)]
    exact Bool.false_ne_true
  · have : (sizeLine : Nat) ≤ (2 ^ 63 - 1) / 8 := by decide
    omega
  · rw [notLongL small]
    exact Bool.false_ne_true
  rw [if_neg (show ¬ ([a].toArray.isEmpty = true) by simp), show ([a].toArray : Array Value) = #[a] from rfl, fold_one, show (#[] ++ (List.replicate k.toNat a).toArray : Array Value) = (List.replicate k.toNat a).toArray by simp]
  have rr : Vals (List.replicate k.toNat v) (List.replicate k.toNat a) := by
    generalize k.toNat = m
    induction m with
    | zero => exact .nil
    | succ m ih => rw [List.replicate_succ, List.replicate_succ]; exact .cons ra ih
  exact ⟨.ref _, _, I.lnew (t' := s.toks) rr (by rw [List.length_replicate, sizeLine_eq]; omega), rfl, q _ I.fresh (not_modules I)⟩
end
end Gk
namespace Pf
open PySem PySem.Spec PyProof.Rows L2 Gk
/-- an exception of the class, with its value under its name, if it has one -/
def One (H : Hp) (v : V) (a : Addr) (c : Addr × Option Str) : Prop := match c.2 with
  | some f => Xv H a c.1 f v
  | none => Xi H a c.1
theorem One.same {H H' : Hp} {v : V} {a : Addr} {c : Addr × Option Str} (h : One H v a c) (s : Same H H') : One H' v a c := by
  obtain ⟨c, f⟩ := c
  cases f with
  | none => exact Xi.same h s
  | some f => exact Xv.same h s
theorem One.i {H : Hp} {v : V} {a : Addr} {c : Addr × Option Str} (h : One H v a c) : Xi H a c.1 := by
  obtain ⟨c, f⟩ := c
  cases f with
  | none => exact h
  | some f => exact Xv.i h
def Rows (H : Hp) (v : V) : List Addr → List (Addr × Option Str) → Prop
  | [], [] => True
  | a :: as, c :: cs => One H v a c ∧ Rows H v as cs
  | _, _ => False
theorem Rows.same {H H' : Hp} {v : V} (s : Same H H') : ∀ {as : List Addr} {cs : List (Addr × Option Str)}, Rows H v as cs → Rows H' v as cs
  | [], [], _ => trivial
  | _ :: _, _ :: _, h => ⟨h.1.same s, Rows.same s h.2⟩
  | [], _ :: _, h => h.elim
  | _ :: _, [], h => h.elim
theorem Rows.at {H : Hp} {v : V} : ∀ {as : List Addr} {cs : List (Addr × Option Str)} {i : Nat} {a : Addr}, Rows H v as cs → as[i]? = some a → ∃ c, cs[i]? = some c ∧ One H v a c
  | a :: _, c :: _, 0, b, h, e => ⟨c, rfl, by obtain rfl := Option.some.inj e; exact h.1⟩
  | _ :: as, _ :: cs, i + 1, b, h, e => Rows.at (as := as) (cs := cs) (i := i) h.2 e
  | [], _, _, _, _, e => (nomatch e)
  | _ :: _, [], _, _, h, _ => h.elim
theorem Rows.len {H : Hp} {v : V} : ∀ {as : List Addr} {cs : List (Addr × Option Str)}, Rows H v as cs → as.length = cs.length
  | [], [], _ => rfl
  | _ :: as, _ :: cs, h => congrArg Nat.succ (Rows.len (as := as) (cs := cs) h.2)
  | [], _ :: _, h => h.elim
  | _ :: _, [], h => h.elim
theorem Rows.inv {H : Hp} {v : V} {c : Addr × Option Str} {cs : List (Addr × Option Str)} : ∀ {as : List Addr}, Rows H v as (c :: cs) → ∃ a as', as = a :: as' ∧ One H v a c ∧ Rows H v as' cs
  | a :: as, h => ⟨a, as, rfl, h.1, h.2⟩
  | [], h => h.elim
theorem Rows.inv0 {H : Hp} {v : V} : ∀ {as : List Addr}, Rows H v as [] → as = []
  | [], _ => rfl
  | _ :: _, h => h.elim
abbrev sPlace : Stmt := topS 22
theorem scPlace : FnScope ["_law_thing", "_law_found"] ["_law_thing"] (defScope sPlace) := ⟨rfl, rfl, rfl, by decide +kernel, rfl, by decide +kernel, by decide +kernel⟩
abbrev sName : Stmt := topS 23
theorem scName : FnScope ["_law_thing", "_law_found"] ["_law_thing"] (defScope sName) := ⟨rfl, rfl, rfl, by decide +kernel, rfl, by decide +kernel, by decide +kernel⟩
abbrev sKept : Stmt := topS 24
theorem scKept : FnScope ["_law_some", "_law_found"] ["_law_some"] (defScope sKept) := ⟨rfl, rfl, rfl, by decide +kernel, rfl, by decide +kernel, by decide +kernel⟩
section
variable {P : Program} {w : World} {K : PySem.W.Frag} {mg : Str → Option Value} {base : Heap}
def spMade (kd : List (Addr × Option Str)) : Sp := fun vs H Q _ => ∃ v, vs = [v] ∧ ∀ H' l as, Same H H' → H' l = some (.lst (as.map V.ref)) → Rows H' v as kd → Q (.ref l) H'
theorem ok_place {f : Addr} {fd : FuncData} {c0 c1 c2 c3 c4 c5 c6 c7 c8 c9 c10 c11 c12 c13 : Addr} (T0 : XownW P w K mg base "NoBranch" "value" "value" c0) (T1 : XownW P w K mg base "TooShort" "reach" "reach" c1) (T2 : XownW P w K mg base "TooLong" "limit" "limit" c2) (T3 : XownW P w K mg base "TooManyBranches" "limit" "limit" c3) (T4 : XownW P w K mg base "BadScheme" "value" "value" c4) (T5 : XownW P w K mg base "BadCounter" "value" "value" c5) (T6 : XownW P w K mg base "BadBranch" "value" "value" c6) (T7 : XownW P w K mg base "BadOutcome" "value" "value" c7) (T8 : XownW P w K mg base "NoCell" "value" "value" c8) (T9 : XownW P w K mg base "BadText" "text" "text" c9) (T10 : XownW P w K mg base "BadLine" "line" "line" c10) (T11 : XownN P w K mg base "NothingToUndo" c11) (T12 : XownN P w K mg base "NoPredictor" c12) (T13 : XownN P w K mg base "NoTrace" c13) (F : L2.Fun K "_law_by_place" "_law_by_place" sPlace f fd) : FnOk P w K mg base L2.CX0 3 f fd ["_law_thing"] (spMade [(c0, some "value"), (c1, some "reach"), (c2, some "limit"), (c3, some "limit"), (c4, some "value"), (c5, some "value"), (c6, some "value"), (c7, some "value"), (c8, some "value"), (c9, some "text"), (c10, some "line"), (c11, none), (c12, none), (c13, none)]) := by
  refine F.ok scPlace (fun vs H Q E h => ?_) (fun cdv A outer s H vs Q E hr h => ?_)
  · obtain ⟨v, rfl, _⟩ := h
    rfl
  · obtain ⟨v, rfl, q⟩ := h
    refine ⟨_, pss_cons (ps_set (i := 1) scPlace.nd rfl (.inl rfl) (pe_lst (pa_cons (pe_newX T0.X hr (by decide) (by rfl) (pv 0)) (pa_cons (pe_newX T1.X hr (by decide) (by rfl) (pv 0)) (pa_cons (pe_newX T2.X hr (by decide) (by rfl) (pv 0)) (pa_cons (pe_newX T3.X hr (by decide) (by rfl) (pv 0)) (pa_cons (pe_newX T4.X hr (by decide) (by rfl) (pv 0)) pa_nil)))))))
      (pss_cons (ps_set (i := 1) scPlace.nd rfl (.inl rfl) (pe_op op_cat (pv 1) (pe_lst (pa_cons (pe_newX T5.X hr (by decide) (by rfl) (pv 0)) (pa_cons (pe_newX T6.X hr (by decide) (by rfl) (pv 0)) (pa_cons (pe_newX T7.X hr (by decide) (by rfl) (pv 0)) (pa_cons (pe_newX T8.X hr (by decide) (by rfl) (pv 0)) pa_nil)))))))
      (pss_cons (ps_set (i := 1) scPlace.nd rfl (.inl rfl) (pe_op op_cat (pv 1) (pe_lst (pa_cons (pe_newX T9.X hr (by decide) (by rfl) (pv 0)) (pa_cons (pe_newX T10.X hr (by decide) (by rfl) (pv 0)) pa_nil)))))
      (pss_one (ps_ret (pe_op op_cat (pv 1) (pe_lst (pa_cons (pe_new0 T11 hr (by decide) (by rfl)) (pa_cons (pe_new0 T12 hr (by decide) (by rfl)) (pa_cons (pe_new0 T13 hr (by decide) (by rfl)) pa_nil))))))))), ?_⟩
    have sH : Same H H := Same.refl _
    refine go_asg ?_
    refine ⟨v, rfl, fun a0 H0 s0 _ x0 => ?_⟩
    have t0 := sH.trans s0
    have y0 : One H0 v a0 (c0, some "value") := x0
    refine ⟨v, rfl, fun a1 H1 s1 _ x1 => ?_⟩
    have t1 := t0.trans s1
    have y0 := y0.same s1
    have y1 : One H1 v a1 (c1, some "reach") := x1
    refine ⟨v, rfl, fun a2 H2 s2 _ x2 => ?_⟩
    have t2 := t1.trans s2
    have y0 := y0.same s2
    have y1 := y1.same s2
    have y2 : One H2 v a2 (c2, some "limit") := x2
    refine ⟨v, rfl, fun a3 H3 s3 _ x3 => ?_⟩
    have t3 := t2.trans s3
    have y0 := y0.same s3
    have y1 := y1.same s3
    have y2 := y2.same s3
    have y3 : One H3 v a3 (c3, some "limit") := x3
    refine ⟨v, rfl, fun a4 H4 s4 _ x4 => ?_⟩
    have t4 := t3.trans s4
    have y0 := y0.same s4
    have y1 := y1.same s4
    have y2 := y2.same s4
    have y3 := y3.same s4
    have y4 : One H4 v a4 (c4, some "value") := x4
    refine ⟨by show 5 ≤ sizeLine; decide, fun l0 nl0 => ?_⟩
    have hl : (upd H4 l0 (.lst [.ref a0, .ref a1, .ref a2, .ref a3, .ref a4])) l0 = some (.lst [.ref a0, .ref a1, .ref a2, .ref a3, .ref a4]) := upd_same
    have u0 : Same H4 (upd H4 l0 (.lst [.ref a0, .ref a1, .ref a2, .ref a3, .ref a4])) := same_new nl0
    have v0 := t4.trans u0
    have y0 := y0.same u0
    have y1 := y1.same u0
    have y2 := y2.same u0
    have y3 := y3.same u0
    have y4 := y4.same u0
    generalize upd H4 l0 (.lst [.ref a0, .ref a1, .ref a2, .ref a3, .ref a4]) = G0 at hl u0 v0 y0 y1 y2 y3 y4
    refine go_name ?_
    refine go_asg ?_
    refine ⟨.ref l0, rfl, ?_⟩
    refine ⟨v, rfl, fun a5 H5 s5 _ x5 => ?_⟩
    have t5 := v0.trans s5
    have y0 := y0.same s5
    have y1 := y1.same s5
    have y2 := y2.same s5
    have y3 := y3.same s5
    have y4 := y4.same s5
    have hl := s5 _ _ hl
    have y5 : One H5 v a5 (c5, some "value") := x5
    refine ⟨v, rfl, fun a6 H6 s6 _ x6 => ?_⟩
    have t6 := t5.trans s6
    have y0 := y0.same s6
    have y1 := y1.same s6
    have y2 := y2.same s6
    have y3 := y3.same s6
    have y4 := y4.same s6
    have y5 := y5.same s6
    have hl := s6 _ _ hl
    have y6 : One H6 v a6 (c6, some "value") := x6
    refine ⟨v, rfl, fun a7 H7 s7 _ x7 => ?_⟩
    have t7 := t6.trans s7
    have y0 := y0.same s7
    have y1 := y1.same s7
    have y2 := y2.same s7
    have y3 := y3.same s7
    have y4 := y4.same s7
    have y5 := y5.same s7
    have y6 := y6.same s7
    have hl := s7 _ _ hl
    have y7 : One H7 v a7 (c7, some "value") := x7
    refine ⟨v, rfl, fun a8 H8 s8 _ x8 => ?_⟩
    have t8 := t7.trans s8
    have y0 := y0.same s8
    have y1 := y1.same s8
    have y2 := y2.same s8
    have y3 := y3.same s8
    have y4 := y4.same s8
    have y5 := y5.same s8
    have y6 := y6.same s8
    have y7 := y7.same s8
    have hl := s8 _ _ hl
    have y8 : One H8 v a8 (c8, some "value") := x8
    refine ⟨by show 4 ≤ sizeLine; decide, fun e1 ne1 => ⟨l0, e1, [.ref a0, .ref a1, .ref a2, .ref a3, .ref a4], [.ref a5, .ref a6, .ref a7, .ref a8], rfl, rfl, same_new ne1 _ _ hl, upd_same, by show 9 ≤ sizeLine; decide, fun l1 nl1 => ?_⟩⟩
    have u1 : Same H8 (upd (upd H8 e1 (.lst [.ref a5, .ref a6, .ref a7, .ref a8])) l1 (.lst ([.ref a0, .ref a1, .ref a2, .ref a3, .ref a4] ++ [.ref a5, .ref a6, .ref a7, .ref a8]))) := (same_new ne1).trans (same_new nl1)
    have hl : (upd (upd H8 e1 (.lst [.ref a5, .ref a6, .ref a7, .ref a8])) l1 (.lst ([.ref a0, .ref a1, .ref a2, .ref a3, .ref a4] ++ [.ref a5, .ref a6, .ref a7, .ref a8]))) l1 = some (.lst [.ref a0, .ref a1, .ref a2, .ref a3, .ref a4, .ref a5, .ref a6, .ref a7, .ref a8]) := upd_same
    have v1 := t8.trans u1
    have y0 := y0.same u1
    have y1 := y1.same u1
    have y2 := y2.same u1
    have y3 := y3.same u1
    have y4 := y4.same u1
    have y5 := y5.same u1
    have y6 := y6.same u1
    have y7 := y7.same u1
    have y8 := y8.same u1
    generalize upd (upd H8 e1 (.lst [.ref a5, .ref a6, .ref a7, .ref a8])) l1 (.lst ([.ref a0, .ref a1, .ref a2, .ref a3, .ref a4] ++ [.ref a5, .ref a6, .ref a7, .ref a8])) = G1 at hl u1 v1 y0 y1 y2 y3 y4 y5 y6 y7 y8
    refine go_name ?_
    refine go_asg ?_
    refine ⟨.ref l1, rfl, ?_⟩
    refine ⟨v, rfl, fun a9 H9 s9 _ x9 => ?_⟩
    have t9 := v1.trans s9
    have y0 := y0.same s9
    have y1 := y1.same s9
    have y2 := y2.same s9
    have y3 := y3.same s9
    have y4 := y4.same s9
    have y5 := y5.same s9
    have y6 := y6.same s9
    have y7 := y7.same s9
    have y8 := y8.same s9
    have hl := s9 _ _ hl
    have y9 : One H9 v a9 (c9, some "text") := x9
    refine ⟨v, rfl, fun a10 H10 s10 _ x10 => ?_⟩
    have t10 := t9.trans s10
    have y0 := y0.same s10
    have y1 := y1.same s10
    have y2 := y2.same s10
    have y3 := y3.same s10
    have y4 := y4.same s10
    have y5 := y5.same s10
    have y6 := y6.same s10
    have y7 := y7.same s10
    have y8 := y8.same s10
    have y9 := y9.same s10
    have hl := s10 _ _ hl
    have y10 : One H10 v a10 (c10, some "line") := x10
    refine ⟨by show 2 ≤ sizeLine; decide, fun e2 ne2 => ⟨l1, e2, [.ref a0, .ref a1, .ref a2, .ref a3, .ref a4, .ref a5, .ref a6, .ref a7, .ref a8], [.ref a9, .ref a10], rfl, rfl, same_new ne2 _ _ hl, upd_same, by show 11 ≤ sizeLine; decide, fun l2 nl2 => ?_⟩⟩
    have u2 : Same H10 (upd (upd H10 e2 (.lst [.ref a9, .ref a10])) l2 (.lst ([.ref a0, .ref a1, .ref a2, .ref a3, .ref a4, .ref a5, .ref a6, .ref a7, .ref a8] ++ [.ref a9, .ref a10]))) := (same_new ne2).trans (same_new nl2)
    have hl : (upd (upd H10 e2 (.lst [.ref a9, .ref a10])) l2 (.lst ([.ref a0, .ref a1, .ref a2, .ref a3, .ref a4, .ref a5, .ref a6, .ref a7, .ref a8] ++ [.ref a9, .ref a10]))) l2 = some (.lst [.ref a0, .ref a1, .ref a2, .ref a3, .ref a4, .ref a5, .ref a6, .ref a7, .ref a8, .ref a9, .ref a10]) := upd_same
    have v2 := t10.trans u2
    have y0 := y0.same u2
    have y1 := y1.same u2
    have y2 := y2.same u2
    have y3 := y3.same u2
    have y4 := y4.same u2
    have y5 := y5.same u2
    have y6 := y6.same u2
    have y7 := y7.same u2
    have y8 := y8.same u2
    have y9 := y9.same u2
    have y10 := y10.same u2
    generalize upd (upd H10 e2 (.lst [.ref a9, .ref a10])) l2 (.lst ([.ref a0, .ref a1, .ref a2, .ref a3, .ref a4, .ref a5, .ref a6, .ref a7, .ref a8] ++ [.ref a9, .ref a10])) = G2 at hl u2 v2 y0 y1 y2 y3 y4 y5 y6 y7 y8 y9 y10
    refine go_name ?_
    refine ⟨.ref l2, rfl, ?_⟩
    refine fun a11 H11 s11 _ x11 => ?_
    have t11 := v2.trans s11
    have y0 := y0.same s11
    have y1 := y1.same s11
    have y2 := y2.same s11
    have y3 := y3.same s11
    have y4 := y4.same s11
    have y5 := y5.same s11
    have y6 := y6.same s11
    have y7 := y7.same s11
    have y8 := y8.same s11
    have y9 := y9.same s11
    have y10 := y10.same s11
    have hl := s11 _ _ hl
    have y11 : One H11 v a11 (c11, none) := x11
    refine fun a12 H12 s12 _ x12 => ?_
    have t12 := t11.trans s12
    have y0 := y0.same s12
    have y1 := y1.same s12
    have y2 := y2.same s12
    have y3 := y3.same s12
    have y4 := y4.same s12
    have y5 := y5.same s12
    have y6 := y6.same s12
    have y7 := y7.same s12
    have y8 := y8.same s12
    have y9 := y9.same s12
    have y10 := y10.same s12
    have y11 := y11.same s12
    have hl := s12 _ _ hl
    have y12 : One H12 v a12 (c12, none) := x12
    refine fun a13 H13 s13 _ x13 => ?_
    have t13 := t12.trans s13
    have y0 := y0.same s13
    have y1 := y1.same s13
    have y2 := y2.same s13
    have y3 := y3.same s13
    have y4 := y4.same s13
    have y5 := y5.same s13
    have y6 := y6.same s13
    have y7 := y7.same s13
    have y8 := y8.same s13
    have y9 := y9.same s13
    have y10 := y10.same s13
    have y11 := y11.same s13
    have y12 := y12.same s13
    have hl := s13 _ _ hl
    have y13 : One H13 v a13 (c13, none) := x13
    refine ⟨by show 3 ≤ sizeLine; decide, fun e3 ne3 => ⟨l2, e3, [.ref a0, .ref a1, .ref a2, .ref a3, .ref a4, .ref a5, .ref a6, .ref a7, .ref a8, .ref a9, .ref a10], [.ref a11, .ref a12, .ref a13], rfl, rfl, same_new ne3 _ _ hl, upd_same, by show 14 ≤ sizeLine; decide, fun l3 nl3 => ?_⟩⟩
    have u3 : Same H13 (upd (upd H13 e3 (.lst [.ref a11, .ref a12, .ref a13])) l3 (.lst ([.ref a0, .ref a1, .ref a2, .ref a3, .ref a4, .ref a5, .ref a6, .ref a7, .ref a8, .ref a9, .ref a10] ++ [.ref a11, .ref a12, .ref a13]))) := (same_new ne3).trans (same_new nl3)
    have hl : (upd (upd H13 e3 (.lst [.ref a11, .ref a12, .ref a13])) l3 (.lst ([.ref a0, .ref a1, .ref a2, .ref a3, .ref a4, .ref a5, .ref a6, .ref a7, .ref a8, .ref a9, .ref a10] ++ [.ref a11, .ref a12, .ref a13]))) l3 = some (.lst [.ref a0, .ref a1, .ref a2, .ref a3, .ref a4, .ref a5, .ref a6, .ref a7, .ref a8, .ref a9, .ref a10, .ref a11, .ref a12, .ref a13]) := upd_same
    have v3 := t13.trans u3
    have y0 := y0.same u3
    have y1 := y1.same u3
    have y2 := y2.same u3
    have y3 := y3.same u3
    have y4 := y4.same u3
    have y5 := y5.same u3
    have y6 := y6.same u3
    have y7 := y7.same u3
    have y8 := y8.same u3
    have y9 := y9.same u3
    have y10 := y10.same u3
    have y11 := y11.same u3
    have y12 := y12.same u3
    have y13 := y13.same u3
    exact q _ l3 [a0, a1, a2, a3, a4, a5, a6, a7, a8, a9, a10, a11, a12, a13] v3 hl ⟨y0, y1, y2, y3, y4, y5, y6, y7, y8, y9, y10, y11, y12, y13, trivial⟩
theorem ok_name {f : Addr} {fd : FuncData} {c0 c1 c2 c3 c4 c5 c6 c7 c8 c9 c10 c11 c12 c13 : Addr} (T0 : XownW P w K mg base "NoBranch" "value" "value" c0) (T1 : XownW P w K mg base "TooShort" "reach" "reach" c1) (T2 : XownW P w K mg base "TooLong" "limit" "limit" c2) (T3 : XownW P w K mg base "TooManyBranches" "limit" "limit" c3) (T4 : XownW P w K mg base "BadScheme" "value" "value" c4) (T5 : XownW P w K mg base "BadCounter" "value" "value" c5) (T6 : XownW P w K mg base "BadBranch" "value" "value" c6) (T7 : XownW P w K mg base "BadOutcome" "value" "value" c7) (T8 : XownW P w K mg base "NoCell" "value" "value" c8) (T9 : XownW P w K mg base "BadText" "text" "text" c9) (T10 : XownW P w K mg base "BadLine" "line" "line" c10) (T11 : XownN P w K mg base "NothingToUndo" c11) (T12 : XownN P w K mg base "NoPredictor" c12) (T13 : XownN P w K mg base "NoTrace" c13) (F : L2.Fun K "_law_by_name" "_law_by_name" sName f fd) : FnOk P w K mg base L2.CX0 3 f fd ["_law_thing"] (spMade [(c0, some "value"), (c1, some "reach"), (c2, some "limit"), (c3, some "limit"), (c4, some "value"), (c5, some "value"), (c6, some "value"), (c7, some "value"), (c8, some "value"), (c9, some "text"), (c10, some "line"), (c11, none), (c12, none), (c13, none)]) := by
  refine F.ok scName (fun vs H Q E h => ?_) (fun cdv A outer s H vs Q E hr h => ?_)
  · obtain ⟨v, rfl, _⟩ := h
    rfl
  · obtain ⟨v, rfl, q⟩ := h
    refine ⟨_, pss_cons (ps_set (i := 1) scName.nd rfl (.inl rfl) (pe_lst (pa_cons (pe_newK T0 hr (by decide) (by rfl) (pv 0)) (pa_cons (pe_newK T1 hr (by decide) (by rfl) (pv 0)) (pa_cons (pe_newK T2 hr (by decide) (by rfl) (pv 0)) (pa_cons (pe_newK T3 hr (by decide) (by rfl) (pv 0)) pa_nil))))))
      (pss_cons (ps_set (i := 1) scName.nd rfl (.inl rfl) (pe_op op_cat (pv 1) (pe_lst (pa_cons (pe_newK T4 hr (by decide) (by rfl) (pv 0)) (pa_cons (pe_newK T5 hr (by decide) (by rfl) (pv 0)) (pa_cons (pe_newK T6 hr (by decide) (by rfl) (pv 0)) (pa_cons (pe_newK T7 hr (by decide) (by rfl) (pv 0)) pa_nil)))))))
      (pss_cons (ps_set (i := 1) scName.nd rfl (.inl rfl) (pe_op op_cat (pv 1) (pe_lst (pa_cons (pe_newK T8 hr (by decide) (by rfl) (pv 0)) (pa_cons (pe_newK T9 hr (by decide) (by rfl) (pv 0)) (pa_cons (pe_newK T10 hr (by decide) (by rfl) (pv 0)) pa_nil))))))
      (pss_one (ps_ret (pe_op op_cat (pv 1) (pe_lst (pa_cons (pe_new0 T11 hr (by decide) (by rfl)) (pa_cons (pe_new0 T12 hr (by decide) (by rfl)) (pa_cons (pe_new0 T13 hr (by decide) (by rfl)) pa_nil))))))))), ?_⟩
    have sH : Same H H := Same.refl _
    refine go_asg ?_
    refine ⟨v, rfl, fun a0 H0 s0 _ x0 => ?_⟩
    have t0 := sH.trans s0
    have y0 : One H0 v a0 (c0, some "value") := x0
    refine ⟨v, rfl, fun a1 H1 s1 _ x1 => ?_⟩
    have t1 := t0.trans s1
    have y0 := y0.same s1
    have y1 : One H1 v a1 (c1, some "reach") := x1
    refine ⟨v, rfl, fun a2 H2 s2 _ x2 => ?_⟩
    have t2 := t1.trans s2
    have y0 := y0.same s2
    have y1 := y1.same s2
    have y2 : One H2 v a2 (c2, some "limit") := x2
    refine ⟨v, rfl, fun a3 H3 s3 _ x3 => ?_⟩
    have t3 := t2.trans s3
    have y0 := y0.same s3
    have y1 := y1.same s3
    have y2 := y2.same s3
    have y3 : One H3 v a3 (c3, some "limit") := x3
    refine ⟨by show 4 ≤ sizeLine; decide, fun l0 nl0 => ?_⟩
    have hl : (upd H3 l0 (.lst [.ref a0, .ref a1, .ref a2, .ref a3])) l0 = some (.lst [.ref a0, .ref a1, .ref a2, .ref a3]) := upd_same
    have u0 : Same H3 (upd H3 l0 (.lst [.ref a0, .ref a1, .ref a2, .ref a3])) := same_new nl0
    have v0 := t3.trans u0
    have y0 := y0.same u0
    have y1 := y1.same u0
    have y2 := y2.same u0
    have y3 := y3.same u0
    generalize upd H3 l0 (.lst [.ref a0, .ref a1, .ref a2, .ref a3]) = G0 at hl u0 v0 y0 y1 y2 y3
    refine go_name ?_
    refine go_asg ?_
    refine ⟨.ref l0, rfl, ?_⟩
    refine ⟨v, rfl, fun a4 H4 s4 _ x4 => ?_⟩
    have t4 := v0.trans s4
    have y0 := y0.same s4
    have y1 := y1.same s4
    have y2 := y2.same s4
    have y3 := y3.same s4
    have hl := s4 _ _ hl
    have y4 : One H4 v a4 (c4, some "value") := x4
    refine ⟨v, rfl, fun a5 H5 s5 _ x5 => ?_⟩
    have t5 := t4.trans s5
    have y0 := y0.same s5
    have y1 := y1.same s5
    have y2 := y2.same s5
    have y3 := y3.same s5
    have y4 := y4.same s5
    have hl := s5 _ _ hl
    have y5 : One H5 v a5 (c5, some "value") := x5
    refine ⟨v, rfl, fun a6 H6 s6 _ x6 => ?_⟩
    have t6 := t5.trans s6
    have y0 := y0.same s6
    have y1 := y1.same s6
    have y2 := y2.same s6
    have y3 := y3.same s6
    have y4 := y4.same s6
    have y5 := y5.same s6
    have hl := s6 _ _ hl
    have y6 : One H6 v a6 (c6, some "value") := x6
    refine ⟨v, rfl, fun a7 H7 s7 _ x7 => ?_⟩
    have t7 := t6.trans s7
    have y0 := y0.same s7
    have y1 := y1.same s7
    have y2 := y2.same s7
    have y3 := y3.same s7
    have y4 := y4.same s7
    have y5 := y5.same s7
    have y6 := y6.same s7
    have hl := s7 _ _ hl
    have y7 : One H7 v a7 (c7, some "value") := x7
    refine ⟨by show 4 ≤ sizeLine; decide, fun e1 ne1 => ⟨l0, e1, [.ref a0, .ref a1, .ref a2, .ref a3], [.ref a4, .ref a5, .ref a6, .ref a7], rfl, rfl, same_new ne1 _ _ hl, upd_same, by show 8 ≤ sizeLine; decide, fun l1 nl1 => ?_⟩⟩
    have u1 : Same H7 (upd (upd H7 e1 (.lst [.ref a4, .ref a5, .ref a6, .ref a7])) l1 (.lst ([.ref a0, .ref a1, .ref a2, .ref a3] ++ [.ref a4, .ref a5, .ref a6, .ref a7]))) := (same_new ne1).trans (same_new nl1)
    have hl : (upd (upd H7 e1 (.lst [.ref a4, .ref a5, .ref a6, .ref a7])) l1 (.lst ([.ref a0, .ref a1, .ref a2, .ref a3] ++ [.ref a4, .ref a5, .ref a6, .ref a7]))) l1 = some (.lst [.ref a0, .ref a1, .ref a2, .ref a3, .ref a4, .ref a5, .ref a6, .ref a7]) := upd_same
    have v1 := t7.trans u1
    have y0 := y0.same u1
    have y1 := y1.same u1
    have y2 := y2.same u1
    have y3 := y3.same u1
    have y4 := y4.same u1
    have y5 := y5.same u1
    have y6 := y6.same u1
    have y7 := y7.same u1
    generalize upd (upd H7 e1 (.lst [.ref a4, .ref a5, .ref a6, .ref a7])) l1 (.lst ([.ref a0, .ref a1, .ref a2, .ref a3] ++ [.ref a4, .ref a5, .ref a6, .ref a7])) = G1 at hl u1 v1 y0 y1 y2 y3 y4 y5 y6 y7
    refine go_name ?_
    refine go_asg ?_
    refine ⟨.ref l1, rfl, ?_⟩
    refine ⟨v, rfl, fun a8 H8 s8 _ x8 => ?_⟩
    have t8 := v1.trans s8
    have y0 := y0.same s8
    have y1 := y1.same s8
    have y2 := y2.same s8
    have y3 := y3.same s8
    have y4 := y4.same s8
    have y5 := y5.same s8
    have y6 := y6.same s8
    have y7 := y7.same s8
    have hl := s8 _ _ hl
    have y8 : One H8 v a8 (c8, some "value") := x8
    refine ⟨v, rfl, fun a9 H9 s9 _ x9 => ?_⟩
    have t9 := t8.trans s9
    have y0 := y0.same s9
    have y1 := y1.same s9
    have y2 := y2.same s9
    have y3 := y3.same s9
    have y4 := y4.same s9
    have y5 := y5.same s9
    have y6 := y6.same s9
    have y7 := y7.same s9
    have y8 := y8.same s9
    have hl := s9 _ _ hl
    have y9 : One H9 v a9 (c9, some "text") := x9
    refine ⟨v, rfl, fun a10 H10 s10 _ x10 => ?_⟩
    have t10 := t9.trans s10
    have y0 := y0.same s10
    have y1 := y1.same s10
    have y2 := y2.same s10
    have y3 := y3.same s10
    have y4 := y4.same s10
    have y5 := y5.same s10
    have y6 := y6.same s10
    have y7 := y7.same s10
    have y8 := y8.same s10
    have y9 := y9.same s10
    have hl := s10 _ _ hl
    have y10 : One H10 v a10 (c10, some "line") := x10
    refine ⟨by show 3 ≤ sizeLine; decide, fun e2 ne2 => ⟨l1, e2, [.ref a0, .ref a1, .ref a2, .ref a3, .ref a4, .ref a5, .ref a6, .ref a7], [.ref a8, .ref a9, .ref a10], rfl, rfl, same_new ne2 _ _ hl, upd_same, by show 11 ≤ sizeLine; decide, fun l2 nl2 => ?_⟩⟩
    have u2 : Same H10 (upd (upd H10 e2 (.lst [.ref a8, .ref a9, .ref a10])) l2 (.lst ([.ref a0, .ref a1, .ref a2, .ref a3, .ref a4, .ref a5, .ref a6, .ref a7] ++ [.ref a8, .ref a9, .ref a10]))) := (same_new ne2).trans (same_new nl2)
    have hl : (upd (upd H10 e2 (.lst [.ref a8, .ref a9, .ref a10])) l2 (.lst ([.ref a0, .ref a1, .ref a2, .ref a3, .ref a4, .ref a5, .ref a6, .ref a7] ++ [.ref a8, .ref a9, .ref a10]))) l2 = some (.lst [.ref a0, .ref a1, .ref a2, .ref a3, .ref a4, .ref a5, .ref a6, .ref a7, .ref a8, .ref a9, .ref a10]) := upd_same
    have v2 := t10.trans u2
    have y0 := y0.same u2
    have y1 := y1.same u2
    have y2 := y2.same u2
    have y3 := y3.same u2
    have y4 := y4.same u2
    have y5 := y5.same u2
    have y6 := y6.same u2
    have y7 := y7.same u2
    have y8 := y8.same u2
    have y9 := y9.same u2
    have y10 := y10.same u2
    generalize upd (upd H10 e2 (.lst [.ref a8, .ref a9, .ref a10])) l2 (.lst ([.ref a0, .ref a1, .ref a2, .ref a3, .ref a4, .ref a5, .ref a6, .ref a7] ++ [.ref a8, .ref a9, .ref a10])) = G2 at hl u2 v2 y0 y1 y2 y3 y4 y5 y6 y7 y8 y9 y10
    refine go_name ?_
    refine ⟨.ref l2, rfl, ?_⟩
    refine fun a11 H11 s11 _ x11 => ?_
    have t11 := v2.trans s11
    have y0 := y0.same s11
    have y1 := y1.same s11
    have y2 := y2.same s11
    have y3 := y3.same s11
    have y4 := y4.same s11
    have y5 := y5.same s11
    have y6 := y6.same s11
    have y7 := y7.same s11
    have y8 := y8.same s11
    have y9 := y9.same s11
    have y10 := y10.same s11
    have hl := s11 _ _ hl
    have y11 : One H11 v a11 (c11, none) := x11
    refine fun a12 H12 s12 _ x12 => ?_
    have t12 := t11.trans s12
    have y0 := y0.same s12
    have y1 := y1.same s12
    have y2 := y2.same s12
    have y3 := y3.same s12
    have y4 := y4.same s12
    have y5 := y5.same s12
    have y6 := y6.same s12
    have y7 := y7.same s12
    have y8 := y8.same s12
    have y9 := y9.same s12
    have y10 := y10.same s12
    have y11 := y11.same s12
    have hl := s12 _ _ hl
    have y12 : One H12 v a12 (c12, none) := x12
    refine fun a13 H13 s13 _ x13 => ?_
    have t13 := t12.trans s13
    have y0 := y0.same s13
    have y1 := y1.same s13
    have y2 := y2.same s13
    have y3 := y3.same s13
    have y4 := y4.same s13
    have y5 := y5.same s13
    have y6 := y6.same s13
    have y7 := y7.same s13
    have y8 := y8.same s13
    have y9 := y9.same s13
    have y10 := y10.same s13
    have y11 := y11.same s13
    have y12 := y12.same s13
    have hl := s13 _ _ hl
    have y13 : One H13 v a13 (c13, none) := x13
    refine ⟨by show 3 ≤ sizeLine; decide, fun e3 ne3 => ⟨l2, e3, [.ref a0, .ref a1, .ref a2, .ref a3, .ref a4, .ref a5, .ref a6, .ref a7, .ref a8, .ref a9, .ref a10], [.ref a11, .ref a12, .ref a13], rfl, rfl, same_new ne3 _ _ hl, upd_same, by show 14 ≤ sizeLine; decide, fun l3 nl3 => ?_⟩⟩
    have u3 : Same H13 (upd (upd H13 e3 (.lst [.ref a11, .ref a12, .ref a13])) l3 (.lst ([.ref a0, .ref a1, .ref a2, .ref a3, .ref a4, .ref a5, .ref a6, .ref a7, .ref a8, .ref a9, .ref a10] ++ [.ref a11, .ref a12, .ref a13]))) := (same_new ne3).trans (same_new nl3)
    have hl : (upd (upd H13 e3 (.lst [.ref a11, .ref a12, .ref a13])) l3 (.lst ([.ref a0, .ref a1, .ref a2, .ref a3, .ref a4, .ref a5, .ref a6, .ref a7, .ref a8, .ref a9, .ref a10] ++ [.ref a11, .ref a12, .ref a13]))) l3 = some (.lst [.ref a0, .ref a1, .ref a2, .ref a3, .ref a4, .ref a5, .ref a6, .ref a7, .ref a8, .ref a9, .ref a10, .ref a11, .ref a12, .ref a13]) := upd_same
    have v3 := t13.trans u3
    have y0 := y0.same u3
    have y1 := y1.same u3
    have y2 := y2.same u3
    have y3 := y3.same u3
    have y4 := y4.same u3
    have y5 := y5.same u3
    have y6 := y6.same u3
    have y7 := y7.same u3
    have y8 := y8.same u3
    have y9 := y9.same u3
    have y10 := y10.same u3
    have y11 := y11.same u3
    have y12 := y12.same u3
    have y13 := y13.same u3
    exact q _ l3 [a0, a1, a2, a3, a4, a5, a6, a7, a8, a9, a10, a11, a12, a13] v3 hl ⟨y0, y1, y2, y3, y4, y5, y6, y7, y8, y9, y10, y11, y12, y13, trivial⟩
def spKept (K : PySem.W.Frag) (kd : List (Addr × Option Str)) : Sp := fun vs H Q _ => ∃ (l : Addr) (as : List Addr) (v : V), vs = [.ref l] ∧ H l = some (.lst (as.map V.ref)) ∧ Rows H v as kd ∧ ∀ H' r, Same H H' → H r = none → (r == sysModules) = false → H' r = some (.lst (List.replicate 11 v)) → Q (.ref r) H'
theorem ok_kept {f : Addr} {fd : FuncData} {k : Nat} {c0 c1 c2 c3 c4 c5 c6 c7 c8 c9 c10 c11 c12 c13 : Addr} (T0 : XownW P w K mg base "NoBranch" "value" "value" c0) (T1 : XownW P w K mg base "TooShort" "reach" "reach" c1) (T2 : XownW P w K mg base "TooLong" "limit" "limit" c2) (T3 : XownW P w K mg base "TooManyBranches" "limit" "limit" c3) (T4 : XownW P w K mg base "BadScheme" "value" "value" c4) (T5 : XownW P w K mg base "BadCounter" "value" "value" c5) (T6 : XownW P w K mg base "BadBranch" "value" "value" c6) (T7 : XownW P w K mg base "BadOutcome" "value" "value" c7) (T8 : XownW P w K mg base "NoCell" "value" "value" c8) (T9 : XownW P w K mg base "BadText" "text" "text" c9) (T10 : XownW P w K mg base "BadLine" "line" "line" c10) (F : L2.Fun K "_law_kept" "_law_kept" sKept f fd) : FnOk P w K mg base L2.CX0 (k + 1) f fd ["_law_some"] (spKept K [(c0, some "value"), (c1, some "reach"), (c2, some "limit"), (c3, some "limit"), (c4, some "value"), (c5, some "value"), (c6, some "value"), (c7, some "value"), (c8, some "value"), (c9, some "text"), (c10, some "line"), (c11, none), (c12, none), (c13, none)]) := by
  refine F.ok scKept (fun vs H Q E h => ?_) (fun cdv A outer s H vs Q E hr h => ?_)
  · obtain ⟨l, as, v, rfl, _⟩ := h
    rfl
  · obtain ⟨l, as, v, rfl, hl, h, q⟩ := h
    refine ⟨_, pss_cons (ps_set (i := 1) scKept.nd rfl (.inl rfl) (pe_lst (pa_cons (pe_xv (pe_ix ix_list (pv 0) pe_int (fun _ _ => rfl))) (pa_cons (pe_xv (pe_ix ix_list (pv 0) pe_int (fun _ _ => rfl))) (pa_cons (pe_xv (pe_ix ix_list (pv 0) pe_int (fun _ _ => rfl))) (pa_cons (pe_xv (pe_ix ix_list (pv 0) pe_int (fun _ _ => rfl))) (pa_cons (pe_xv (pe_ix ix_list (pv 0) pe_int (fun _ _ => rfl))) (pa_cons (pe_xv (pe_ix ix_list (pv 0) pe_int (fun _ _ => rfl))) (pa_cons (pe_xv (pe_ix ix_list (pv 0) pe_int (fun _ _ => rfl))) pa_nil)))))))))
      (pss_one (ps_ret (pe_op op_catN (pv 1) (pe_lst (pa_cons (pe_xv (pe_ix ix_list (pv 0) pe_int (fun _ _ => rfl))) (pa_cons (pe_xv (pe_ix ix_list (pv 0) pe_int (fun _ _ => rfl))) (pa_cons (pe_xv (pe_ix ix_list (pv 0) pe_int (fun _ _ => rfl))) (pa_cons (pe_xv (pe_ix ix_list (pv 0) pe_int (fun _ _ => rfl))) pa_nil)))))))), ?_⟩
    obtain ⟨a0, as, rfl, x0, h⟩ := h.inv
    obtain ⟨a1, as, rfl, x1, h⟩ := h.inv
    obtain ⟨a2, as, rfl, x2, h⟩ := h.inv
    obtain ⟨a3, as, rfl, x3, h⟩ := h.inv
    obtain ⟨a4, as, rfl, x4, h⟩ := h.inv
    obtain ⟨a5, as, rfl, x5, h⟩ := h.inv
    obtain ⟨a6, as, rfl, x6, h⟩ := h.inv
    obtain ⟨a7, as, rfl, x7, h⟩ := h.inv
    obtain ⟨a8, as, rfl, x8, h⟩ := h.inv
    obtain ⟨a9, as, rfl, x9, h⟩ := h.inv
    obtain ⟨a10, as, rfl, x10, h⟩ := h.inv
    obtain ⟨a11, as, rfl, x11, h⟩ := h.inv
    obtain ⟨a12, as, rfl, x12, h⟩ := h.inv
    obtain ⟨a13, as, rfl, x13, h⟩ := h.inv
    obtain rfl := h.inv0
    refine go_asg ?_
    refine ⟨.ref l, rfl, l, _, 0, .ref a0, rfl, rfl, SqL.of hl, rfl, a0, c0, v, rfl, x0, T0.X.xf, T0.X.no, ⟨.ref l, rfl, l, _, 1, .ref a1, rfl, rfl, SqL.of hl, rfl, a1, c1, v, rfl, x1, T1.X.xf, T1.X.no, ⟨.ref l, rfl, l, _, 2, .ref a2, rfl, rfl, SqL.of hl, rfl, a2, c2, v, rfl, x2, T2.X.xf, T2.X.no, ⟨.ref l, rfl, l, _, 3, .ref a3, rfl, rfl, SqL.of hl, rfl, a3, c3, v, rfl, x3, T3.X.xf, T3.X.no, ⟨.ref l, rfl, l, _, 4, .ref a4, rfl, rfl, SqL.of hl, rfl, a4, c4, v, rfl, x4, T4.X.xf, T4.X.no, ⟨.ref l, rfl, l, _, 5, .ref a5, rfl, rfl, SqL.of hl, rfl, a5, c5, v, rfl, x5, T5.X.xf, T5.X.no, ⟨.ref l, rfl, l, _, 6, .ref a6, rfl, rfl, SqL.of hl, rfl, a6, c6, v, rfl, x6, T6.X.xf, T6.X.no, by show 7 ≤ sizeLine; decide, fun p np => ?_⟩⟩⟩⟩⟩⟩⟩
    have s1 : Same H (upd H p (.lst [v, v, v, v, v, v, v])) := same_new np
    have hp : (upd H p (.lst [v, v, v, v, v, v, v])) p = some (.lst [v, v, v, v, v, v, v]) := upd_same
    refine go_name ?_
    refine ⟨.ref p, rfl, ⟨.ref l, rfl, l, _, 7, .ref a7, rfl, rfl, SqL.of (s1 _ _ hl), rfl, a7, c7, v, rfl, (Xv.same (f := "value") x7 s1), T7.X.xf, T7.X.no, ⟨.ref l, rfl, l, _, 8, .ref a8, rfl, rfl, SqL.of (s1 _ _ hl), rfl, a8, c8, v, rfl, (Xv.same (f := "value") x8 s1), T8.X.xf, T8.X.no, ⟨.ref l, rfl, l, _, 9, .ref a9, rfl, rfl, SqL.of (s1 _ _ hl), rfl, a9, c9, v, rfl, (Xv.same (f := "text") x9 s1), T9.X.xf, T9.X.no, ⟨.ref l, rfl, l, _, 10, .ref a10, rfl, rfl, SqL.of (s1 _ _ hl), rfl, a10, c10, v, rfl, (Xv.same (f := "line") x10 s1), T10.X.xf, T10.X.no, by show 4 ≤ sizeLine; decide, fun e ne => ⟨p, e, [v, v, v, v, v, v, v], [v, v, v, v], rfl, rfl, same_new ne _ _ hp, upd_same, by show 11 ≤ sizeLine; decide, fun r nr yr => ?_⟩⟩⟩⟩⟩⟩
    have s2 := (s1.trans (same_new (o := HO.lst [v, v, v, v]) ne)).trans (same_new (o := HO.lst ([v, v, v, v, v, v, v] ++ [v, v, v, v])) nr)
    refine q _ r s2 ?_ yr upd_same
    cases e1 : H r with
    | none => rfl
    | some o => exact absurd (same_new ne _ _ (s1 _ _ e1)) (by rw [nr]; exact fun z => nomatch z)
end
end Pf
namespace Pf
open PySem PySem.Spec PyProof.Rows L2 Gk
abbrev sRight : Stmt := topS 25
abbrev nRight : List Str := ["_law_thing", "_law_some", "_law_at", "_law_mistake", "_law_to"]
theorem scRight : FnScope nRight ["_law_thing"] (defScope sRight) := ⟨rfl, rfl, rfl, by decide +kernel, rfl, by decide +kernel, by decide +kernel⟩
theorem op_eqK {X : Cx} : OpR X (compareOp .Eq) rEq := op_eq
/-- of which kind the i-th is -/
def rowB (i : Nat) : List Bool := (List.range 14).map fun j => decide (i = j)
theorem rowB_get : ∀ i, i < 14 → ∀ j, j < 14 → (rowB i).getD j false = decide (i = j) := by decide +kernel
theorem rowB_eqv : ∀ i, i < 14 → (PyData.eqv (.list ((rowB i).map PyData.bool)) (.list ((rowB i).map PyData.bool)) && SeqAt.shaped (.list ((rowB i).map PyData.bool))) = true := by decide +kernel
theorem rowB_take (i j : Nat) (h : j < 14) : ((rowB i).take (j + 1)).map V.bl = ((rowB i).take j).map V.bl ++ [.bl (decide (i = j))] := by
  have e : (rowB i)[j]? = some (decide (i = j)) := by
    unfold rowB
    rw [List.getElem?_map, List.getElem?_range h]
    rfl
  rw [List.take_add_one, e, List.map_append]
  rfl
theorem dp_bls {K : PySem.W.Frag} {H : Hp} : ∀ bs : List Bool, DpAll K H (bs.map V.bl) (bs.map PyData.bool)
  | [] => .nil
  | b :: bs => .cons (.bl b) (dp_bls bs)
theorem dv_rep {M : Addr → Prop} {K : PySem.W.Frag} {H : Hp} {v : V} {d : PyData} (h : Dv M K H v d) : ∀ n : Nat, DvAll M K H (List.replicate n v) (List.replicate n d)
  | 0 => .nil
  | n + 1 => .cons h (dv_rep h n)
theorem show_rep {d : PyData} (f1 : fin d (10 ^ 17) = true) (f2 : d.depth ≤ 8) (f3 : big d ≤ 1000) : Show (.list (List.replicate 11 d)) := by
  refine Show.of (B := 10 ^ 17) (by decide) ?_ ?_ ?_
  · simp only [List.replicate, fin, finAll, f1, Bool.and_self]
  · simp only [List.replicate, PyData.depth, PyData.depthAll]
    omega
  · simp only [List.replicate, big, bigAll]
    omega
theorem rows_ref {H : Hp} {v : V} {as : List Addr} {cs : List (Addr × Option Str)} {i : Nat} {x : V} (h : Rows H v as cs) (e : (as.map V.ref)[i]? = some x) : ∃ a c, x = .ref a ∧ cs[i]? = some c ∧ Xi H a c.1 := by
  rw [List.getElem?_map] at e
  cases ea : as[i]? with
  | none => rw [ea] at e; cases e
  | some a =>
    rw [ea] at e
    obtain ⟨c, hc, o⟩ := h.at ea
    exact ⟨a, c, (Option.some.inj e).symm, hc, o.i⟩
theorem row_cls {c : Addr × Option Str} {i : Nat} {c0 c1 c2 c3 c4 c5 c6 c7 c8 c9 c10 c11 c12 c13 : Addr} (h : ([(c0, some "value"), (c1, some "reach"), (c2, some "limit"), (c3, some "limit"), (c4, some "value"), (c5, some "value"), (c6, some "value"), (c7, some "value"), (c8, some "value"), (c9, some "text"), (c10, some "line"), (c11, none), (c12, none), (c13, none)] : List (Addr × Option Str))[i]? = some c) : c.1 = [c0, c1, c2, c3, c4, c5, c6, c7, c8, c9, c10, c11, c12, c13].getD i 0 := by
  match i, h with
  | 0, h => obtain rfl := Option.some.inj h; rfl
  | 1, h => obtain rfl := Option.some.inj h; rfl
  | 2, h => obtain rfl := Option.some.inj h; rfl
  | 3, h => obtain rfl := Option.some.inj h; rfl
  | 4, h => obtain rfl := Option.some.inj h; rfl
  | 5, h => obtain rfl := Option.some.inj h; rfl
  | 6, h => obtain rfl := Option.some.inj h; rfl
  | 7, h => obtain rfl := Option.some.inj h; rfl
  | 8, h => obtain rfl := Option.some.inj h; rfl
  | 9, h => obtain rfl := Option.some.inj h; rfl
  | 10, h => obtain rfl := Option.some.inj h; rfl
  | 11, h => obtain rfl := Option.some.inj h; rfl
  | 12, h => obtain rfl := Option.some.inj h; rfl
  | 13, h => obtain rfl := Option.some.inj h; rfl
  | n + 14, h => cases h
theorem row_in {c : Addr × Option Str} {i : Nat} {c0 c1 c2 c3 c4 c5 c6 c7 c8 c9 c10 c11 c12 c13 : Addr} (h : ([(c0, some "value"), (c1, some "reach"), (c2, some "limit"), (c3, some "limit"), (c4, some "value"), (c5, some "value"), (c6, some "value"), (c7, some "value"), (c8, some "value"), (c9, some "text"), (c10, some "line"), (c11, none), (c12, none), (c13, none)] : List (Addr × Option Str))[i]? = some c) : c.1 ∈ [c0, c1, c2, c3, c4, c5, c6, c7, c8, c9, c10, c11, c12, c13] := by
  match i, h with
  | 0, h => obtain rfl := Option.some.inj h; exact List.mem_of_getElem? (i := 0) rfl
  | 1, h => obtain rfl := Option.some.inj h; exact List.mem_of_getElem? (i := 1) rfl
  | 2, h => obtain rfl := Option.some.inj h; exact List.mem_of_getElem? (i := 2) rfl
  | 3, h => obtain rfl := Option.some.inj h; exact List.mem_of_getElem? (i := 3) rfl
  | 4, h => obtain rfl := Option.some.inj h; exact List.mem_of_getElem? (i := 4) rfl
  | 5, h => obtain rfl := Option.some.inj h; exact List.mem_of_getElem? (i := 5) rfl
  | 6, h => obtain rfl := Option.some.inj h; exact List.mem_of_getElem? (i := 6) rfl
  | 7, h => obtain rfl := Option.some.inj h; exact List.mem_of_getElem? (i := 7) rfl
  | 8, h => obtain rfl := Option.some.inj h; exact List.mem_of_getElem? (i := 8) rfl
  | 9, h => obtain rfl := Option.some.inj h; exact List.mem_of_getElem? (i := 9) rfl
  | 10, h => obtain rfl := Option.some.inj h; exact List.mem_of_getElem? (i := 10) rfl
  | 11, h => obtain rfl := Option.some.inj h; exact List.mem_of_getElem? (i := 11) rfl
  | 12, h => obtain rfl := Option.some.inj h; exact List.mem_of_getElem? (i := 12) rfl
  | 13, h => obtain rfl := Option.some.inj h; exact List.mem_of_getElem? (i := 13) rfl
  | n + 14, h => cases h
section
variable {P : Program} {w : World} {K : PySem.W.Frag} {mg : Str → Option Value} {base : Heap}
def spRight (K : PySem.W.Frag) : Sp := fun vs H Q _ => ∃ (M : Addr → Prop) (v : V) (d : PyData), vs = [v] ∧ Dv M K H v d ∧ fin d (10 ^ 17) = true ∧ d.depth ≤ 8 ∧ big d ≤ 1000 ∧ ∀ H', Same H H' → Q (.bl true) H'
/-- the inner test of one exception: by its kinds -/
theorem ok_right {f : Addr} {fd : FuncData} {c0 c1 c2 c3 c4 c5 c6 c7 c8 c9 c10 c11 c12 c13 CP : Addr} (DP : Dfn P w K mg base 3 "_law_by_place" ["_law_thing"] (spMade [(c0, some "value"), (c1, some "reach"), (c2, some "limit"), (c3, some "limit"), (c4, some "value"), (c5, some "value"), (c6, some "value"), (c7, some "value"), (c8, some "value"), (c9, some "text"), (c10, some "line"), (c11, none), (c12, none), (c13, none)])) (DN : Dfn P w K mg base 3 "_law_by_name" ["_law_thing"] (spMade [(c0, some "value"), (c1, some "reach"), (c2, some "limit"), (c3, some "limit"), (c4, some "value"), (c5, some "value"), (c6, some "value"), (c7, some "value"), (c8, some "value"), (c9, some "text"), (c10, some "line"), (c11, none), (c12, none), (c13, none)]))
    (DK : Dfn P w K mg base 1 "_law_kept" ["_law_some"] (spKept K [(c0, some "value"), (c1, some "reach"), (c2, some "limit"), (c3, some "limit"), (c4, some "value"), (c5, some "value"), (c6, some "value"), (c7, some "value"), (c8, some "value"), (c9, some "text"), (c10, some "line"), (c11, none), (c12, none), (c13, none)])) (DI : Dfn P w K mg base 1 "_law_kinds" ["_law_mistake"] (spKinds K [c0, c1, c2, c3, c4, c5, c6, c7, c8, c9, c10, c11, c12, c13])) (T : Kinds K [c0, c1, c2, c3, c4, c5, c6, c7, c8, c9, c10, c11, c12, c13] CP) (gP : mg "PastError" = some (.ref CP))
    (mV : mg "ValueError" = none) (mi : mg "isinstance" = none) (mp : mg "repr" = none) (me : mg "enumerate" = none) (mr : mg "range" = none) (F : L2.Fun K "_law_right" "_law_right" sRight f fd) : FnG P w K mg base 5 f fd ["_law_thing"] (spRight K) := by
  refine fnG F scRight (fun vs H Q E h => ?_) (fun cdv A outer s H vs Q hr hg h => ?_)
  · obtain ⟨M, v, d, rfl, _⟩ := h
    rfl
  · obtain ⟨M, v, d, rfl, dv0, f1, f2, f3, q⟩ := h
    have dv : Dv (fun _ => False) K H v d := dv0.keep (Off.same (Same.refl H)) fun _ _ _ _ z => z
    have sh := show_rep f1 f2 f3
    refine ⟨_, pss_cons (ps_for PassesOwn.never rfl (pi_tup (pe_tup (pa_cons (pe_d DP hr (by decide) (by rfl) (pa_cons (pv 0) pa_nil)) (pa_cons (pe_d DN hr (by decide) (by rfl) (pa_cons (pv 0) pa_nil)) pa_nil)))) (pg_name (i := 1) scRight.nd rfl (.inl rfl))
        (pss_cons (ps_if (pt_cmpR op_ne (pe_callB (call_reprV (fun _ => False) hr hg) (by rfl) mp (by decide +kernel) (pa_cons (pe_d DK hr (by decide) (by rfl) (pa_cons (pv 1) pa_nil)) pa_nil)) (pe_callB (call_reprV (fun _ => False) hr hg) (by rfl) mp (by decide +kernel) (pa_cons (pe_op op_repN (pe_lst (pa_cons (pv 0) pa_nil)) pe_int) pa_nil)) (nomark _)) (pss_one (ps_ret pe_bl)) pss_nil)
        (pss_one (ps_for PassesOwn.never rfl (pi_enum rfl me (pa_cons (pv 1) pa_nil)) (pg_tup (by rfl) (pgs_cons (pg_name (i := 2) scRight.nd rfl (.inr rfl)) (pgs_cons (pg_name (i := 3) scRight.nd rfl (.inl rfl)) pgs_nil)))
          (pss_cons (ps_if (pt_cmpR (op_neD hr.units) (pe_d DI hr (by decide) (by rfl) (pa_cons (pv 3) pa_nil)) (pe_lc (own := [("_law_to", 4)]) (g := gName 4) (by rfl) scRight.nd (pi_range1 (by rfl) mr (pa_cons pe_int pa_nil)) (blkOk_by (N := nRight) (sc := defScope sRight) (by decide +kernel))
              (fun _ _ _ _ _ => pg_name (i := 4) scRight.nd rfl (.inl rfl)) (fun _ _ _ _ _ => pts_nil) (fun _ _ _ _ _ => pe_cmpR op_eqK (pv 2) (pv 4) (nomark _))) (nomark _)) (pss_one (ps_ret pe_bl)) pss_nil)
          (pss_one (ps_if (PW.pt (pw_or (pt_not (pt_val (pe_callB call_isX (by rfl) mi isi_is (pa_cons (pv 3) (pa_cons (pe_glob (v := .ref CP) (by rfl) gP rfl) pa_nil)))))
              (pw_or1 (pt_not (pt_val (pe_callB call_isX (by rfl) mi isi_is (pa_cons (pv 3) (pa_cons (pe_bltn (v := .ty "ValueError") (by rfl) mV (by decide +kernel) rfl) pa_nil)))))))) (pss_one (ps_ret pe_bl)) pss_nil)))))))
      (pss_one (ps_ret pe_bl)), ?_⟩
    refine ⟨v, rfl, v, rfl, fun H1 l1 as1 s1 hl1 r1 => ⟨v, rfl, v, rfl, fun H2 l2 as2 s2 hl2 r2 => ⟨by show 2 ≤ sizeLine; decide, fun t nt => ?_⟩⟩⟩
    have s3 : Same H2 (upd H2 t (.tup [.ref l1, .ref l2])) := same_new nt
    have s03 := (s1.trans s2).trans s3
    have ht : SqT K (upd H2 t (.tup [.ref l1, .ref l2])) t [.ref l1, .ref l2] := .inl (.inl upd_same)
    have rows : ∀ x, x ∈ [V.ref l1, V.ref l2] → ∃ l as, x = .ref l ∧ (upd H2 t (.tup [.ref l1, .ref l2])) l = some (.lst (as.map V.ref)) ∧ Rows (upd H2 t (.tup [.ref l1, .ref l2])) v as [(c0, some "value"), (c1, some "reach"), (c2, some "limit"), (c3, some "limit"), (c4, some "value"), (c5, some "value"), (c6, some "value"), (c7, some "value"), (c8, some "value"), (c9, some "text"), (c10, some "line"), (c11, none), (c12, none), (c13, none)] := fun x hx => by
      rcases List.mem_cons.mp hx with rfl | hx
      · exact ⟨l1, as1, rfl, s3 _ _ (s2 _ _ hl1), (r1.same s2).same s3⟩
      · rw [List.mem_singleton.mp hx]
        exact ⟨l2, as2, rfl, s3 _ _ hl2, r2.same s3⟩
    generalize upd H2 t (.tup [.ref l1, .ref l2]) = G0 at s03 ht rows
    refine ⟨t, rfl, ⟨_, ht⟩, ?_⟩
    refine for_tup (K := K) (a := t) (xs := [.ref l1, .ref l2]) (fun i σ H' => (∃ y1 y2 y3, σ = [some v, y1, y2, y3, none]) ∧ Same G0 H') ⟨⟨_, _, _, rfl⟩, Same.refl _⟩ (fun i σ H' _ hp => Same.seqT hp.2 ht) (fun i x σ B1 hx hp => ?_) (fun σ B1 hp => ?_)
    · obtain ⟨⟨y1, y2, y3, rfl⟩, sm⟩ := hp
      obtain ⟨l, as, rfl, hl, ro⟩ := rows x (List.mem_of_getElem? hx)
      have hl := sm _ _ hl
      have ro := ro.same sm
      have s0 := s03.trans sm
      refine go_name ?_
      refine ⟨.ref l, rfl, l, as, v, rfl, hl, ro, fun B2 r s2 nr yr hr2 => ?_⟩
      have dvr : Dv (fun _ => False) K B2 (.ref r) (.list (List.replicate 11 d)) := .lst hr2 (fun z => z) yr (dv_rep (dv.off (Off.same (s0.trans s2))) 11)
      refine ⟨.ref r, _, rfl, dvr, sh, v, rfl, by show 1 ≤ sizeLine; decide, fun e ne => ⟨e, 11, v, rfl, rfl, upd_same, by decide, by decide, fun p np yp => ?_⟩⟩
      have s3 : Same B2 (upd (upd B2 e (.lst [v])) p (.lst (List.replicate (11 : Int).toNat v))) := (same_new ne).trans (same_new np)
      have dvp : Dv (fun _ => False) K (upd (upd B2 e (.lst [v])) p (.lst (List.replicate (11 : Int).toNat v))) (.ref p) (.list (List.replicate 11 d)) := .lst upd_same (fun z => z) yp (dv_rep (dv.off (Off.same ((s0.trans s2).trans s3))) 11)
      generalize upd (upd B2 e (.lst [v])) p (.lst (List.replicate (11 : Int).toNat v)) = B3 at s3 dvp
      have s13 := s2.trans s3
      refine ⟨.ref p, _, rfl, dvp, sh, rfl, _, rfl, iteNS rfl ?_⟩
      refine ⟨.ref l, rfl, l, as.map V.ref, rfl, SqL.of (s13 _ _ hl), ?_⟩
      have ro3 := ro.same s13
      have hl3 := s13 _ _ hl
      refine for_it walk_enum (fun i σ H' => (∃ y2 y3, σ = [some v, some (.ref l), y2, y3, none]) ∧ Same B3 H') ⟨⟨_, _, rfl⟩, Same.refl _⟩ (fun i σ H' _ hp => SqL.of (hp.2 _ _ hl3)) (fun i z σ C1 C2 hi hp hy => ?_) (fun σ C1 hp => ?_)
      · obtain ⟨⟨y2, y3, rfl⟩, sc⟩ := hp
        obtain ⟨T2, _, m0, rfl, nT, rfl, e1, hx2⟩ := hy
        obtain rfl := Option.some.inj e1
        have hx2 : (as.map V.ref)[i]? = some m0 := hx2
        have s2' : Same B3 (upd C1 T2 (.tup [.int (i : Nat), m0])) := sc.trans (same_new nT)
        obtain ⟨a, c, rfl, hc, xi⟩ := rows_ref (ro3.same s2') hx2
        have hT : SqT K (upd C1 T2 (.tup [.int (i : Nat), .ref a])) T2 [.int (i : Nat), .ref a] := .inl (.inl upd_same)
        have i14 : i < 14 := (List.getElem?_eq_some_iff.mp hc).1
        have ec : c.1 = [c0, c1, c2, c3, c4, c5, c6, c7, c8, c9, c10, c11, c12, c13].getD i 0 := row_cls hc
        have hcs : c.1 ∈ [c0, c1, c2, c3, c4, c5, c6, c7, c8, c9, c10, c11, c12, c13] := row_in hc
        have ex := T.exc c.1 (List.mem_cons_of_mem _ hcs)
        generalize upd C1 T2 (.tup [.int (i : Nat), .ref a]) = C2 at s2' xi hT
        refine ⟨T2, _, rfl, hT, rfl, _, _, rfl, _, _, rfl, rfl, ?_⟩
        refine ⟨.ref a, rfl, a, c.1, rowB i, rfl, xi, ex, rfl, fun j hj => ?_, fun C3 b s4 hb => ?_⟩
        · rw [rowB_get i i14 j hj, ec]
          exact T.kit i j i14 hj
        refine ⟨14, rfl, by decide, by decide, fun D nD => lc_range (lo := 0) (n := (14 : Int).toNat) (fun j H' => Same C3 H' ∧ H' D = some (.lst (((rowB i).take j).map V.bl))) ⟨same_new nD, upd_same⟩ (fun j C4 hj hp => ?_) (fun C4 hp => ?_)⟩
        · obtain ⟨sm4, hD⟩ := hp
          have hj : j < 14 := hj
          refine ⟨rfl, .int (i : Nat), rfl, .int (0 + (j : Nat)), rfl, rfl, _, hD, ?_, ?_, ?_⟩
          · rw [List.length_map, List.length_take]
            exact small1000 (by omega)
          · intro b o h
            rw [upd_ne (ne_of_none h nD)]
            exact sm4 b o h
          · rw [upd_same, rowB_take i j hj]
            have : decide ((V.int ((i : Nat) : Int)) = V.int (0 + ((j : Nat) : Int))) = decide (i = j) := by
              apply decide_eq_decide.mpr
              constructor
              · intro z
                injection z with z
                omega
              · rintro rfl
                rw [Int.zero_add]
            rw [this]
        · obtain ⟨sm4, hD⟩ := hp
          have hD : C4 D = some (.lst ((rowB i).map V.bl)) := by
            rw [hD, show (14 : Int).toNat = (rowB i).length from rfl, List.take_length]
          have ev := rowB_eqv i i14
          rw [Bool.and_eq_true] at ev
          refine ⟨.list ((rowB i).map PyData.bool), .list ((rowB i).map PyData.bool), .lst (SqL.of (sm4 _ _ hb)) (dp_bls _), .lst (SqL.of hD) (dp_bls _), ev.2, ev.2, _, rfl, ?_⟩
          rw [ev.1]
          refine iteF ?_
          have xi4 := (xi.same s4).same sm4
          refine ⟨.ref a, rfl, a, c.1, .ref CP, .ref CP, true, rfl, xi4, ex, fun _ r => r, T.par c.1 hcs, _, rfl, iteF ?_⟩
          exact ⟨.ref a, rfl, a, c.1, .ty "ValueError", .type "ValueError", true, rfl, xi4, ex, fun _ r => r, T.ve c.1 hcs, _, rfl, iteF ⟨⟨_, _, rfl⟩, (s2'.trans s4).trans sm4⟩⟩
      · obtain ⟨⟨y2, y3, rfl⟩, sc⟩ := hp
        exact ⟨⟨_, _, _, rfl⟩, sm.trans (s13.trans sc)⟩
    · obtain ⟨⟨y1, y2, y3, rfl⟩, sm⟩ := hp
      exact q _ (s03.trans sm)
end
end Pf
namespace Gk
open PySem PySem.Spec PyProof.Rows L2
/-! ### math.lcm; small things for any law -/
def rLcm : List V → Hp → VK → Prop := fun vs H Q => ∃ a b : Int, vs = [.int a, .int b] ∧ a.natAbs < 2 ^ 64 ∧ b.natAbs < 2 ^ 64 ∧ Q (.int ((a.natAbs.lcm b.natAbs : Nat) : Int)) H
theorem cr_lcm {X : Cx} : CallR X (.builtin "math.lcm") rLcm := by
  intro pins s σ H vs us Q I r h
  obtain ⟨a, b, rfl, ha, hb, q⟩ := h
  obtain ⟨t, u, rfl⟩ := Vals.int2 r
  exact PySem.W.mc_lcm ha hb fun _ => ⟨.int _, H, I.tok _, ⟨_, rfl⟩, q⟩
theorem Same.seqLL {K : PySem.W.Frag} {H H' : Hp} {a : Addr} {xs : List V} (e : Same H H') (h : SqL K H a xs) : SqL K H' a xs := by
  rcases h with (h | ⟨o, h⟩) | h
  · exact .inl (.inl (e _ _ h))
  · exact .inl (.inr ⟨o, e _ _ h⟩)
  · exact .inr h
theorem tame2 {a b : Int} (ha : a.natAbs < 10 ^ 20) (hb : b.natAbs < 10 ^ 20) : Gk.tame (.tuple [.int a, .int b]) = true := by
  simp only [Gk.tame, tameAll, ha, hb, decide_true, Bool.and_self]
theorem depth2 {a b : Int} : (PyData.tuple [.int a, .int b]).depth ≤ 40 := by
  simp only [PyData.depth, PyData.depthAll]
  omega
theorem fine2 {a b : Int} (ha : a.natAbs < 10 ^ 20) (hb : b.natAbs < 10 ^ 20) : Fine (.tuple [.int a, .int b]) :=
  Fine.tame (tame2 ha hb) depth2 (by simp only [Gk.cost, costAll]; omega)
theorem dp2 {K : PySem.W.Frag} {H : Hp} {p : Addr} {a b : Int} (h : SqT K H p [.int a, .int b]) : Dp K H (.ref p) (.tuple [.int a, .int b]) := .tup h (.cons (.int a) (.cons (.int b) .nil))
theorem flatLen {α : Type} (n : Nat) (l : List α) : ((List.replicate n l).flatten).length = n * l.length := by
  induction n with
  | zero => simp
  | succ n ih => rw [List.replicate_succ, List.flatten_cons, List.length_append, ih, Nat.succ_mul, Nat.add_comm]
theorem pairs_sq {K : PySem.W.Frag} {H : Hp} {p : Addr} {l : List (Int × Int)} (h : PairsAt K H p l) : ∃ xs, SqT K H p xs ∧ xs.length = l.length ∧ DpAll K H xs (l.map pd) := by
  cases h with
  | tup h1 h2 => exact ⟨_, h1, lc_len h2, h2⟩
theorem keepSeqL {K : PySem.W.Frag} {H1 H' : Hp} {a b : Addr} {o : HO} {xs : List V} (hS : SqL K H1 a xs) (nb : H1 b = none) (e : But b (upd H1 b o) H') : SqL K H' a xs := by
  rcases hS with (h | ⟨u, h⟩) | h
  · exact .inl (.inl (e _ _ (ne_of_none h nb) (same_new nb _ _ h)))
  · exact .inl (.inr ⟨u, e _ _ (ne_of_none h nb) (same_new nb _ _ h)⟩)
  · exact .inr h
theorem butLocal {b D : Addr} {H H1 H2 : Hp} (nD : H D = none) (h : But b H H1) (g : ∀ a o, a ≠ b → a ≠ D → H1 a = some o → H2 a = some o) : But b H H2 := fun a o n e => g a o n (fun z => by rw [z, nD] at e; cases e) (h a o n e)
theorem pt_mid {X : Cx} {e : Expr} {t : TT} (h : PT X e t) : PT X e (tMidT t) :=
  ⟨fun pins s σ H Q I ⟨M, h1, h2⟩ => thn (h.run pins s σ H M I h1) fun b s1 ⟨H1, I1, q⟩ => ⟨H1, I1, h2 b H1 q⟩⟩
end Gk
namespace Pf
open PySem PySem.Spec PyProof.Rows L2 Gk
abbrev sLaw : Stmt := topS 26
abbrev nLaw : List Str := ["_law_script", "_law_k", "_law_box_here", "_law_turn"]
theorem scLaw : FnScope nLaw ["_law_script"] (defScope sLaw) := ⟨rfl, rfl, rfl, by decide +kernel, rfl, by decide +kernel, by decide +kernel⟩

theorem nofalse : ∀ j, j < 14 → (List.replicate 14 false).getD j false = false := by decide
section
variable {P : Program} {w : World} {K : PySem.W.Frag} {mg : Str → Option Value} {base : Heap}
def spLaw (K : PySem.W.Frag) : Sp := fun vs H Q _ => ∃ (a : Addr) (ns : List Int), vs = [.ref a] ∧ SqL K H a (ns.map V.int) ∧ ns.length ≤ 63 ∧ ∀ H', Q (.bl true) H'
theorem ok_law {f : Addr} {fd : FuncData} (DB : Dfn P w K mg base 1 "_law_box" ["_law_script", "_law_k"] (spBox K)) (DR : DfG P w K mg base 5 "_law_right" ["_law_thing"] (spRight K)) (DY : Dfn P w K mg base 3 "_law_any" ["_law_box_here"] (spAny K)) {c0 c1 c2 c3 c4 c5 c6 c7 c8 c9 c10 c11 c12 c13 CP : Addr} (DI : Dfn P w K mg base 1 "_law_kinds" ["_law_mistake"] (spKinds K [c0, c1, c2, c3, c4, c5, c6, c7, c8, c9, c10, c11, c12, c13])) (T : Kinds K [c0, c1, c2, c3, c4, c5, c6, c7, c8, c9, c10, c11, c12, c13] CP) (gP : mg "PastError" = some (.ref CP)) (xP : PySem.W.excIn K CP PySem.HandSPX.veTail "ValueError.__new__" = true) (kP : PySem.W.keepIn K (.ref CP) = true)
    (mr : mg "range" = none) (mx : mg "max" = none) (mn : mg "min" = none) (ml : mg "len" = none) (ma : mg "all" = none) (F : L2.Fun K "law" "law" sLaw f fd) : FnG P w K mg base 6 f fd ["_law_script"] (spLaw K) := by
  refine fnG F scLaw (fun vs H Q E h => ?_) (fun cdv A outer s H vs Q hr hg h => ?_)
  · obtain ⟨a, ns, rfl, _⟩ := h
    rfl
  · obtain ⟨a, ns, rfl, hS, hl, q⟩ := h
    refine ⟨_, pss_cons (ps_if (pt_cmpR op_in_seq pe_bl (pe_d DI hr (by decide) (by rfl) (pa_cons (pe_newB PySem.F.excBase_ValueError xP gP kP (by rfl)) pa_nil)) (by rfl)) (pss_one (ps_ret pe_bl)) pss_nil) (pss_cons (ps_for PassesOwn.never rfl (pi_range1 rfl mr (pa_cons (pe_callB (call_max2 rfl) (by rfl) mx (by decide +kernel) (pa_cons pe_int (pa_cons (pe_callB (call_min2 rfl) (by rfl) mn (by decide +kernel) (pa_cons pe_int (pa_cons (pe_callB call_len_seq (by rfl) ml PySem.boot_len (pa_cons (pv 0) pa_nil)) pa_nil))) pa_nil))) pa_nil)) (pg_name (i := 1) scLaw.nd rfl (.inl rfl))
        (pss_cons (ps_set (i := 2) scLaw.nd rfl (.inr rfl) (pe_d DB hr (by decide) (by rfl) (pa_cons (pv 0) (pa_cons (pv 1) pa_nil))))
        (pss_one (ps_if (pt_not (pt_val (pe_callB (cr_all rfl) (by rfl) ma (by decide +kernel) (pa_cons (pe_lc (own := [("_law_turn", 3)]) (g := gName 3) (by rfl) scLaw.nd (pi_range1 rfl mr (pa_cons pe_int pa_nil)) (blkOk_by (N := nLaw) (sc := defScope sLaw) (by decide +kernel))
            (fun _ _ _ _ _ => pg_name (i := 3) scLaw.nd rfl (.inl rfl)) (fun _ _ _ _ _ => pts_nil) (fun _ _ _ _ _ => pe_dg DR hr hg (by decide) (by rfl) (pa_cons (pe_d DY hr (by decide) (by rfl) (pa_cons (pv 2) pa_nil)) pa_nil))) pa_nil))))
          (pss_one (ps_ret pe_bl)) pss_nil))))
      (pss_one (ps_ret (pe_bl)))), ?_⟩
    refine fun a1 H1 s1 n1 xi => ⟨a1, CP, List.replicate 14 false, rfl, xi, T.exc CP (List.mem_cons_self ..), rfl, fun j hj => ?_, fun H2 l s2 hkl => ⟨l, _, rfl, .inl (SqL.of hkl), rfl, rfl, _, rfl, iteF ?_⟩⟩
    · rw [T.none j hj, nofalse j hj]
    have hS := Same.seqLL (s1.trans s2) hS
    refine ⟨.ref a, rfl, a, _, rfl, .inl hS, _, _, rfl, _, _, rfl, _, rfl, ?_, ?_, ?_⟩
    · split <;> omega
    · split <;> omega
    · generalize hz : (if (if ((ns.map V.int).length : Int) < 2 then ((ns.map V.int).length : Int) else 2) > 1 then (if ((ns.map V.int).length : Int) < 2 then ((ns.map V.int).length : Int) else 2) else 1) = z
      have z3 : z ≤ 2 := by rw [← hz]; split <;> omega
      refine for_range (lo := 0) (n := z.toNat) (fun i σ H' => (∃ y1 y2, σ = [some (.ref a), y1, y2, none]) ∧ SqL K H' a (ns.map V.int)) ⟨⟨none, none, rfl⟩, hS⟩ (fun i σ H1 hi hp => ?_) (fun σ H1 hp => ?_)
      · obtain ⟨⟨y1, y2, rfl⟩, hS1⟩ := hp
        refine ⟨.ref a, rfl, .int (0 + (i : Nat)), rfl, a, ns, 0 + (i : Nat), rfl, hS1, hl, by omega, by omega, fun b x y nb => ?_⟩
        have hB0 : Box 0 (upd H1 b (.lst [.int x, .int y, .int 0])) b := ⟨x, y, 0, upd_same, Int.le_refl _, Int.le_refl _⟩
        refine ⟨6, rfl, by decide, by decide, fun D nD => lc_range (lo := 0) (n := (6 : Int).toNat)
          (fun j H' => But b (upd H1 b (.lst [.int x, .int y, .int 0])) H' ∧ Box (20 * j) H' b ∧ H' D = some (.lst ((List.replicate j true).map V.bl))) ⟨But.new nD, hB0.same (same_new nD), upd_same⟩ (fun j H2 hj hp => ?_) (fun H2 hp => ?_)⟩
        · obtain ⟨bt, bx, hD⟩ := hp
          have nDb : D ≠ b := (hB0.ne nD).symm
          have hj : j < 6 := hj
          refine ⟨rfl, .ref b, rfl, (fun a => a = b), b, 20 * j, rfl, rfl, stands_box bx, bx, by omega, fun H3 v d bt3 bx3 dv f1 f2 f3 => ⟨_, v, d, rfl, dv, f1, f2, f3, fun H4 s4 => ?_⟩⟩
          have bt3 := bt3.trans (But.of_same s4)
          have bx3 := bx3.same s4
          refine ⟨(List.replicate j true).map V.bl, bt3 _ _ nDb hD, ?_, ?_, ?_, ?_⟩
          · rw [List.length_map, List.length_replicate]
            exact small1000 (by omega)
          · refine butLocal nD (bt.trans bt3) fun a o n1 n2 h => ?_
            rw [upd_ne n2]
            exact h
          · obtain ⟨x1, x2, x3, g1, g2⟩ := bx3
            exact ⟨x1, x2, x3, by rw [upd_ne nDb.symm]; exact g1, g2.1, by have := g2.2; omega⟩
          · rw [upd_same, List.replicate_succ', List.map_append]
            rfl
        · obtain ⟨bt, bx, hD⟩ := hp
          refine ⟨D, List.replicate 6 true, rfl, .inl (.inl hD), _, rfl, ite2 (fun e => absurd e (by decide)) (fun _ => ?_)⟩
          exact ⟨⟨_, _, rfl⟩, keepSeqL hS1 nb bt⟩
      · obtain ⟨⟨y1, y2, rfl⟩, hS1⟩ := hp
        exact q _
theorem law_start {K : PySem.W.Frag} {H : Hp} {a : Addr} {ns : List Int} (hl : ns.length ≤ 63) (hO : Only H) (hS : SqL K H a (ns.map V.int)) : spLaw K [.ref a] H (fun v _ => v = .bl true) L2.E0 :=
  ⟨a, ns, rfl, hS, hl, fun _ => rfl⟩
end
end Pf
namespace Pf
open PySem PySem.Spec PyProof.Rows L2 Gk
theorem all_mk {P : Program} {w : World} {K : PySem.W.Frag} {h : Heap} {mg : Str → Option Value} {fa : Addr} (X : K.In h) (G : h.Ns mainGlobals mg) (hfa : mg "law" = some (.ref fa))
    {f0 : Addr} {od0 an0 : Option Addr} {sl0 : Array (Option Value)} {oc0 kV0 dc0 pm0 cd0 ct0 : Value} {f1 : Addr} {od1 an1 : Option Addr} {sl1 : Array (Option Value)} {oc1 kV1 dc1 pm1 cd1 ct1 : Value} {f2 : Addr} {od2 an2 : Option Addr} {sl2 : Array (Option Value)} {oc2 kV2 dc2 pm2 cd2 ct2 : Value} {f3 : Addr} {od3 an3 : Option Addr} {sl3 : Array (Option Value)} {oc3 kV3 dc3 pm3 cd3 ct3 : Value} {f4 : Addr} {od4 an4 : Option Addr} {sl4 : Array (Option Value)} {oc4 kV4 dc4 pm4 cd4 ct4 : Value} {f5 : Addr} {od5 an5 : Option Addr} {sl5 : Array (Option Value)} {oc5 kV5 dc5 pm5 cd5 ct5 : Value} {f6 : Addr} {od6 an6 : Option Addr} {sl6 : Array (Option Value)} {oc6 kV6 dc6 pm6 cd6 ct6 : Value} {f7 : Addr} {od7 an7 : Option Addr} {sl7 : Array (Option Value)} {oc7 kV7 dc7 pm7 cd7 ct7 : Value} {f8 : Addr} {od8 an8 : Option Addr} {sl8 : Array (Option Value)} {oc8 kV8 dc8 pm8 cd8 ct8 : Value} {f9 : Addr} {od9 an9 : Option Addr} {sl9 : Array (Option Value)} {oc9 kV9 dc9 pm9 cd9 ct9 : Value}
    (a0 : PySem.W.nsIn K mainGlobals "_law_box" = some (some (.ref f0)))
    (l0 : K.lookup f0 = some ⟨oc0, od0, .func (PySem.W.fnOf "_law_box" "_law_box" (defArgs sBox) (defBody sBox) (defScope sBox) .none kV0 dc0 pm0 an0 cd0 ct0), sl0⟩)
    (c0 : PySem.W.codeIn K cd0 "_law_box" = true) (k0 : PySem.W.keepIn K (.ref f0) = true)
    (a1 : PySem.W.nsIn K mainGlobals "_law_take" = some (some (.ref f1)))
    (l1 : K.lookup f1 = some ⟨oc1, od1, .func (PySem.W.fnOf "_law_take" "_law_take" (defArgs sTake) (defBody sTake) (defScope sTake) .none kV1 dc1 pm1 an1 cd1 ct1), sl1⟩)
    (c1 : PySem.W.codeIn K cd1 "_law_take" = true) (k1 : PySem.W.keepIn K (.ref f1) = true)
    (a2 : PySem.W.nsIn K mainGlobals "_law_of" = some (some (.ref f2)))
    (l2 : K.lookup f2 = some ⟨oc2, od2, .func (PySem.W.fnOf "_law_of" "_law_of" (defArgs sOf) (defBody sOf) (defScope sOf) .none kV2 dc2 pm2 an2 cd2 ct2), sl2⟩)
    (c2 : PySem.W.codeIn K cd2 "_law_of" = true) (k2 : PySem.W.keepIn K (.ref f2) = true)
    (a3 : PySem.W.nsIn K mainGlobals "_law_any" = some (some (.ref f3)))
    (l3 : K.lookup f3 = some ⟨oc3, od3, .func (PySem.W.fnOf "_law_any" "_law_any" (defArgs sAny) (defBody sAny) (defScope sAny) .none kV3 dc3 pm3 an3 cd3 ct3), sl3⟩)
    (c3 : PySem.W.codeIn K cd3 "_law_any" = true) (k3 : PySem.W.keepIn K (.ref f3) = true)
    (a4 : PySem.W.nsIn K mainGlobals "_law_kinds" = some (some (.ref f4)))
    (l4 : K.lookup f4 = some ⟨oc4, od4, .func (PySem.W.fnOf "_law_kinds" "_law_kinds" (defArgs sKinds) (defBody sKinds) (defScope sKinds) .none kV4 dc4 pm4 an4 cd4 ct4), sl4⟩)
    (c4 : PySem.W.codeIn K cd4 "_law_kinds" = true) (k4 : PySem.W.keepIn K (.ref f4) = true)
    (a5 : PySem.W.nsIn K mainGlobals "_law_by_place" = some (some (.ref f5)))
    (l5 : K.lookup f5 = some ⟨oc5, od5, .func (PySem.W.fnOf "_law_by_place" "_law_by_place" (defArgs sPlace) (defBody sPlace) (defScope sPlace) .none kV5 dc5 pm5 an5 cd5 ct5), sl5⟩)
    (c5 : PySem.W.codeIn K cd5 "_law_by_place" = true) (k5 : PySem.W.keepIn K (.ref f5) = true)
    (a6 : PySem.W.nsIn K mainGlobals "_law_by_name" = some (some (.ref f6)))
    (l6 : K.lookup f6 = some ⟨oc6, od6, .func (PySem.W.fnOf "_law_by_name" "_law_by_name" (defArgs sName) (defBody sName) (defScope sName) .none kV6 dc6 pm6 an6 cd6 ct6), sl6⟩)
    (c6 : PySem.W.codeIn K cd6 "_law_by_name" = true) (k6 : PySem.W.keepIn K (.ref f6) = true)
    (a7 : PySem.W.nsIn K mainGlobals "_law_kept" = some (some (.ref f7)))
    (l7 : K.lookup f7 = some ⟨oc7, od7, .func (PySem.W.fnOf "_law_kept" "_law_kept" (defArgs sKept) (defBody sKept) (defScope sKept) .none kV7 dc7 pm7 an7 cd7 ct7), sl7⟩)
    (c7 : PySem.W.codeIn K cd7 "_law_kept" = true) (k7 : PySem.W.keepIn K (.ref f7) = true)
    (a8 : PySem.W.nsIn K mainGlobals "_law_right" = some (some (.ref f8)))
    (l8 : K.lookup f8 = some ⟨oc8, od8, .func (PySem.W.fnOf "_law_right" "_law_right" (defArgs sRight) (defBody sRight) (defScope sRight) .none kV8 dc8 pm8 an8 cd8 ct8), sl8⟩)
    (c8 : PySem.W.codeIn K cd8 "_law_right" = true) (k8 : PySem.W.keepIn K (.ref f8) = true)
    (a9 : PySem.W.nsIn K mainGlobals "law" = some (some (.ref f9)))
    (l9 : K.lookup f9 = some ⟨oc9, od9, .func (PySem.W.fnOf "law" "law" (defArgs sLaw) (defBody sLaw) (defScope sLaw) .none kV9 dc9 pm9 an9 cd9 ct9), sl9⟩)
    (c9 : PySem.W.codeIn K cd9 "law" = true) (k9 : PySem.W.keepIn K (.ref f9) = true)
    (z0 : PySem.W.nsIn K mainGlobals "int" = some none)
    (z1 : PySem.W.nsIn K mainGlobals "len" = some none)
    (z2 : PySem.W.nsIn K mainGlobals "abs" = some none)
    (z3 : PySem.W.nsIn K mainGlobals "range" = some none)
    (z4 : PySem.W.nsIn K mainGlobals "enumerate" = some none)
    (z5 : PySem.W.nsIn K mainGlobals "max" = some none)
    (z6 : PySem.W.nsIn K mainGlobals "min" = some none)
    (z7 : PySem.W.nsIn K mainGlobals "all" = some none)
    (z8 : PySem.W.nsIn K mainGlobals "repr" = some none)
    (z9 : PySem.W.nsIn K mainGlobals "isinstance" = some none)
    (z10 : PySem.W.nsIn K mainGlobals "super" = some none)
    (z11 : PySem.W.nsIn K mainGlobals "ValueError" = some none)
    {xCP : Addr}
    {xC0 xf0 xcc0 xcd0 xN0 : Addr} {xnm0 xqn0 xfile0 : Str} {xbs0 xsub0 : List Value} {xsn0 : List Str} {xab0 : Bool} {xcol0 : Option Bool} {xdd0 xfod0 xan0 xcdd0 xcld0 : Option Addr} {xm00 xm10 xm20 xm30 xm50 : Option Value} {xfoc0 xkV0 xdoc0 xpm0 xct0 xccl0 xcl0 : Value} {xfsl0 xccs0 xcsl0 : Array (Option Value)} {xvs0 : Array Value} {xtf0 : Tok}
    (xa0 : PySem.W.nsIn K mainGlobals "NoBranch" = some (some (.ref xC0)))
    (xl0 : K.lookup xC0 = some (excClassObj xnm0 xqn0 xC0 xN0 xbs0 [.ref xCP, .type "ValueError", .type "Exception", .type "BaseException", .type "object"] true xsn0 xsub0 xab0 xcol0 xdd0 xm00 xm10 xm20 xm30 xm50 "ValueError.__new__"))
    (xsa0 : PySem.W.findIn K (.ref xC0) "__setattr__" = some (some (.builtin "object.__setattr__")))
    (xga0 : PySem.W.findIn K (.ref xC0) "__getattribute__" = some (some (.builtin "BaseException.__getattribute__")))
    (xgg0 : PySem.W.findIn K (.ref xC0) "__getattr__" = some none)
    (xno0 : PySem.W.findIn K (.ref xC0) "value" = some none)
    (xiC0 : PySem.W.findIn K (.ref xC0) "__init__" = some (some (.ref xf0)))
    (xtI0 : PySem.W.typeIn K (.ref xf0) = some (.type "function"))
    (xli0 : K.lookup xf0 = some ⟨xfoc0, xfod0, .func (PySem.W.ksFn "__init__" "NoBranch.__init__" (defArgs sNoBranch) (defBody sNoBranch) (defScope sNoBranch) .none xkV0 xdoc0 xpm0 xan0 (.ref xcd0) xct0 xcc0), xfsl0⟩)
    (xco0 : PySem.W.codeIn K (.ref xcd0) "NoBranch.__init__" = true)
    (xcx0 : K.lookup xcd0 = some ⟨xccl0, xcdd0, .fields xvs0, xccs0⟩)
    (xvx0 : xvs0[2]? = some (.str xfile0 xtf0))
    (xfi0 : ((P.main.file : Str) == xfile0) = true)
    (xto0 : (P.main.scope.names.lookup ("super" : Str)).isSome = false)
    (xce0 : K.lookup xcc0 = some ⟨xcl0, xcld0, .cell (some (.ref xC0)), xcsl0⟩)
    (xsu0 : PySem.W.ks_superIn K xC0 xC0 "__init__" = some (some (.builtin "ValueError.__init__")))
    (xse0 : PySem.W.mroIn K xC0 (.ref xC0) = some true)
    (xve0 : PySem.W.subIn K (.ref xC0) (.type "ValueError") = some true)
    (xan0 : PySem.W.nsIn K cStatics "thirdparty.any" = some none)
    (xkf0 : PySem.W.keepIn K (.ref xf0) = true)
    (xkC0 : PySem.W.keepIn K (.ref xC0) = true)
    (xeC0 : PySem.W.subIn K (.ref xC0) (.type "BaseException") = some true)
    (xtC0 : PySem.W.typeIn K (.ref xC0) = some (.type "type"))
    (xhC0 : PySem.W.hasDictIn K xC0 = true)
    (xic0 : PySem.W.isClsIn K xC0 = true)
    (xsC0 : PySem.W.subIn K (.ref xC0) (.ref xC0) = some true)
    {xC1 xf1 xcc1 xcd1 xN1 : Addr} {xnm1 xqn1 xfile1 : Str} {xbs1 xsub1 : List Value} {xsn1 : List Str} {xab1 : Bool} {xcol1 : Option Bool} {xdd1 xfod1 xan1 xcdd1 xcld1 : Option Addr} {xm01 xm11 xm21 xm31 xm51 : Option Value} {xfoc1 xkV1 xdoc1 xpm1 xct1 xccl1 xcl1 : Value} {xfsl1 xccs1 xcsl1 : Array (Option Value)} {xvs1 : Array Value} {xtf1 : Tok}
    (xa1 : PySem.W.nsIn K mainGlobals "TooShort" = some (some (.ref xC1)))
    (xl1 : K.lookup xC1 = some (excClassObj xnm1 xqn1 xC1 xN1 xbs1 [.ref xCP, .type "ValueError", .type "Exception", .type "BaseException", .type "object"] true xsn1 xsub1 xab1 xcol1 xdd1 xm01 xm11 xm21 xm31 xm51 "ValueError.__new__"))
    (xsa1 : PySem.W.findIn K (.ref xC1) "__setattr__" = some (some (.builtin "object.__setattr__")))
    (xga1 : PySem.W.findIn K (.ref xC1) "__getattribute__" = some (some (.builtin "BaseException.__getattribute__")))
    (xgg1 : PySem.W.findIn K (.ref xC1) "__getattr__" = some none)
    (xno1 : PySem.W.findIn K (.ref xC1) "reach" = some none)
    (xiC1 : PySem.W.findIn K (.ref xC1) "__init__" = some (some (.ref xf1)))
    (xtI1 : PySem.W.typeIn K (.ref xf1) = some (.type "function"))
    (xli1 : K.lookup xf1 = some ⟨xfoc1, xfod1, .func (PySem.W.ksFn "__init__" "TooShort.__init__" (defArgs sTooShort) (defBody sTooShort) (defScope sTooShort) .none xkV1 xdoc1 xpm1 xan1 (.ref xcd1) xct1 xcc1), xfsl1⟩)
    (xco1 : PySem.W.codeIn K (.ref xcd1) "TooShort.__init__" = true)
    (xcx1 : K.lookup xcd1 = some ⟨xccl1, xcdd1, .fields xvs1, xccs1⟩)
    (xvx1 : xvs1[2]? = some (.str xfile1 xtf1))
    (xfi1 : ((P.main.file : Str) == xfile1) = true)
    (xto1 : (P.main.scope.names.lookup ("super" : Str)).isSome = false)
    (xce1 : K.lookup xcc1 = some ⟨xcl1, xcld1, .cell (some (.ref xC1)), xcsl1⟩)
    (xsu1 : PySem.W.ks_superIn K xC1 xC1 "__init__" = some (some (.builtin "ValueError.__init__")))
    (xse1 : PySem.W.mroIn K xC1 (.ref xC1) = some true)
    (xve1 : PySem.W.subIn K (.ref xC1) (.type "ValueError") = some true)
    (xan1 : PySem.W.nsIn K cStatics "thirdparty.any" = some none)
    (xkf1 : PySem.W.keepIn K (.ref xf1) = true)
    (xkC1 : PySem.W.keepIn K (.ref xC1) = true)
    (xeC1 : PySem.W.subIn K (.ref xC1) (.type "BaseException") = some true)
    (xtC1 : PySem.W.typeIn K (.ref xC1) = some (.type "type"))
    (xhC1 : PySem.W.hasDictIn K xC1 = true)
    (xic1 : PySem.W.isClsIn K xC1 = true)
    (xsC1 : PySem.W.subIn K (.ref xC1) (.ref xC1) = some true)
    {xC2 xf2 xcc2 xcd2 xN2 : Addr} {xnm2 xqn2 xfile2 : Str} {xbs2 xsub2 : List Value} {xsn2 : List Str} {xab2 : Bool} {xcol2 : Option Bool} {xdd2 xfod2 xan2 xcdd2 xcld2 : Option Addr} {xm02 xm12 xm22 xm32 xm52 : Option Value} {xfoc2 xkV2 xdoc2 xpm2 xct2 xccl2 xcl2 : Value} {xfsl2 xccs2 xcsl2 : Array (Option Value)} {xvs2 : Array Value} {xtf2 : Tok}
    (xa2 : PySem.W.nsIn K mainGlobals "TooLong" = some (some (.ref xC2)))
    (xl2 : K.lookup xC2 = some (excClassObj xnm2 xqn2 xC2 xN2 xbs2 [.ref xCP, .type "ValueError", .type "Exception", .type "BaseException", .type "object"] true xsn2 xsub2 xab2 xcol2 xdd2 xm02 xm12 xm22 xm32 xm52 "ValueError.__new__"))
    (xsa2 : PySem.W.findIn K (.ref xC2) "__setattr__" = some (some (.builtin "object.__setattr__")))
    (xga2 : PySem.W.findIn K (.ref xC2) "__getattribute__" = some (some (.builtin "BaseException.__getattribute__")))
    (xgg2 : PySem.W.findIn K (.ref xC2) "__getattr__" = some none)
    (xno2 : PySem.W.findIn K (.ref xC2) "limit" = some none)
    (xiC2 : PySem.W.findIn K (.ref xC2) "__init__" = some (some (.ref xf2)))
    (xtI2 : PySem.W.typeIn K (.ref xf2) = some (.type "function"))
    (xli2 : K.lookup xf2 = some ⟨xfoc2, xfod2, .func (PySem.W.ksFn "__init__" "TooLong.__init__" (defArgs sTooLong) (defBody sTooLong) (defScope sTooLong) .none xkV2 xdoc2 xpm2 xan2 (.ref xcd2) xct2 xcc2), xfsl2⟩)
    (xco2 : PySem.W.codeIn K (.ref xcd2) "TooLong.__init__" = true)
    (xcx2 : K.lookup xcd2 = some ⟨xccl2, xcdd2, .fields xvs2, xccs2⟩)
    (xvx2 : xvs2[2]? = some (.str xfile2 xtf2))
    (xfi2 : ((P.main.file : Str) == xfile2) = true)
    (xto2 : (P.main.scope.names.lookup ("super" : Str)).isSome = false)
    (xce2 : K.lookup xcc2 = some ⟨xcl2, xcld2, .cell (some (.ref xC2)), xcsl2⟩)
    (xsu2 : PySem.W.ks_superIn K xC2 xC2 "__init__" = some (some (.builtin "ValueError.__init__")))
    (xse2 : PySem.W.mroIn K xC2 (.ref xC2) = some true)
    (xve2 : PySem.W.subIn K (.ref xC2) (.type "ValueError") = some true)
    (xan2 : PySem.W.nsIn K cStatics "thirdparty.any" = some none)
    (xkf2 : PySem.W.keepIn K (.ref xf2) = true)
    (xkC2 : PySem.W.keepIn K (.ref xC2) = true)
    (xeC2 : PySem.W.subIn K (.ref xC2) (.type "BaseException") = some true)
    (xtC2 : PySem.W.typeIn K (.ref xC2) = some (.type "type"))
    (xhC2 : PySem.W.hasDictIn K xC2 = true)
    (xic2 : PySem.W.isClsIn K xC2 = true)
    (xsC2 : PySem.W.subIn K (.ref xC2) (.ref xC2) = some true)
    {xC3 xf3 xcc3 xcd3 xN3 : Addr} {xnm3 xqn3 xfile3 : Str} {xbs3 xsub3 : List Value} {xsn3 : List Str} {xab3 : Bool} {xcol3 : Option Bool} {xdd3 xfod3 xan3 xcdd3 xcld3 : Option Addr} {xm03 xm13 xm23 xm33 xm53 : Option Value} {xfoc3 xkV3 xdoc3 xpm3 xct3 xccl3 xcl3 : Value} {xfsl3 xccs3 xcsl3 : Array (Option Value)} {xvs3 : Array Value} {xtf3 : Tok}
    (xa3 : PySem.W.nsIn K mainGlobals "TooManyBranches" = some (some (.ref xC3)))
    (xl3 : K.lookup xC3 = some (excClassObj xnm3 xqn3 xC3 xN3 xbs3 [.ref xCP, .type "ValueError", .type "Exception", .type "BaseException", .type "object"] true xsn3 xsub3 xab3 xcol3 xdd3 xm03 xm13 xm23 xm33 xm53 "ValueError.__new__"))
    (xsa3 : PySem.W.findIn K (.ref xC3) "__setattr__" = some (some (.builtin "object.__setattr__")))
    (xga3 : PySem.W.findIn K (.ref xC3) "__getattribute__" = some (some (.builtin "BaseException.__getattribute__")))
    (xgg3 : PySem.W.findIn K (.ref xC3) "__getattr__" = some none)
    (xno3 : PySem.W.findIn K (.ref xC3) "limit" = some none)
    (xiC3 : PySem.W.findIn K (.ref xC3) "__init__" = some (some (.ref xf3)))
    (xtI3 : PySem.W.typeIn K (.ref xf3) = some (.type "function"))
    (xli3 : K.lookup xf3 = some ⟨xfoc3, xfod3, .func (PySem.W.ksFn "__init__" "TooManyBranches.__init__" (defArgs sTooManyBranches) (defBody sTooManyBranches) (defScope sTooManyBranches) .none xkV3 xdoc3 xpm3 xan3 (.ref xcd3) xct3 xcc3), xfsl3⟩)
    (xco3 : PySem.W.codeIn K (.ref xcd3) "TooManyBranches.__init__" = true)
    (xcx3 : K.lookup xcd3 = some ⟨xccl3, xcdd3, .fields xvs3, xccs3⟩)
    (xvx3 : xvs3[2]? = some (.str xfile3 xtf3))
    (xfi3 : ((P.main.file : Str) == xfile3) = true)
    (xto3 : (P.main.scope.names.lookup ("super" : Str)).isSome = false)
    (xce3 : K.lookup xcc3 = some ⟨xcl3, xcld3, .cell (some (.ref xC3)), xcsl3⟩)
    (xsu3 : PySem.W.ks_superIn K xC3 xC3 "__init__" = some (some (.builtin "ValueError.__init__")))
    (xse3 : PySem.W.mroIn K xC3 (.ref xC3) = some true)
    (xve3 : PySem.W.subIn K (.ref xC3) (.type "ValueError") = some true)
    (xan3 : PySem.W.nsIn K cStatics "thirdparty.any" = some none)
    (xkf3 : PySem.W.keepIn K (.ref xf3) = true)
    (xkC3 : PySem.W.keepIn K (.ref xC3) = true)
    (xeC3 : PySem.W.subIn K (.ref xC3) (.type "BaseException") = some true)
    (xtC3 : PySem.W.typeIn K (.ref xC3) = some (.type "type"))
    (xhC3 : PySem.W.hasDictIn K xC3 = true)
    (xic3 : PySem.W.isClsIn K xC3 = true)
    (xsC3 : PySem.W.subIn K (.ref xC3) (.ref xC3) = some true)
    {xC4 xf4 xcc4 xcd4 xN4 : Addr} {xnm4 xqn4 xfile4 : Str} {xbs4 xsub4 : List Value} {xsn4 : List Str} {xab4 : Bool} {xcol4 : Option Bool} {xdd4 xfod4 xan4 xcdd4 xcld4 : Option Addr} {xm04 xm14 xm24 xm34 xm54 : Option Value} {xfoc4 xkV4 xdoc4 xpm4 xct4 xccl4 xcl4 : Value} {xfsl4 xccs4 xcsl4 : Array (Option Value)} {xvs4 : Array Value} {xtf4 : Tok}
    (xa4 : PySem.W.nsIn K mainGlobals "BadScheme" = some (some (.ref xC4)))
    (xl4 : K.lookup xC4 = some (excClassObj xnm4 xqn4 xC4 xN4 xbs4 [.ref xCP, .type "ValueError", .type "Exception", .type "BaseException", .type "object"] true xsn4 xsub4 xab4 xcol4 xdd4 xm04 xm14 xm24 xm34 xm54 "ValueError.__new__"))
    (xsa4 : PySem.W.findIn K (.ref xC4) "__setattr__" = some (some (.builtin "object.__setattr__")))
    (xga4 : PySem.W.findIn K (.ref xC4) "__getattribute__" = some (some (.builtin "BaseException.__getattribute__")))
    (xgg4 : PySem.W.findIn K (.ref xC4) "__getattr__" = some none)
    (xno4 : PySem.W.findIn K (.ref xC4) "value" = some none)
    (xiC4 : PySem.W.findIn K (.ref xC4) "__init__" = some (some (.ref xf4)))
    (xtI4 : PySem.W.typeIn K (.ref xf4) = some (.type "function"))
    (xli4 : K.lookup xf4 = some ⟨xfoc4, xfod4, .func (PySem.W.ksFn "__init__" "BadScheme.__init__" (defArgs sBadScheme) (defBody sBadScheme) (defScope sBadScheme) .none xkV4 xdoc4 xpm4 xan4 (.ref xcd4) xct4 xcc4), xfsl4⟩)
    (xco4 : PySem.W.codeIn K (.ref xcd4) "BadScheme.__init__" = true)
    (xcx4 : K.lookup xcd4 = some ⟨xccl4, xcdd4, .fields xvs4, xccs4⟩)
    (xvx4 : xvs4[2]? = some (.str xfile4 xtf4))
    (xfi4 : ((P.main.file : Str) == xfile4) = true)
    (xto4 : (P.main.scope.names.lookup ("super" : Str)).isSome = false)
    (xce4 : K.lookup xcc4 = some ⟨xcl4, xcld4, .cell (some (.ref xC4)), xcsl4⟩)
    (xsu4 : PySem.W.ks_superIn K xC4 xC4 "__init__" = some (some (.builtin "ValueError.__init__")))
    (xse4 : PySem.W.mroIn K xC4 (.ref xC4) = some true)
    (xve4 : PySem.W.subIn K (.ref xC4) (.type "ValueError") = some true)
    (xan4 : PySem.W.nsIn K cStatics "thirdparty.any" = some none)
    (xkf4 : PySem.W.keepIn K (.ref xf4) = true)
    (xkC4 : PySem.W.keepIn K (.ref xC4) = true)
    (xeC4 : PySem.W.subIn K (.ref xC4) (.type "BaseException") = some true)
    (xtC4 : PySem.W.typeIn K (.ref xC4) = some (.type "type"))
    (xhC4 : PySem.W.hasDictIn K xC4 = true)
    (xic4 : PySem.W.isClsIn K xC4 = true)
    (xsC4 : PySem.W.subIn K (.ref xC4) (.ref xC4) = some true)
    {xC5 xf5 xcc5 xcd5 xN5 : Addr} {xnm5 xqn5 xfile5 : Str} {xbs5 xsub5 : List Value} {xsn5 : List Str} {xab5 : Bool} {xcol5 : Option Bool} {xdd5 xfod5 xan5 xcdd5 xcld5 : Option Addr} {xm05 xm15 xm25 xm35 xm55 : Option Value} {xfoc5 xkV5 xdoc5 xpm5 xct5 xccl5 xcl5 : Value} {xfsl5 xccs5 xcsl5 : Array (Option Value)} {xvs5 : Array Value} {xtf5 : Tok}
    (xa5 : PySem.W.nsIn K mainGlobals "BadCounter" = some (some (.ref xC5)))
    (xl5 : K.lookup xC5 = some (excClassObj xnm5 xqn5 xC5 xN5 xbs5 [.ref xCP, .type "ValueError", .type "Exception", .type "BaseException", .type "object"] true xsn5 xsub5 xab5 xcol5 xdd5 xm05 xm15 xm25 xm35 xm55 "ValueError.__new__"))
    (xsa5 : PySem.W.findIn K (.ref xC5) "__setattr__" = some (some (.builtin "object.__setattr__")))
    (xga5 : PySem.W.findIn K (.ref xC5) "__getattribute__" = some (some (.builtin "BaseException.__getattribute__")))
    (xgg5 : PySem.W.findIn K (.ref xC5) "__getattr__" = some none)
    (xno5 : PySem.W.findIn K (.ref xC5) "value" = some none)
    (xiC5 : PySem.W.findIn K (.ref xC5) "__init__" = some (some (.ref xf5)))
    (xtI5 : PySem.W.typeIn K (.ref xf5) = some (.type "function"))
    (xli5 : K.lookup xf5 = some ⟨xfoc5, xfod5, .func (PySem.W.ksFn "__init__" "BadCounter.__init__" (defArgs sBadCounter) (defBody sBadCounter) (defScope sBadCounter) .none xkV5 xdoc5 xpm5 xan5 (.ref xcd5) xct5 xcc5), xfsl5⟩)
    (xco5 : PySem.W.codeIn K (.ref xcd5) "BadCounter.__init__" = true)
    (xcx5 : K.lookup xcd5 = some ⟨xccl5, xcdd5, .fields xvs5, xccs5⟩)
    (xvx5 : xvs5[2]? = some (.str xfile5 xtf5))
    (xfi5 : ((P.main.file : Str) == xfile5) = true)
    (xto5 : (P.main.scope.names.lookup ("super" : Str)).isSome = false)
    (xce5 : K.lookup xcc5 = some ⟨xcl5, xcld5, .cell (some (.ref xC5)), xcsl5⟩)
    (xsu5 : PySem.W.ks_superIn K xC5 xC5 "__init__" = some (some (.builtin "ValueError.__init__")))
    (xse5 : PySem.W.mroIn K xC5 (.ref xC5) = some true)
    (xve5 : PySem.W.subIn K (.ref xC5) (.type "ValueError") = some true)
    (xan5 : PySem.W.nsIn K cStatics "thirdparty.any" = some none)
    (xkf5 : PySem.W.keepIn K (.ref xf5) = true)
    (xkC5 : PySem.W.keepIn K (.ref xC5) = true)
    (xeC5 : PySem.W.subIn K (.ref xC5) (.type "BaseException") = some true)
    (xtC5 : PySem.W.typeIn K (.ref xC5) = some (.type "type"))
    (xhC5 : PySem.W.hasDictIn K xC5 = true)
    (xic5 : PySem.W.isClsIn K xC5 = true)
    (xsC5 : PySem.W.subIn K (.ref xC5) (.ref xC5) = some true)
    {xC6 xf6 xcc6 xcd6 xN6 : Addr} {xnm6 xqn6 xfile6 : Str} {xbs6 xsub6 : List Value} {xsn6 : List Str} {xab6 : Bool} {xcol6 : Option Bool} {xdd6 xfod6 xan6 xcdd6 xcld6 : Option Addr} {xm06 xm16 xm26 xm36 xm56 : Option Value} {xfoc6 xkV6 xdoc6 xpm6 xct6 xccl6 xcl6 : Value} {xfsl6 xccs6 xcsl6 : Array (Option Value)} {xvs6 : Array Value} {xtf6 : Tok}
    (xa6 : PySem.W.nsIn K mainGlobals "BadBranch" = some (some (.ref xC6)))
    (xl6 : K.lookup xC6 = some (excClassObj xnm6 xqn6 xC6 xN6 xbs6 [.ref xCP, .type "ValueError", .type "Exception", .type "BaseException", .type "object"] true xsn6 xsub6 xab6 xcol6 xdd6 xm06 xm16 xm26 xm36 xm56 "ValueError.__new__"))
    (xsa6 : PySem.W.findIn K (.ref xC6) "__setattr__" = some (some (.builtin "object.__setattr__")))
    (xga6 : PySem.W.findIn K (.ref xC6) "__getattribute__" = some (some (.builtin "BaseException.__getattribute__")))
    (xgg6 : PySem.W.findIn K (.ref xC6) "__getattr__" = some none)
    (xno6 : PySem.W.findIn K (.ref xC6) "value" = some none)
    (xiC6 : PySem.W.findIn K (.ref xC6) "__init__" = some (some (.ref xf6)))
    (xtI6 : PySem.W.typeIn K (.ref xf6) = some (.type "function"))
    (xli6 : K.lookup xf6 = some ⟨xfoc6, xfod6, .func (PySem.W.ksFn "__init__" "BadBranch.__init__" (defArgs sBadBranch) (defBody sBadBranch) (defScope sBadBranch) .none xkV6 xdoc6 xpm6 xan6 (.ref xcd6) xct6 xcc6), xfsl6⟩)
    (xco6 : PySem.W.codeIn K (.ref xcd6) "BadBranch.__init__" = true)
    (xcx6 : K.lookup xcd6 = some ⟨xccl6, xcdd6, .fields xvs6, xccs6⟩)
    (xvx6 : xvs6[2]? = some (.str xfile6 xtf6))
    (xfi6 : ((P.main.file : Str) == xfile6) = true)
    (xto6 : (P.main.scope.names.lookup ("super" : Str)).isSome = false)
    (xce6 : K.lookup xcc6 = some ⟨xcl6, xcld6, .cell (some (.ref xC6)), xcsl6⟩)
    (xsu6 : PySem.W.ks_superIn K xC6 xC6 "__init__" = some (some (.builtin "ValueError.__init__")))
    (xse6 : PySem.W.mroIn K xC6 (.ref xC6) = some true)
    (xve6 : PySem.W.subIn K (.ref xC6) (.type "ValueError") = some true)
    (xan6 : PySem.W.nsIn K cStatics "thirdparty.any" = some none)
    (xkf6 : PySem.W.keepIn K (.ref xf6) = true)
    (xkC6 : PySem.W.keepIn K (.ref xC6) = true)
    (xeC6 : PySem.W.subIn K (.ref xC6) (.type "BaseException") = some true)
    (xtC6 : PySem.W.typeIn K (.ref xC6) = some (.type "type"))
    (xhC6 : PySem.W.hasDictIn K xC6 = true)
    (xic6 : PySem.W.isClsIn K xC6 = true)
    (xsC6 : PySem.W.subIn K (.ref xC6) (.ref xC6) = some true)
    {xC7 xf7 xcc7 xcd7 xN7 : Addr} {xnm7 xqn7 xfile7 : Str} {xbs7 xsub7 : List Value} {xsn7 : List Str} {xab7 : Bool} {xcol7 : Option Bool} {xdd7 xfod7 xan7 xcdd7 xcld7 : Option Addr} {xm07 xm17 xm27 xm37 xm57 : Option Value} {xfoc7 xkV7 xdoc7 xpm7 xct7 xccl7 xcl7 : Value} {xfsl7 xccs7 xcsl7 : Array (Option Value)} {xvs7 : Array Value} {xtf7 : Tok}
    (xa7 : PySem.W.nsIn K mainGlobals "BadOutcome" = some (some (.ref xC7)))
    (xl7 : K.lookup xC7 = some (excClassObj xnm7 xqn7 xC7 xN7 xbs7 [.ref xCP, .type "ValueError", .type "Exception", .type "BaseException", .type "object"] true xsn7 xsub7 xab7 xcol7 xdd7 xm07 xm17 xm27 xm37 xm57 "ValueError.__new__"))
    (xsa7 : PySem.W.findIn K (.ref xC7) "__setattr__" = some (some (.builtin "object.__setattr__")))
    (xga7 : PySem.W.findIn K (.ref xC7) "__getattribute__" = some (some (.builtin "BaseException.__getattribute__")))
    (xgg7 : PySem.W.findIn K (.ref xC7) "__getattr__" = some none)
    (xno7 : PySem.W.findIn K (.ref xC7) "value" = some none)
    (xiC7 : PySem.W.findIn K (.ref xC7) "__init__" = some (some (.ref xf7)))
    (xtI7 : PySem.W.typeIn K (.ref xf7) = some (.type "function"))
    (xli7 : K.lookup xf7 = some ⟨xfoc7, xfod7, .func (PySem.W.ksFn "__init__" "BadOutcome.__init__" (defArgs sBadOutcome) (defBody sBadOutcome) (defScope sBadOutcome) .none xkV7 xdoc7 xpm7 xan7 (.ref xcd7) xct7 xcc7), xfsl7⟩)
    (xco7 : PySem.W.codeIn K (.ref xcd7) "BadOutcome.__init__" = true)
    (xcx7 : K.lookup xcd7 = some ⟨xccl7, xcdd7, .fields xvs7, xccs7⟩)
    (xvx7 : xvs7[2]? = some (.str xfile7 xtf7))
    (xfi7 : ((P.main.file : Str) == xfile7) = true)
    (xto7 : (P.main.scope.names.lookup ("super" : Str)).isSome = false)
    (xce7 : K.lookup xcc7 = some ⟨xcl7, xcld7, .cell (some (.ref xC7)), xcsl7⟩)
    (xsu7 : PySem.W.ks_superIn K xC7 xC7 "__init__" = some (some (.builtin "ValueError.__init__")))
    (xse7 : PySem.W.mroIn K xC7 (.ref xC7) = some true)
    (xve7 : PySem.W.subIn K (.ref xC7) (.type "ValueError") = some true)
    (xan7 : PySem.W.nsIn K cStatics "thirdparty.any" = some none)
    (xkf7 : PySem.W.keepIn K (.ref xf7) = true)
    (xkC7 : PySem.W.keepIn K (.ref xC7) = true)
    (xeC7 : PySem.W.subIn K (.ref xC7) (.type "BaseException") = some true)
    (xtC7 : PySem.W.typeIn K (.ref xC7) = some (.type "type"))
    (xhC7 : PySem.W.hasDictIn K xC7 = true)
    (xic7 : PySem.W.isClsIn K xC7 = true)
    (xsC7 : PySem.W.subIn K (.ref xC7) (.ref xC7) = some true)
    {xC8 xf8 xcc8 xcd8 xN8 : Addr} {xnm8 xqn8 xfile8 : Str} {xbs8 xsub8 : List Value} {xsn8 : List Str} {xab8 : Bool} {xcol8 : Option Bool} {xdd8 xfod8 xan8 xcdd8 xcld8 : Option Addr} {xm08 xm18 xm28 xm38 xm58 : Option Value} {xfoc8 xkV8 xdoc8 xpm8 xct8 xccl8 xcl8 : Value} {xfsl8 xccs8 xcsl8 : Array (Option Value)} {xvs8 : Array Value} {xtf8 : Tok}
    (xa8 : PySem.W.nsIn K mainGlobals "NoCell" = some (some (.ref xC8)))
    (xl8 : K.lookup xC8 = some (excClassObj xnm8 xqn8 xC8 xN8 xbs8 [.ref xCP, .type "ValueError", .type "Exception", .type "BaseException", .type "object"] true xsn8 xsub8 xab8 xcol8 xdd8 xm08 xm18 xm28 xm38 xm58 "ValueError.__new__"))
    (xsa8 : PySem.W.findIn K (.ref xC8) "__setattr__" = some (some (.builtin "object.__setattr__")))
    (xga8 : PySem.W.findIn K (.ref xC8) "__getattribute__" = some (some (.builtin "BaseException.__getattribute__")))
    (xgg8 : PySem.W.findIn K (.ref xC8) "__getattr__" = some none)
    (xno8 : PySem.W.findIn K (.ref xC8) "value" = some none)
    (xiC8 : PySem.W.findIn K (.ref xC8) "__init__" = some (some (.ref xf8)))
    (xtI8 : PySem.W.typeIn K (.ref xf8) = some (.type "function"))
    (xli8 : K.lookup xf8 = some ⟨xfoc8, xfod8, .func (PySem.W.ksFn "__init__" "NoCell.__init__" (defArgs sNoCell) (defBody sNoCell) (defScope sNoCell) .none xkV8 xdoc8 xpm8 xan8 (.ref xcd8) xct8 xcc8), xfsl8⟩)
    (xco8 : PySem.W.codeIn K (.ref xcd8) "NoCell.__init__" = true)
    (xcx8 : K.lookup xcd8 = some ⟨xccl8, xcdd8, .fields xvs8, xccs8⟩)
    (xvx8 : xvs8[2]? = some (.str xfile8 xtf8))
    (xfi8 : ((P.main.file : Str) == xfile8) = true)
    (xto8 : (P.main.scope.names.lookup ("super" : Str)).isSome = false)
    (xce8 : K.lookup xcc8 = some ⟨xcl8, xcld8, .cell (some (.ref xC8)), xcsl8⟩)
    (xsu8 : PySem.W.ks_superIn K xC8 xC8 "__init__" = some (some (.builtin "ValueError.__init__")))
    (xse8 : PySem.W.mroIn K xC8 (.ref xC8) = some true)
    (xve8 : PySem.W.subIn K (.ref xC8) (.type "ValueError") = some true)
    (xan8 : PySem.W.nsIn K cStatics "thirdparty.any" = some none)
    (xkf8 : PySem.W.keepIn K (.ref xf8) = true)
    (xkC8 : PySem.W.keepIn K (.ref xC8) = true)
    (xeC8 : PySem.W.subIn K (.ref xC8) (.type "BaseException") = some true)
    (xtC8 : PySem.W.typeIn K (.ref xC8) = some (.type "type"))
    (xhC8 : PySem.W.hasDictIn K xC8 = true)
    (xic8 : PySem.W.isClsIn K xC8 = true)
    (xsC8 : PySem.W.subIn K (.ref xC8) (.ref xC8) = some true)
    {xC9 xf9 xcc9 xcd9 xN9 : Addr} {xnm9 xqn9 xfile9 : Str} {xbs9 xsub9 : List Value} {xsn9 : List Str} {xab9 : Bool} {xcol9 : Option Bool} {xdd9 xfod9 xan9 xcdd9 xcld9 : Option Addr} {xm09 xm19 xm29 xm39 xm59 : Option Value} {xfoc9 xkV9 xdoc9 xpm9 xct9 xccl9 xcl9 : Value} {xfsl9 xccs9 xcsl9 : Array (Option Value)} {xvs9 : Array Value} {xtf9 : Tok}
    (xa9 : PySem.W.nsIn K mainGlobals "BadText" = some (some (.ref xC9)))
    (xl9 : K.lookup xC9 = some (excClassObj xnm9 xqn9 xC9 xN9 xbs9 [.ref xCP, .type "ValueError", .type "Exception", .type "BaseException", .type "object"] true xsn9 xsub9 xab9 xcol9 xdd9 xm09 xm19 xm29 xm39 xm59 "ValueError.__new__"))
    (xsa9 : PySem.W.findIn K (.ref xC9) "__setattr__" = some (some (.builtin "object.__setattr__")))
    (xga9 : PySem.W.findIn K (.ref xC9) "__getattribute__" = some (some (.builtin "BaseException.__getattribute__")))
    (xgg9 : PySem.W.findIn K (.ref xC9) "__getattr__" = some none)
    (xno9 : PySem.W.findIn K (.ref xC9) "text" = some none)
    (xiC9 : PySem.W.findIn K (.ref xC9) "__init__" = some (some (.ref xf9)))
    (xtI9 : PySem.W.typeIn K (.ref xf9) = some (.type "function"))
    (xli9 : K.lookup xf9 = some ⟨xfoc9, xfod9, .func (PySem.W.ksFn "__init__" "BadText.__init__" (defArgs sBadText) (defBody sBadText) (defScope sBadText) .none xkV9 xdoc9 xpm9 xan9 (.ref xcd9) xct9 xcc9), xfsl9⟩)
    (xco9 : PySem.W.codeIn K (.ref xcd9) "BadText.__init__" = true)
    (xcx9 : K.lookup xcd9 = some ⟨xccl9, xcdd9, .fields xvs9, xccs9⟩)
    (xvx9 : xvs9[2]? = some (.str xfile9 xtf9))
    (xfi9 : ((P.main.file : Str) == xfile9) = true)
    (xto9 : (P.main.scope.names.lookup ("super" : Str)).isSome = false)
    (xce9 : K.lookup xcc9 = some ⟨xcl9, xcld9, .cell (some (.ref xC9)), xcsl9⟩)
    (xsu9 : PySem.W.ks_superIn K xC9 xC9 "__init__" = some (some (.builtin "ValueError.__init__")))
    (xse9 : PySem.W.mroIn K xC9 (.ref xC9) = some true)
    (xve9 : PySem.W.subIn K (.ref xC9) (.type "ValueError") = some true)
    (xan9 : PySem.W.nsIn K cStatics "thirdparty.any" = some none)
    (xkf9 : PySem.W.keepIn K (.ref xf9) = true)
    (xkC9 : PySem.W.keepIn K (.ref xC9) = true)
    (xeC9 : PySem.W.subIn K (.ref xC9) (.type "BaseException") = some true)
    (xtC9 : PySem.W.typeIn K (.ref xC9) = some (.type "type"))
    (xhC9 : PySem.W.hasDictIn K xC9 = true)
    (xic9 : PySem.W.isClsIn K xC9 = true)
    (xsC9 : PySem.W.subIn K (.ref xC9) (.ref xC9) = some true)
    {xC10 xf10 xcc10 xcd10 xN10 : Addr} {xnm10 xqn10 xfile10 : Str} {xbs10 xsub10 : List Value} {xsn10 : List Str} {xab10 : Bool} {xcol10 : Option Bool} {xdd10 xfod10 xan10 xcdd10 xcld10 : Option Addr} {xm010 xm110 xm210 xm310 xm510 : Option Value} {xfoc10 xkV10 xdoc10 xpm10 xct10 xccl10 xcl10 : Value} {xfsl10 xccs10 xcsl10 : Array (Option Value)} {xvs10 : Array Value} {xtf10 : Tok}
    (xa10 : PySem.W.nsIn K mainGlobals "BadLine" = some (some (.ref xC10)))
    (xl10 : K.lookup xC10 = some (excClassObj xnm10 xqn10 xC10 xN10 xbs10 [.ref xCP, .type "ValueError", .type "Exception", .type "BaseException", .type "object"] true xsn10 xsub10 xab10 xcol10 xdd10 xm010 xm110 xm210 xm310 xm510 "ValueError.__new__"))
    (xsa10 : PySem.W.findIn K (.ref xC10) "__setattr__" = some (some (.builtin "object.__setattr__")))
    (xga10 : PySem.W.findIn K (.ref xC10) "__getattribute__" = some (some (.builtin "BaseException.__getattribute__")))
    (xgg10 : PySem.W.findIn K (.ref xC10) "__getattr__" = some none)
    (xno10 : PySem.W.findIn K (.ref xC10) "line" = some none)
    (xiC10 : PySem.W.findIn K (.ref xC10) "__init__" = some (some (.ref xf10)))
    (xtI10 : PySem.W.typeIn K (.ref xf10) = some (.type "function"))
    (xli10 : K.lookup xf10 = some ⟨xfoc10, xfod10, .func (PySem.W.ksFn "__init__" "BadLine.__init__" (defArgs sBadLine) (defBody sBadLine) (defScope sBadLine) .none xkV10 xdoc10 xpm10 xan10 (.ref xcd10) xct10 xcc10), xfsl10⟩)
    (xco10 : PySem.W.codeIn K (.ref xcd10) "BadLine.__init__" = true)
    (xcx10 : K.lookup xcd10 = some ⟨xccl10, xcdd10, .fields xvs10, xccs10⟩)
    (xvx10 : xvs10[2]? = some (.str xfile10 xtf10))
    (xfi10 : ((P.main.file : Str) == xfile10) = true)
    (xto10 : (P.main.scope.names.lookup ("super" : Str)).isSome = false)
    (xce10 : K.lookup xcc10 = some ⟨xcl10, xcld10, .cell (some (.ref xC10)), xcsl10⟩)
    (xsu10 : PySem.W.ks_superIn K xC10 xC10 "__init__" = some (some (.builtin "ValueError.__init__")))
    (xse10 : PySem.W.mroIn K xC10 (.ref xC10) = some true)
    (xve10 : PySem.W.subIn K (.ref xC10) (.type "ValueError") = some true)
    (xan10 : PySem.W.nsIn K cStatics "thirdparty.any" = some none)
    (xkf10 : PySem.W.keepIn K (.ref xf10) = true)
    (xkC10 : PySem.W.keepIn K (.ref xC10) = true)
    (xeC10 : PySem.W.subIn K (.ref xC10) (.type "BaseException") = some true)
    (xtC10 : PySem.W.typeIn K (.ref xC10) = some (.type "type"))
    (xhC10 : PySem.W.hasDictIn K xC10 = true)
    (xic10 : PySem.W.isClsIn K xC10 = true)
    (xsC10 : PySem.W.subIn K (.ref xC10) (.ref xC10) = some true)
    {xC11 xf11 xcc11 xcd11 xN11 : Addr} {xnm11 xqn11 xfile11 : Str} {xbs11 xsub11 : List Value} {xsn11 : List Str} {xab11 : Bool} {xcol11 : Option Bool} {xdd11 xfod11 xan11 xcdd11 xcld11 : Option Addr} {xm011 xm111 xm211 xm311 xm511 : Option Value} {xfoc11 xkV11 xdoc11 xpm11 xct11 xccl11 xcl11 : Value} {xfsl11 xccs11 xcsl11 : Array (Option Value)} {xvs11 : Array Value} {xtf11 : Tok}
    (xa11 : PySem.W.nsIn K mainGlobals "NothingToUndo" = some (some (.ref xC11)))
    (xl11 : K.lookup xC11 = some (excClassObj xnm11 xqn11 xC11 xN11 xbs11 [.ref xCP, .type "ValueError", .type "Exception", .type "BaseException", .type "object"] true xsn11 xsub11 xab11 xcol11 xdd11 xm011 xm111 xm211 xm311 xm511 "ValueError.__new__"))
    (xsa11 : PySem.W.findIn K (.ref xC11) "__setattr__" = some (some (.builtin "object.__setattr__")))
    (xga11 : PySem.W.findIn K (.ref xC11) "__getattribute__" = some (some (.builtin "BaseException.__getattribute__")))
    (xgg11 : PySem.W.findIn K (.ref xC11) "__getattr__" = some none)
    (xiC11 : PySem.W.findIn K (.ref xC11) "__init__" = some (some (.ref xf11)))
    (xtI11 : PySem.W.typeIn K (.ref xf11) = some (.type "function"))
    (xli11 : K.lookup xf11 = some ⟨xfoc11, xfod11, .func (PySem.W.ksFn "__init__" "NothingToUndo.__init__" (defArgs sNothingToUndo) (defBody sNothingToUndo) (defScope sNothingToUndo) .none xkV11 xdoc11 xpm11 xan11 (.ref xcd11) xct11 xcc11), xfsl11⟩)
    (xco11 : PySem.W.codeIn K (.ref xcd11) "NothingToUndo.__init__" = true)
    (xcx11 : K.lookup xcd11 = some ⟨xccl11, xcdd11, .fields xvs11, xccs11⟩)
    (xvx11 : xvs11[2]? = some (.str xfile11 xtf11))
    (xfi11 : ((P.main.file : Str) == xfile11) = true)
    (xto11 : (P.main.scope.names.lookup ("super" : Str)).isSome = false)
    (xce11 : K.lookup xcc11 = some ⟨xcl11, xcld11, .cell (some (.ref xC11)), xcsl11⟩)
    (xsu11 : PySem.W.ks_superIn K xC11 xC11 "__init__" = some (some (.builtin "ValueError.__init__")))
    (xse11 : PySem.W.mroIn K xC11 (.ref xC11) = some true)
    (xve11 : PySem.W.subIn K (.ref xC11) (.type "ValueError") = some true)
    (xan11 : PySem.W.nsIn K cStatics "thirdparty.any" = some none)
    (xkf11 : PySem.W.keepIn K (.ref xf11) = true)
    (xkC11 : PySem.W.keepIn K (.ref xC11) = true)
    (xeC11 : PySem.W.subIn K (.ref xC11) (.type "BaseException") = some true)
    (xtC11 : PySem.W.typeIn K (.ref xC11) = some (.type "type"))
    (xhC11 : PySem.W.hasDictIn K xC11 = true)
    (xic11 : PySem.W.isClsIn K xC11 = true)
    (xsC11 : PySem.W.subIn K (.ref xC11) (.ref xC11) = some true)
    {xC12 xf12 xcc12 xcd12 xN12 : Addr} {xnm12 xqn12 xfile12 : Str} {xbs12 xsub12 : List Value} {xsn12 : List Str} {xab12 : Bool} {xcol12 : Option Bool} {xdd12 xfod12 xan12 xcdd12 xcld12 : Option Addr} {xm012 xm112 xm212 xm312 xm512 : Option Value} {xfoc12 xkV12 xdoc12 xpm12 xct12 xccl12 xcl12 : Value} {xfsl12 xccs12 xcsl12 : Array (Option Value)} {xvs12 : Array Value} {xtf12 : Tok}
    (xa12 : PySem.W.nsIn K mainGlobals "NoPredictor" = some (some (.ref xC12)))
    (xl12 : K.lookup xC12 = some (excClassObj xnm12 xqn12 xC12 xN12 xbs12 [.ref xCP, .type "ValueError", .type "Exception", .type "BaseException", .type "object"] true xsn12 xsub12 xab12 xcol12 xdd12 xm012 xm112 xm212 xm312 xm512 "ValueError.__new__"))
    (xsa12 : PySem.W.findIn K (.ref xC12) "__setattr__" = some (some (.builtin "object.__setattr__")))
    (xga12 : PySem.W.findIn K (.ref xC12) "__getattribute__" = some (some (.builtin "BaseException.__getattribute__")))
    (xgg12 : PySem.W.findIn K (.ref xC12) "__getattr__" = some none)
    (xiC12 : PySem.W.findIn K (.ref xC12) "__init__" = some (some (.ref xf12)))
    (xtI12 : PySem.W.typeIn K (.ref xf12) = some (.type "function"))
    (xli12 : K.lookup xf12 = some ⟨xfoc12, xfod12, .func (PySem.W.ksFn "__init__" "NoPredictor.__init__" (defArgs sNoPredictor) (defBody sNoPredictor) (defScope sNoPredictor) .none xkV12 xdoc12 xpm12 xan12 (.ref xcd12) xct12 xcc12), xfsl12⟩)
    (xco12 : PySem.W.codeIn K (.ref xcd12) "NoPredictor.__init__" = true)
    (xcx12 : K.lookup xcd12 = some ⟨xccl12, xcdd12, .fields xvs12, xccs12⟩)
    (xvx12 : xvs12[2]? = some (.str xfile12 xtf12))
    (xfi12 : ((P.main.file : Str) == xfile12) = true)
    (xto12 : (P.main.scope.names.lookup ("super" : Str)).isSome = false)
    (xce12 : K.lookup xcc12 = some ⟨xcl12, xcld12, .cell (some (.ref xC12)), xcsl12⟩)
    (xsu12 : PySem.W.ks_superIn K xC12 xC12 "__init__" = some (some (.builtin "ValueError.__init__")))
    (xse12 : PySem.W.mroIn K xC12 (.ref xC12) = some true)
    (xve12 : PySem.W.subIn K (.ref xC12) (.type "ValueError") = some true)
    (xan12 : PySem.W.nsIn K cStatics "thirdparty.any" = some none)
    (xkf12 : PySem.W.keepIn K (.ref xf12) = true)
    (xkC12 : PySem.W.keepIn K (.ref xC12) = true)
    (xeC12 : PySem.W.subIn K (.ref xC12) (.type "BaseException") = some true)
    (xtC12 : PySem.W.typeIn K (.ref xC12) = some (.type "type"))
    (xhC12 : PySem.W.hasDictIn K xC12 = true)
    (xic12 : PySem.W.isClsIn K xC12 = true)
    (xsC12 : PySem.W.subIn K (.ref xC12) (.ref xC12) = some true)
    {xC13 xf13 xcc13 xcd13 xN13 : Addr} {xnm13 xqn13 xfile13 : Str} {xbs13 xsub13 : List Value} {xsn13 : List Str} {xab13 : Bool} {xcol13 : Option Bool} {xdd13 xfod13 xan13 xcdd13 xcld13 : Option Addr} {xm013 xm113 xm213 xm313 xm513 : Option Value} {xfoc13 xkV13 xdoc13 xpm13 xct13 xccl13 xcl13 : Value} {xfsl13 xccs13 xcsl13 : Array (Option Value)} {xvs13 : Array Value} {xtf13 : Tok}
    (xa13 : PySem.W.nsIn K mainGlobals "NoTrace" = some (some (.ref xC13)))
    (xl13 : K.lookup xC13 = some (excClassObj xnm13 xqn13 xC13 xN13 xbs13 [.ref xCP, .type "ValueError", .type "Exception", .type "BaseException", .type "object"] true xsn13 xsub13 xab13 xcol13 xdd13 xm013 xm113 xm213 xm313 xm513 "ValueError.__new__"))
    (xsa13 : PySem.W.findIn K (.ref xC13) "__setattr__" = some (some (.builtin "object.__setattr__")))
    (xga13 : PySem.W.findIn K (.ref xC13) "__getattribute__" = some (some (.builtin "BaseException.__getattribute__")))
    (xgg13 : PySem.W.findIn K (.ref xC13) "__getattr__" = some none)
    (xiC13 : PySem.W.findIn K (.ref xC13) "__init__" = some (some (.ref xf13)))
    (xtI13 : PySem.W.typeIn K (.ref xf13) = some (.type "function"))
    (xli13 : K.lookup xf13 = some ⟨xfoc13, xfod13, .func (PySem.W.ksFn "__init__" "NoTrace.__init__" (defArgs sNoTrace) (defBody sNoTrace) (defScope sNoTrace) .none xkV13 xdoc13 xpm13 xan13 (.ref xcd13) xct13 xcc13), xfsl13⟩)
    (xco13 : PySem.W.codeIn K (.ref xcd13) "NoTrace.__init__" = true)
    (xcx13 : K.lookup xcd13 = some ⟨xccl13, xcdd13, .fields xvs13, xccs13⟩)
    (xvx13 : xvs13[2]? = some (.str xfile13 xtf13))
    (xfi13 : ((P.main.file : Str) == xfile13) = true)
    (xto13 : (P.main.scope.names.lookup ("super" : Str)).isSome = false)
    (xce13 : K.lookup xcc13 = some ⟨xcl13, xcld13, .cell (some (.ref xC13)), xcsl13⟩)
    (xsu13 : PySem.W.ks_superIn K xC13 xC13 "__init__" = some (some (.builtin "ValueError.__init__")))
    (xse13 : PySem.W.mroIn K xC13 (.ref xC13) = some true)
    (xve13 : PySem.W.subIn K (.ref xC13) (.type "ValueError") = some true)
    (xan13 : PySem.W.nsIn K cStatics "thirdparty.any" = some none)
    (xkf13 : PySem.W.keepIn K (.ref xf13) = true)
    (xkC13 : PySem.W.keepIn K (.ref xC13) = true)
    (xeC13 : PySem.W.subIn K (.ref xC13) (.type "BaseException") = some true)
    (xtC13 : PySem.W.typeIn K (.ref xC13) = some (.type "type"))
    (xhC13 : PySem.W.hasDictIn K xC13 = true)
    (xic13 : PySem.W.isClsIn K xC13 = true)
    (xsC13 : PySem.W.subIn K (.ref xC13) (.ref xC13) = some true)
    (gpe : PySem.W.nsIn K mainGlobals "PastError" = some (some (.ref xCP)))
    (xsp : PySem.W.specialIn K (.builtin "object.__class__") "__get__" = some (some (.builtin "getset_descriptor.__get__")))
    (xtk : PySem.W.takesIn K (.builtin "object.__class__") = some true)
    (xkn : kindsB K [xC0, xC1, xC2, xC3, xC4, xC5, xC6, xC7, xC8, xC9, xC10, xC11, xC12, xC13] xCP = true)
    (xexP : PySem.W.excIn K xCP PySem.HandSPX.veTail "ValueError.__new__" = true)
    (xkP : PySem.W.keepIn K (.ref xCP) = true)
    : ∃ fd : FuncData, (∀ (s : Shared) (v : Value), BindsTo s fd ⟨[v], []⟩ [("_law_script", v)]) ∧ ∀ base : Heap, K.In base → base.Ns mainGlobals mg → FnG P w K mg base 6 fa fd ["_law_script"] (spLaw K) := by
  have e := hfa.symm.trans (PySem.W.mg_of X G a9)
  cases e
  have F0 := fun_mk (st := sBox) l0 c0 k0
  have b0 := F0.binds (ps := ["_law_script", "_law_k"]) fun _ _ _ _ _ _ us hl => match us, hl with | [_, _], _ => rfl
  have g0 := PySem.W.mg_of X G a0
  have F1 := fun_mk (st := sTake) l1 c1 k1
  have b1 := F1.binds (ps := ["_law_box_here", "_law_many"]) fun _ _ _ _ _ _ us hl => match us, hl with | [_, _], _ => rfl
  have g1 := PySem.W.mg_of X G a1
  have F2 := fun_mk (st := sOf) l2 c2 k2
  have b2 := F2.binds (ps := ["_law_box_here", "_law_some"]) fun _ _ _ _ _ _ us hl => match us, hl with | [_, _], _ => rfl
  have g2 := PySem.W.mg_of X G a2
  have F3 := fun_mk (st := sAny) l3 c3 k3
  have b3 := F3.binds (ps := ["_law_box_here"]) fun _ _ _ _ _ _ us hl => match us, hl with | [_], _ => rfl
  have g3 := PySem.W.mg_of X G a3
  have F4 := fun_mk (st := sKinds) l4 c4 k4
  have b4 := F4.binds (ps := ["_law_mistake"]) fun _ _ _ _ _ _ us hl => match us, hl with | [_], _ => rfl
  have g4 := PySem.W.mg_of X G a4
  have F5 := fun_mk (st := sPlace) l5 c5 k5
  have b5 := F5.binds (ps := ["_law_thing"]) fun _ _ _ _ _ _ us hl => match us, hl with | [_], _ => rfl
  have g5 := PySem.W.mg_of X G a5
  have F6 := fun_mk (st := sName) l6 c6 k6
  have b6 := F6.binds (ps := ["_law_thing"]) fun _ _ _ _ _ _ us hl => match us, hl with | [_], _ => rfl
  have g6 := PySem.W.mg_of X G a6
  have F7 := fun_mk (st := sKept) l7 c7 k7
  have b7 := F7.binds (ps := ["_law_some"]) fun _ _ _ _ _ _ us hl => match us, hl with | [_], _ => rfl
  have g7 := PySem.W.mg_of X G a7
  have F8 := fun_mk (st := sRight) l8 c8 k8
  have b8 := F8.binds (ps := ["_law_thing"]) fun _ _ _ _ _ _ us hl => match us, hl with | [_], _ => rfl
  have g8 := PySem.W.mg_of X G a8
  have F9 := fun_mk (st := sLaw) l9 c9 k9
  have n_int := PySem.W.mg_none_of X G z0
  have n_len := PySem.W.mg_none_of X G z1
  have n_abs := PySem.W.mg_none_of X G z2
  have n_range := PySem.W.mg_none_of X G z3
  have n_enumerate := PySem.W.mg_none_of X G z4
  have n_max := PySem.W.mg_none_of X G z5
  have n_min := PySem.W.mg_none_of X G z6
  have n_all := PySem.W.mg_none_of X G z7
  have n_repr := PySem.W.mg_none_of X G z8
  have n_isinstance := PySem.W.mg_none_of X G z9
  have n_super := PySem.W.mg_none_of X G z10
  have n_ValueError := PySem.W.mg_none_of X G z11
  refine ⟨PySem.W.fnOf "law" "law" (defArgs sLaw) (defBody sLaw) (defScope sLaw) .none kV9 dc9 pm9 an9 cd9 ct9, fun s v => .of_eq rfl, fun base _ _ => ?_⟩
  have TNoBranch : XownW P w K mg base "NoBranch" "value" "value" xC0 := own_ofW scNoBranch rfl rfl (fun _ _ _ _ _ _ _ us hl => match us, hl with | [_, _], _ => rfl) (fun _ _ _ _ _ _ _ _ _ => rfl) (fun _ => rfl) (fun _ => rfl) (by decide +kernel) (by decide +kernel) (by decide +kernel) (PySem.W.mg_of X G xa0) n_super xl0 (by rfl) xsa0 xga0 xgg0 xno0 xiC0 xtI0 xli0 xco0 xcx0 xvx0 xfi0 xto0 xce0 xsu0 xse0 xve0 xan0 xkf0 xkC0 xeC0 xtC0 xhC0 xic0 xsC0
  have TTooShort : XownW P w K mg base "TooShort" "reach" "reach" xC1 := own_ofW scTooShort rfl rfl (fun _ _ _ _ _ _ _ us hl => match us, hl with | [_, _], _ => rfl) (fun _ _ _ _ _ _ _ _ _ => rfl) (fun _ => rfl) (fun _ => rfl) (by decide +kernel) (by decide +kernel) (by decide +kernel) (PySem.W.mg_of X G xa1) n_super xl1 (by rfl) xsa1 xga1 xgg1 xno1 xiC1 xtI1 xli1 xco1 xcx1 xvx1 xfi1 xto1 xce1 xsu1 xse1 xve1 xan1 xkf1 xkC1 xeC1 xtC1 xhC1 xic1 xsC1
  have TTooLong : XownW P w K mg base "TooLong" "limit" "limit" xC2 := own_ofW scTooLong rfl rfl (fun _ _ _ _ _ _ _ us hl => match us, hl with | [_, _], _ => rfl) (fun _ _ _ _ _ _ _ _ _ => rfl) (fun _ => rfl) (fun _ => rfl) (by decide +kernel) (by decide +kernel) (by decide +kernel) (PySem.W.mg_of X G xa2) n_super xl2 (by rfl) xsa2 xga2 xgg2 xno2 xiC2 xtI2 xli2 xco2 xcx2 xvx2 xfi2 xto2 xce2 xsu2 xse2 xve2 xan2 xkf2 xkC2 xeC2 xtC2 xhC2 xic2 xsC2
  have TTooManyBranches : XownW P w K mg base "TooManyBranches" "limit" "limit" xC3 := own_ofW scTooManyBranches rfl rfl (fun _ _ _ _ _ _ _ us hl => match us, hl with | [_, _], _ => rfl) (fun _ _ _ _ _ _ _ _ _ => rfl) (fun _ => rfl) (fun _ => rfl) (by decide +kernel) (by decide +kernel) (by decide +kernel) (PySem.W.mg_of X G xa3) n_super xl3 (by rfl) xsa3 xga3 xgg3 xno3 xiC3 xtI3 xli3 xco3 xcx3 xvx3 xfi3 xto3 xce3 xsu3 xse3 xve3 xan3 xkf3 xkC3 xeC3 xtC3 xhC3 xic3 xsC3
  have TBadScheme : XownW P w K mg base "BadScheme" "value" "value" xC4 := own_ofW scBadScheme rfl rfl (fun _ _ _ _ _ _ _ us hl => match us, hl with | [_, _], _ => rfl) (fun _ _ _ _ _ _ _ _ _ => rfl) (fun _ => rfl) (fun _ => rfl) (by decide +kernel) (by decide +kernel) (by decide +kernel) (PySem.W.mg_of X G xa4) n_super xl4 (by rfl) xsa4 xga4 xgg4 xno4 xiC4 xtI4 xli4 xco4 xcx4 xvx4 xfi4 xto4 xce4 xsu4 xse4 xve4 xan4 xkf4 xkC4 xeC4 xtC4 xhC4 xic4 xsC4
  have TBadCounter : XownW P w K mg base "BadCounter" "value" "value" xC5 := own_ofW scBadCounter rfl rfl (fun _ _ _ _ _ _ _ us hl => match us, hl with | [_, _], _ => rfl) (fun _ _ _ _ _ _ _ _ _ => rfl) (fun _ => rfl) (fun _ => rfl) (by decide +kernel) (by decide +kernel) (by decide +kernel) (PySem.W.mg_of X G xa5) n_super xl5 (by rfl) xsa5 xga5 xgg5 xno5 xiC5 xtI5 xli5 xco5 xcx5 xvx5 xfi5 xto5 xce5 xsu5 xse5 xve5 xan5 xkf5 xkC5 xeC5 xtC5 xhC5 xic5 xsC5
  have TBadBranch : XownW P w K mg base "BadBranch" "value" "value" xC6 := own_ofW scBadBranch rfl rfl (fun _ _ _ _ _ _ _ us hl => match us, hl with | [_, _], _ => rfl) (fun _ _ _ _ _ _ _ _ _ => rfl) (fun _ => rfl) (fun _ => rfl) (by decide +kernel) (by decide +kernel) (by decide +kernel) (PySem.W.mg_of X G xa6) n_super xl6 (by rfl) xsa6 xga6 xgg6 xno6 xiC6 xtI6 xli6 xco6 xcx6 xvx6 xfi6 xto6 xce6 xsu6 xse6 xve6 xan6 xkf6 xkC6 xeC6 xtC6 xhC6 xic6 xsC6
  have TBadOutcome : XownW P w K mg base "BadOutcome" "value" "value" xC7 := own_ofW scBadOutcome rfl rfl (fun _ _ _ _ _ _ _ us hl => match us, hl with | [_, _], _ => rfl) (fun _ _ _ _ _ _ _ _ _ => rfl) (fun _ => rfl) (fun _ => rfl) (by decide +kernel) (by decide +kernel) (by decide +kernel) (PySem.W.mg_of X G xa7) n_super xl7 (by rfl) xsa7 xga7 xgg7 xno7 xiC7 xtI7 xli7 xco7 xcx7 xvx7 xfi7 xto7 xce7 xsu7 xse7 xve7 xan7 xkf7 xkC7 xeC7 xtC7 xhC7 xic7 xsC7
  have TNoCell : XownW P w K mg base "NoCell" "value" "value" xC8 := own_ofW scNoCell rfl rfl (fun _ _ _ _ _ _ _ us hl => match us, hl with | [_, _], _ => rfl) (fun _ _ _ _ _ _ _ _ _ => rfl) (fun _ => rfl) (fun _ => rfl) (by decide +kernel) (by decide +kernel) (by decide +kernel) (PySem.W.mg_of X G xa8) n_super xl8 (by rfl) xsa8 xga8 xgg8 xno8 xiC8 xtI8 xli8 xco8 xcx8 xvx8 xfi8 xto8 xce8 xsu8 xse8 xve8 xan8 xkf8 xkC8 xeC8 xtC8 xhC8 xic8 xsC8
  have TBadText : XownW P w K mg base "BadText" "text" "text" xC9 := own_ofW scBadText rfl rfl (fun _ _ _ _ _ _ _ us hl => match us, hl with | [_, _], _ => rfl) (fun _ _ _ _ _ _ _ _ _ => rfl) (fun _ => rfl) (fun _ => rfl) (by decide +kernel) (by decide +kernel) (by decide +kernel) (PySem.W.mg_of X G xa9) n_super xl9 (by rfl) xsa9 xga9 xgg9 xno9 xiC9 xtI9 xli9 xco9 xcx9 xvx9 xfi9 xto9 xce9 xsu9 xse9 xve9 xan9 xkf9 xkC9 xeC9 xtC9 xhC9 xic9 xsC9
  have TBadLine : XownW P w K mg base "BadLine" "line" "line" xC10 := own_ofW scBadLine rfl rfl (fun _ _ _ _ _ _ _ us hl => match us, hl with | [_, _], _ => rfl) (fun _ _ _ _ _ _ _ _ _ => rfl) (fun _ => rfl) (fun _ => rfl) (by decide +kernel) (by decide +kernel) (by decide +kernel) (PySem.W.mg_of X G xa10) n_super xl10 (by rfl) xsa10 xga10 xgg10 xno10 xiC10 xtI10 xli10 xco10 xcx10 xvx10 xfi10 xto10 xce10 xsu10 xse10 xve10 xan10 xkf10 xkC10 xeC10 xtC10 xhC10 xic10 xsC10
  have TNothingToUndo : XownN P w K mg base "NothingToUndo" xC11 := own0_of scNothingToUndo rfl rfl (fun _ _ _ _ _ _ _ us hl => match us, hl with | [_], _ => rfl) (fun _ => rfl) (PySem.W.mg_of X G xa11) n_super xl11 (by rfl) xsa11 xga11 xgg11 xiC11 xtI11 xli11 xco11 xcx11 xvx11 xfi11 xto11 xce11 xsu11 xse11 xve11 xan11 xkf11 xkC11 xeC11 xtC11 xhC11 xic11 xsC11
  have TNoPredictor : XownN P w K mg base "NoPredictor" xC12 := own0_of scNoPredictor rfl rfl (fun _ _ _ _ _ _ _ us hl => match us, hl with | [_], _ => rfl) (fun _ => rfl) (PySem.W.mg_of X G xa12) n_super xl12 (by rfl) xsa12 xga12 xgg12 xiC12 xtI12 xli12 xco12 xcx12 xvx12 xfi12 xto12 xce12 xsu12 xse12 xve12 xan12 xkf12 xkC12 xeC12 xtC12 xhC12 xic12 xsC12
  have TNoTrace : XownN P w K mg base "NoTrace" xC13 := own0_of scNoTrace rfl rfl (fun _ _ _ _ _ _ _ us hl => match us, hl with | [_], _ => rfl) (fun _ => rfl) (PySem.W.mg_of X G xa13) n_super xl13 (by rfl) xsa13 xga13 xgg13 xiC13 xtI13 xli13 xco13 xcx13 xvx13 xfi13 xto13 xce13 xsu13 xse13 xve13 xan13 xkf13 xkC13 xeC13 xtC13 xhC13 xic13 xsC13
  have TKinds : Kinds K [xC0, xC1, xC2, xC3, xC4, xC5, xC6, xC7, xC8, xC9, xC10, xC11, xC12, xC13] xCP := kinds_of rfl xkn xsp xtk
  have Dlaw_box : Dfn P w K mg base 1 "_law_box" ["_law_script", "_law_k"] (spBox K) := ⟨_, _, ok_box n_len n_abs n_int F0, g0, F0.kp, b0⟩
  have Dlaw_take : Dfn P w K mg base 1 "_law_take" ["_law_box_here", "_law_many"] spTake := ⟨_, _, ok_take F1, g1, F1.kp, b1⟩
  have Dlaw_of : Dfn P w K mg base 2 "_law_of" ["_law_box_here", "_law_some"] (spOf K) := ⟨_, _, ok_of Dlaw_take n_len F2, g2, F2.kp, b2⟩
  have Dlaw_any : Dfn P w K mg base 3 "_law_any" ["_law_box_here"] (spAny K) := ⟨_, _, ok_any Dlaw_of n_range F3, g3, F3.kp, b3⟩
  have Dlaw_kinds : Dfn P w K mg base 1 "_law_kinds" ["_law_mistake"] (spKinds K [xC0, xC1, xC2, xC3, xC4, xC5, xC6, xC7, xC8, xC9, xC10, xC11, xC12, xC13]) := ⟨_, _, ok_kinds (k := 0) n_isinstance (PySem.W.mg_of X G xa0) (PySem.W.mg_of X G xa1) (PySem.W.mg_of X G xa2) (PySem.W.mg_of X G xa3) (PySem.W.mg_of X G xa4) (PySem.W.mg_of X G xa5) (PySem.W.mg_of X G xa6) (PySem.W.mg_of X G xa7) (PySem.W.mg_of X G xa8) (PySem.W.mg_of X G xa9) (PySem.W.mg_of X G xa10) (PySem.W.mg_of X G xa11) (PySem.W.mg_of X G xa12) (PySem.W.mg_of X G xa13) F4, g4, F4.kp, b4⟩
  have Dlaw_by_place : Dfn P w K mg base 3 "_law_by_place" ["_law_thing"] (spMade [(xC0, some "value"), (xC1, some "reach"), (xC2, some "limit"), (xC3, some "limit"), (xC4, some "value"), (xC5, some "value"), (xC6, some "value"), (xC7, some "value"), (xC8, some "value"), (xC9, some "text"), (xC10, some "line"), (xC11, none), (xC12, none), (xC13, none)]) := ⟨_, _, ok_place TNoBranch TTooShort TTooLong TTooManyBranches TBadScheme TBadCounter TBadBranch TBadOutcome TNoCell TBadText TBadLine TNothingToUndo TNoPredictor TNoTrace F5, g5, F5.kp, b5⟩
  have Dlaw_by_name : Dfn P w K mg base 3 "_law_by_name" ["_law_thing"] (spMade [(xC0, some "value"), (xC1, some "reach"), (xC2, some "limit"), (xC3, some "limit"), (xC4, some "value"), (xC5, some "value"), (xC6, some "value"), (xC7, some "value"), (xC8, some "value"), (xC9, some "text"), (xC10, some "line"), (xC11, none), (xC12, none), (xC13, none)]) := ⟨_, _, ok_name TNoBranch TTooShort TTooLong TTooManyBranches TBadScheme TBadCounter TBadBranch TBadOutcome TNoCell TBadText TBadLine TNothingToUndo TNoPredictor TNoTrace F6, g6, F6.kp, b6⟩
  have Dlaw_kept : Dfn P w K mg base 1 "_law_kept" ["_law_some"] (spKept K [(xC0, some "value"), (xC1, some "reach"), (xC2, some "limit"), (xC3, some "limit"), (xC4, some "value"), (xC5, some "value"), (xC6, some "value"), (xC7, some "value"), (xC8, some "value"), (xC9, some "text"), (xC10, some "line"), (xC11, none), (xC12, none), (xC13, none)]) := ⟨_, _, ok_kept (k := 0) TNoBranch TTooShort TTooLong TTooManyBranches TBadScheme TBadCounter TBadBranch TBadOutcome TNoCell TBadText TBadLine F7, g7, F7.kp, b7⟩
  have Dlaw_right : DfG P w K mg base 5 "_law_right" ["_law_thing"] (spRight K) := ⟨_, _, ok_right Dlaw_by_place Dlaw_by_name Dlaw_kept Dlaw_kinds TKinds (PySem.W.mg_of X G gpe) n_ValueError n_isinstance n_repr n_enumerate n_range F8, g8, F8.kp, b8⟩
  exact ok_law Dlaw_box Dlaw_right Dlaw_any Dlaw_kinds TKinds (PySem.W.mg_of X G gpe) xexP xkP n_range n_max n_min n_len n_all F9
end Pf
open PySem PySem.W PyProof.Rows
set_option maxHeartbeats 0 in
theorem PySem.Challenge.cw_pastenough_k05_exceptions_made_holds : PySem.Challenge.rw_pastenough_k05_exceptions_made.Holds := by
  w_on; o_law; k_head; (case hw => w_witness2)
  k_fill
  refine Gk.walkG (l := PySem.Challenge.rw_pastenough_k05_exceptions_made) (n := 63) (k := 6) (x := "_law_script") (sp := fun w => Pf.spLaw _) rfl (by decide) rfl ⟨rfl, by decide, by decide⟩ (fun w h Y => PySem.W.kIn_of Y) ?F (fun _ _ a ns hl hO hS => Pf.law_start hl hO hS)
  case F =>
    intro w mg fa h KX G hmg
    refine' Pf.all_mk KX G hmg ?a0 ?l0 ?c0 ?k0 ?a1 ?l1 ?c1 ?k1 ?a2 ?l2 ?c2 ?k2 ?a3 ?l3 ?c3 ?k3 ?a4 ?l4 ?c4 ?k4 ?a5 ?l5 ?c5 ?k5 ?a6 ?l6 ?c6 ?k6 ?a7 ?l7 ?c7 ?k7 ?a8 ?l8 ?c8 ?k8 ?a9 ?l9 ?c9 ?k9 ?z0 ?z1 ?z2 ?z3 ?z4 ?z5 ?z6 ?z7 ?z8 ?z9 ?z10 ?z11 ?xa0 ?xl0 ?xsa0 ?xga0 ?xgg0 ?xno0 ?xiC0 ?xtI0 ?xli0 ?xco0 ?xcx0 ?xvx0 ?xfi0 ?xto0 ?xce0 ?xsu0 ?xse0 ?xve0 ?xan0 ?xkf0 ?xkC0 ?xeC0 ?xtC0 ?xhC0 ?xic0 ?xsC0 ?xa1 ?xl1 ?xsa1 ?xga1 ?xgg1 ?xno1 ?xiC1 ?xtI1 ?xli1 ?xco1 ?xcx1 ?xvx1 ?xfi1 ?xto1 ?xce1 ?xsu1 ?xse1 ?xve1 ?xan1 ?xkf1 ?xkC1 ?xeC1 ?xtC1 ?xhC1 ?xic1 ?xsC1 ?xa2 ?xl2 ?xsa2 ?xga2 ?xgg2 ?xno2 ?xiC2 ?xtI2 ?xli2 ?xco2 ?xcx2 ?xvx2 ?xfi2 ?xto2 ?xce2 ?xsu2 ?xse2 ?xve2 ?xan2 ?xkf2 ?xkC2 ?xeC2 ?xtC2 ?xhC2 ?xic2 ?xsC2 ?xa3 ?xl3 ?xsa3 ?xga3 ?xgg3 ?xno3 ?xiC3 ?xtI3 ?xli3 ?xco3 ?xcx3 ?xvx3 ?xfi3 ?xto3 ?xce3 ?xsu3 ?xse3 ?xve3 ?xan3 ?xkf3 ?xkC3 ?xeC3 ?xtC3 ?xhC3 ?xic3 ?xsC3 ?xa4 ?xl4 ?xsa4 ?xga4 ?xgg4 ?xno4 ?xiC4 ?xtI4 ?xli4 ?xco4 ?xcx4 ?xvx4 ?xfi4 ?xto4 ?xce4 ?xsu4 ?xse4 ?xve4 ?xan4 ?xkf4 ?xkC4 ?xeC4 ?xtC4 ?xhC4 ?xic4 ?xsC4 ?xa5 ?xl5 ?xsa5 ?xga5 ?xgg5 ?xno5 ?xiC5 ?xtI5 ?xli5 ?xco5 ?xcx5 ?xvx5 ?xfi5 ?xto5 ?xce5 ?xsu5 ?xse5 ?xve5 ?xan5 ?xkf5 ?xkC5 ?xeC5 ?xtC5 ?xhC5 ?xic5 ?xsC5 ?xa6 ?xl6 ?xsa6 ?xga6 ?xgg6 ?xno6 ?xiC6 ?xtI6 ?xli6 ?xco6 ?xcx6 ?xvx6 ?xfi6 ?xto6 ?xce6 ?xsu6 ?xse6 ?xve6 ?xan6 ?xkf6 ?xkC6 ?xeC6 ?xtC6 ?xhC6 ?xic6 ?xsC6 ?xa7 ?xl7 ?xsa7 ?xga7 ?xgg7 ?xno7 ?xiC7 ?xtI7 ?xli7 ?xco7 ?xcx7 ?xvx7 ?xfi7 ?xto7 ?xce7 ?xsu7 ?xse7 ?xve7 ?xan7 ?xkf7 ?xkC7 ?xeC7 ?xtC7 ?xhC7 ?xic7 ?xsC7 ?xa8 ?xl8 ?xsa8 ?xga8 ?xgg8 ?xno8 ?xiC8 ?xtI8 ?xli8 ?xco8 ?xcx8 ?xvx8 ?xfi8 ?xto8 ?xce8 ?xsu8 ?xse8 ?xve8 ?xan8 ?xkf8 ?xkC8 ?xeC8 ?xtC8 ?xhC8 ?xic8 ?xsC8 ?xa9 ?xl9 ?xsa9 ?xga9 ?xgg9 ?xno9 ?xiC9 ?xtI9 ?xli9 ?xco9 ?xcx9 ?xvx9 ?xfi9 ?xto9 ?xce9 ?xsu9 ?xse9 ?xve9 ?xan9 ?xkf9 ?xkC9 ?xeC9 ?xtC9 ?xhC9 ?xic9 ?xsC9 ?xa10 ?xl10 ?xsa10 ?xga10 ?xgg10 ?xno10 ?xiC10 ?xtI10 ?xli10 ?xco10 ?xcx10 ?xvx10 ?xfi10 ?xto10 ?xce10 ?xsu10 ?xse10 ?xve10 ?xan10 ?xkf10 ?xkC10 ?xeC10 ?xtC10 ?xhC10 ?xic10 ?xsC10 ?xa11 ?xl11 ?xsa11 ?xga11 ?xgg11 ?xiC11 ?xtI11 ?xli11 ?xco11 ?xcx11 ?xvx11 ?xfi11 ?xto11 ?xce11 ?xsu11 ?xse11 ?xve11 ?xan11 ?xkf11 ?xkC11 ?xeC11 ?xtC11 ?xhC11 ?xic11 ?xsC11 ?xa12 ?xl12 ?xsa12 ?xga12 ?xgg12 ?xiC12 ?xtI12 ?xli12 ?xco12 ?xcx12 ?xvx12 ?xfi12 ?xto12 ?xce12 ?xsu12 ?xse12 ?xve12 ?xan12 ?xkf12 ?xkC12 ?xeC12 ?xtC12 ?xhC12 ?xic12 ?xsC12 ?xa13 ?xl13 ?xsa13 ?xga13 ?xgg13 ?xiC13 ?xtI13 ?xli13 ?xco13 ?xcx13 ?xvx13 ?xfi13 ?xto13 ?xce13 ?xsu13 ?xse13 ?xve13 ?xan13 ?xkf13 ?xkC13 ?xeC13 ?xtC13 ?xhC13 ?xic13 ?xsC13 ?gpe ?xsp ?xtk ?xkn ?xexP ?xkP
    (case a0 => k_is)
    (case l0 => k_is)
    (case c0 => k_is)
    (case k0 => k_is)
    (case a1 => k_is)
    (case l1 => k_is)
    (case c1 => k_is)
    (case k1 => k_is)
    (case a2 => k_is)
    (case l2 => k_is)
    (case c2 => k_is)
    (case k2 => k_is)
    (case a3 => k_is)
    (case l3 => k_is)
    (case c3 => k_is)
    (case k3 => k_is)
    (case a4 => k_is)
    (case l4 => k_is)
    (case c4 => k_is)
    (case k4 => k_is)
    (case a5 => k_is)
    (case l5 => k_is)
    (case c5 => k_is)
    (case k5 => k_is)
    (case a6 => k_is)
    (case l6 => k_is)
    (case c6 => k_is)
    (case k6 => k_is)
    (case a7 => k_is)
    (case l7 => k_is)
    (case c7 => k_is)
    (case k7 => k_is)
    (case a8 => k_is)
    (case l8 => k_is)
    (case c8 => k_is)
    (case k8 => k_is)
    (case a9 => k_is)
    (case l9 => k_is)
    (case c9 => k_is)
    (case k9 => k_is)
    (case z0 => k_is)
    (case z1 => k_is)
    (case z2 => k_is)
    (case z3 => k_is)
    (case z4 => k_is)
    (case z5 => k_is)
    (case z6 => k_is)
    (case z7 => k_is)
    (case z8 => k_is)
    (case z9 => k_is)
    (case z10 => k_is)
    (case z11 => k_is)
    (case xa0 => k_is)
    (case xl0 => k_is)
    (case xsa0 => k_is)
    (case xga0 => k_is)
    (case xgg0 => k_is)
    (case xno0 => k_is)
    (case xiC0 => k_is)
    (case xtI0 => k_is)
    (case xli0 => k_is)
    (case xco0 => k_is)
    (case xcx0 => k_is)
    (case xvx0 => first | rfl | exact rfl)
    (case xfi0 => first | rfl | decide +kernel | kernel_rfl)
    (case xto0 => first | rfl | decide +kernel | kernel_rfl)
    (case xce0 => k_is)
    (case xsu0 => first | ks_is | kernel_rfl)
    (case xse0 => first | k_is | kernel_rfl)
    (case xve0 => k_is)
    (case xan0 => k_is)
    (case xkf0 => k_is)
    (case xkC0 => k_is)
    (case xeC0 => k_is)
    (case xtC0 => k_is)
    (case xhC0 => k_is)
    (case xic0 => k_is)
    (case xsC0 => first | rfl | k_is)
    (case xa1 => k_is)
    (case xl1 => k_is)
    (case xsa1 => k_is)
    (case xga1 => k_is)
    (case xgg1 => k_is)
    (case xno1 => k_is)
    (case xiC1 => k_is)
    (case xtI1 => k_is)
    (case xli1 => k_is)
    (case xco1 => k_is)
    (case xcx1 => k_is)
    (case xvx1 => first | rfl | exact rfl)
    (case xfi1 => first | rfl | decide +kernel | kernel_rfl)
    (case xto1 => first | rfl | decide +kernel | kernel_rfl)
    (case xce1 => k_is)
    (case xsu1 => first | ks_is | kernel_rfl)
    (case xse1 => first | k_is | kernel_rfl)
    (case xve1 => k_is)
    (case xan1 => k_is)
    (case xkf1 => k_is)
    (case xkC1 => k_is)
    (case xeC1 => k_is)
    (case xtC1 => k_is)
    (case xhC1 => k_is)
    (case xic1 => k_is)
    (case xsC1 => first | rfl | k_is)
    (case xa2 => k_is)
    (case xl2 => k_is)
    (case xsa2 => k_is)
    (case xga2 => k_is)
    (case xgg2 => k_is)
    (case xno2 => k_is)
    (case xiC2 => k_is)
    (case xtI2 => k_is)
    (case xli2 => k_is)
    (case xco2 => k_is)
    (case xcx2 => k_is)
    (case xvx2 => first | rfl | exact rfl)
    (case xfi2 => first | rfl | decide +kernel | kernel_rfl)
    (case xto2 => first | rfl | decide +kernel | kernel_rfl)
    (case xce2 => k_is)
    (case xsu2 => first | ks_is | kernel_rfl)
    (case xse2 => first | k_is | kernel_rfl)
    (case xve2 => k_is)
    (case xan2 => k_is)
    (case xkf2 => k_is)
    (case xkC2 => k_is)
    (case xeC2 => k_is)
    (case xtC2 => k_is)
    (case xhC2 => k_is)
    (case xic2 => k_is)
    (case xsC2 => first | rfl | k_is)
    (case xa3 => k_is)
    (case xl3 => k_is)
    (case xsa3 => k_is)
    (case xga3 => k_is)
    (case xgg3 => k_is)
    (case xno3 => k_is)
    (case xiC3 => k_is)
    (case xtI3 => k_is)
    (case xli3 => k_is)
    (case xco3 => k_is)
    (case xcx3 => k_is)
    (case xvx3 => first | rfl | exact rfl)
    (case xfi3 => first | rfl | decide +kernel | kernel_rfl)
    (case xto3 => first | rfl | decide +kernel | kernel_rfl)
    (case xce3 => k_is)
    (case xsu3 => first | ks_is | kernel_rfl)
    (case xse3 => first | k_is | kernel_rfl)
    (case xve3 => k_is)
    (case xan3 => k_is)
    (case xkf3 => k_is)
    (case xkC3 => k_is)
    (case xeC3 => k_is)
    (case xtC3 => k_is)
    (case xhC3 => k_is)
    (case xic3 => k_is)
    (case xsC3 => first | rfl | k_is)
    (case xa4 => k_is)
    (case xl4 => k_is)
    (case xsa4 => k_is)
    (case xga4 => k_is)
    (case xgg4 => k_is)
    (case xno4 => k_is)
    (case xiC4 => k_is)
    (case xtI4 => k_is)
    (case xli4 => k_is)
    (case xco4 => k_is)
    (case xcx4 => k_is)
    (case xvx4 => first | rfl | exact rfl)
    (case xfi4 => first | rfl | decide +kernel | kernel_rfl)
    (case xto4 => first | rfl | decide +kernel | kernel_rfl)
    (case xce4 => k_is)
    (case xsu4 => first | ks_is | kernel_rfl)
    (case xse4 => first | k_is | kernel_rfl)
    (case xve4 => k_is)
    (case xan4 => k_is)
    (case xkf4 => k_is)
    (case xkC4 => k_is)
    (case xeC4 => k_is)
    (case xtC4 => k_is)
    (case xhC4 => k_is)
    (case xic4 => k_is)
    (case xsC4 => first | rfl | k_is)
    (case xa5 => k_is)
    (case xl5 => k_is)
    (case xsa5 => k_is)
    (case xga5 => k_is)
    (case xgg5 => k_is)
    (case xno5 => k_is)
    (case xiC5 => k_is)
    (case xtI5 => k_is)
    (case xli5 => k_is)
    (case xco5 => k_is)
    (case xcx5 => k_is)
    (case xvx5 => first | rfl | exact rfl)
    (case xfi5 => first | rfl | decide +kernel | kernel_rfl)
    (case xto5 => first | rfl | decide +kernel | kernel_rfl)
    (case xce5 => k_is)
    (case xsu5 => first | ks_is | kernel_rfl)
    (case xse5 => first | k_is | kernel_rfl)
    (case xve5 => k_is)
    (case xan5 => k_is)
    (case xkf5 => k_is)
    (case xkC5 => k_is)
    (case xeC5 => k_is)
    (case xtC5 => k_is)
    (case xhC5 => k_is)
    (case xic5 => k_is)
    (case xsC5 => first | rfl | k_is)
    (case xa6 => k_is)
    (case xl6 => k_is)
    (case xsa6 => k_is)
    (case xga6 => k_is)
    (case xgg6 => k_is)
    (case xno6 => k_is)
    (case xiC6 => k_is)
    (case xtI6 => k_is)
    (case xli6 => k_is)
    (case xco6 => k_is)
    (case xcx6 => k_is)
    (case xvx6 => first | rfl | exact rfl)
    (case xfi6 => first | rfl | decide +kernel | kernel_rfl)
    (case xto6 => first | rfl | decide +kernel | kernel_rfl)
    (case xce6 => k_is)
    (case xsu6 => first | ks_is | kernel_rfl)
    (case xse6 => first | k_is | kernel_rfl)
    (case xve6 => k_is)
    (case xan6 => k_is)
    (case xkf6 => k_is)
    (case xkC6 => k_is)
    (case xeC6 => k_is)
    (case xtC6 => k_is)
    (case xhC6 => k_is)
    (case xic6 => k_is)
    (case xsC6 => first | rfl | k_is)
    (case xa7 => k_is)
    (case xl7 => k_is)
    (case xsa7 => k_is)
    (case xga7 => k_is)
    (case xgg7 => k_is)
    (case xno7 => k_is)
    (case xiC7 => k_is)
    (case xtI7 => k_is)
    (case xli7 => k_is)
    (case xco7 => k_is)
    (case xcx7 => k_is)
    (case xvx7 => first | rfl | exact rfl)
    (case xfi7 => first | rfl | decide +kernel | kernel_rfl)
    (case xto7 => first | rfl | decide +kernel | kernel_rfl)
    (case xce7 => k_is)
    (case xsu7 => first | ks_is | kernel_rfl)
    (case xse7 => first | k_is | kernel_rfl)
    (case xve7 => k_is)
    (case xan7 => k_is)
    (case xkf7 => k_is)
    (case xkC7 => k_is)
    (case xeC7 => k_is)
    (case xtC7 => k_is)
    (case xhC7 => k_is)
    (case xic7 => k_is)
    (case xsC7 => first | rfl | k_is)
    (case xa8 => k_is)
    (case xl8 => k_is)
    (case xsa8 => k_is)
    (case xga8 => k_is)
    (case xgg8 => k_is)
    (case xno8 => k_is)
    (case xiC8 => k_is)
    (case xtI8 => k_is)
    (case xli8 => k_is)
    (case xco8 => k_is)
    (case xcx8 => k_is)
    (case xvx8 => first | rfl | exact rfl)
    (case xfi8 => first | rfl | decide +kernel | kernel_rfl)
    (case xto8 => first | rfl | decide +kernel | kernel_rfl)
    (case xce8 => k_is)
    (case xsu8 => first | ks_is | kernel_rfl)
    (case xse8 => first | k_is | kernel_rfl)
    (case xve8 => k_is)
    (case xan8 => k_is)
    (case xkf8 => k_is)
    (case xkC8 => k_is)
    (case xeC8 => k_is)
    (case xtC8 => k_is)
    (case xhC8 => k_is)
    (case xic8 => k_is)
    (case xsC8 => first | rfl | k_is)
    (case xa9 => k_is)
    (case xl9 => k_is)
    (case xsa9 => k_is)
    (case xga9 => k_is)
    (case xgg9 => k_is)
    (case xno9 => k_is)
    (case xiC9 => k_is)
    (case xtI9 => k_is)
    (case xli9 => k_is)
    (case xco9 => k_is)
    (case xcx9 => k_is)
    (case xvx9 => first | rfl | exact rfl)
    (case xfi9 => first | rfl | decide +kernel | kernel_rfl)
    (case xto9 => first | rfl | decide +kernel | kernel_rfl)
    (case xce9 => k_is)
    (case xsu9 => first | ks_is | kernel_rfl)
    (case xse9 => first | k_is | kernel_rfl)
    (case xve9 => k_is)
    (case xan9 => k_is)
    (case xkf9 => k_is)
    (case xkC9 => k_is)
    (case xeC9 => k_is)
    (case xtC9 => k_is)
    (case xhC9 => k_is)
    (case xic9 => k_is)
    (case xsC9 => first | rfl | k_is)
    (case xa10 => k_is)
    (case xl10 => k_is)
    (case xsa10 => k_is)
    (case xga10 => k_is)
    (case xgg10 => k_is)
    (case xno10 => k_is)
    (case xiC10 => k_is)
    (case xtI10 => k_is)
    (case xli10 => k_is)
    (case xco10 => k_is)
    (case xcx10 => k_is)
    (case xvx10 => first | rfl | exact rfl)
    (case xfi10 => first | rfl | decide +kernel | kernel_rfl)
    (case xto10 => first | rfl | decide +kernel | kernel_rfl)
    (case xce10 => k_is)
    (case xsu10 => first | ks_is | kernel_rfl)
    (case xse10 => first | k_is | kernel_rfl)
    (case xve10 => k_is)
    (case xan10 => k_is)
    (case xkf10 => k_is)
    (case xkC10 => k_is)
    (case xeC10 => k_is)
    (case xtC10 => k_is)
    (case xhC10 => k_is)
    (case xic10 => k_is)
    (case xsC10 => first | rfl | k_is)
    (case xa11 => k_is)
    (case xl11 => k_is)
    (case xsa11 => k_is)
    (case xga11 => k_is)
    (case xgg11 => k_is)
    (case xiC11 => k_is)
    (case xtI11 => k_is)
    (case xli11 => k_is)
    (case xco11 => k_is)
    (case xcx11 => k_is)
    (case xvx11 => first | rfl | exact rfl)
    (case xfi11 => first | rfl | decide +kernel | kernel_rfl)
    (case xto11 => first | rfl | decide +kernel | kernel_rfl)
    (case xce11 => k_is)
    (case xsu11 => first | ks_is | kernel_rfl)
    (case xse11 => first | k_is | kernel_rfl)
    (case xve11 => k_is)
    (case xan11 => k_is)
    (case xkf11 => k_is)
    (case xkC11 => k_is)
    (case xeC11 => k_is)
    (case xtC11 => k_is)
    (case xhC11 => k_is)
    (case xic11 => k_is)
    (case xsC11 => first | rfl | k_is)
    (case xa12 => k_is)
    (case xl12 => k_is)
    (case xsa12 => k_is)
    (case xga12 => k_is)
    (case xgg12 => k_is)
    (case xiC12 => k_is)
    (case xtI12 => k_is)
    (case xli12 => k_is)
    (case xco12 => k_is)
    (case xcx12 => k_is)
    (case xvx12 => first | rfl | exact rfl)
    (case xfi12 => first | rfl | decide +kernel | kernel_rfl)
    (case xto12 => first | rfl | decide +kernel | kernel_rfl)
    (case xce12 => k_is)
    (case xsu12 => first | ks_is | kernel_rfl)
    (case xse12 => first | k_is | kernel_rfl)
    (case xve12 => k_is)
    (case xan12 => k_is)
    (case xkf12 => k_is)
    (case xkC12 => k_is)
    (case xeC12 => k_is)
    (case xtC12 => k_is)
    (case xhC12 => k_is)
    (case xic12 => k_is)
    (case xsC12 => first | rfl | k_is)
    (case xa13 => k_is)
    (case xl13 => k_is)
    (case xsa13 => k_is)
    (case xga13 => k_is)
    (case xgg13 => k_is)
    (case xiC13 => k_is)
    (case xtI13 => k_is)
    (case xli13 => k_is)
    (case xco13 => k_is)
    (case xcx13 => k_is)
    (case xvx13 => first | rfl | exact rfl)
    (case xfi13 => first | rfl | decide +kernel | kernel_rfl)
    (case xto13 => first | rfl | decide +kernel | kernel_rfl)
    (case xce13 => k_is)
    (case xsu13 => first | ks_is | kernel_rfl)
    (case xse13 => first | k_is | kernel_rfl)
    (case xve13 => k_is)
    (case xan13 => k_is)
    (case xkf13 => k_is)
    (case xkC13 => k_is)
    (case xeC13 => k_is)
    (case xtC13 => k_is)
    (case xhC13 => k_is)
    (case xic13 => k_is)
    (case xsC13 => first | rfl | k_is)
    (case gpe => k_is)
    (case xsp => k_is)
    (case xtk => k_is)
    (case xkn => first | kernel_rfl | decide +kernel)
    (case xexP => first | k_is | kernel_rfl | decide +kernel)
    (case xkP => k_is)
