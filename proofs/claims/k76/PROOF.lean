import PyProof.Rows.All
import Wide.All
import OpenK.AllK
import Wide.FinOn
import HandS.ForMost
import HandS.Codes
import HandS.Wide
import HandS.WideBits
import HandS.Defaults
import HandS.Walk
import PyProof.ReprRoads
import HandS.Text
import HandS.Iter
import HandS.Style
import KE.GoesMore
import KE.KRevSl
import PyProof.ReprLen
import PyProof.StrBlock2
import HandS.Ends
import HandS.TupMul
import HandS.TupAny
import HandS.IsInst
import HandS.SetBool
import HandS.Strs
import HandS.Dict
import HandS.Gcd
import KE.KMathGC
import HandS.GenList
import HandS.SetKeys
import HandS.DictTup
import HandS.TupLen
import PyProof.DictMoreH
import HandS.Conv
import HandS.More
import KE.KSortTupG
import KE.KDictPairs
import KE.KeyNested
import HandS.Small
import KE.DataCmp
import HandS.MakeKwOnly
import PyProof.Rows.ReprOcc
import HandS.ExcInit
import HandS.ExcSuper
import KE.KExcSuper
import HandS.ExcField
import HandS.ExcOwn
import HandS.Words
import HandS.ExcValue
import KE.KExcHand
import HandS.ExcIs
import KE.KExcIs
import HandS.MakeKw
import HandS.OwnEq
import OpenK.KMeth
import OpenK.KOps
import KE.KCallOwn
import HandS.EndTab
import HandS.SetFor
import HandS.Comp
import HandS.SortRule
import HandS.List
import PySem.Challenge.RW_pastenough_k76_whole_traces_turned_and_r
set_option Elab.async false
set_option linter.all false
set_option maxRecDepth 100000
set_option maxHeartbeats 4000000
/-! Defs that are run where no repr is under way; repr of data; further small rules. -/
namespace Gk
open PySem PySem.Spec PyProof.Rows L2

/-- a def's promise wherever nothing is being shown -/
structure FnG (P : Program) (w : World) (K : PySem.W.Frag) (mg : Str → Option Value) (base : Heap) (k : Nat)
    (f : Addr) (fd : FuncData) (ps : List Str) (sp : Sp) : Prop where
  len : ∀ vs H Q E, sp vs H Q E → vs.length = ps.length
  go : ∀ (A : Around) (outer : List Env) (s : Shared) (H : Hp) (args : Args) (us : List Value) (vs : List V) (Q : VK),
    Room k A → A.guards = some [] → Env0 P w K mg base A outer s H → BindsTo s fd args (ps.zip us) → Vals vs us → sp vs H Q L2.E0 →
    codeAny (model P w) A (.call (.ref f) args) (CR L2.CX0 outer P w H s Q L2.E0) s

section
variable {P : Program} {w : World} {K : PySem.W.Frag} {mg : Str → Option Value} {base : Heap}
theorem FnG.weak {j k : Nat} {f : Addr} {fd : FuncData} {ps : List Str} {sp : Sp} (F : FnG P w K mg base j f fd ps sp) (h : j ≤ k) : FnG P w K mg base k f fd ps sp :=
  ⟨F.len, fun A outer s H args us vs Q r g => F.go A outer s H args us vs Q (r.mono h) g⟩
theorem FnG.from {k : Nat} {f : Addr} {fd : FuncData} {ps : List Str} {sp : Sp} (F : FnOk P w K mg base L2.CX0 k f fd ps sp) : FnG P w K mg base k f fd ps sp :=
  ⟨F.len, fun A outer s H args us vs Q r _ e b v q => F.run A outer s H args us vs Q L2.E0 r e b v q⟩

theorem guards_deeper {A : Around} {env : Env} (h : A.guards = some []) : (A.deeper env).guards = some [] := by
  first | exact h | (unfold Around.deeper; exact h)

/-- THE RULE for a def, by its body -/
theorem fnG {x qual : Str} {st : Stmt} {f : Addr} {fd : FuncData} {N ps : List Str} {k : Nat} {sp : Sp} (F : L2.Fun K x qual st f fd) (S : FnScope N ps (defScope st))
    (len : ∀ vs H Q E, sp vs H Q E → vs.length = ps.length)
    (hbody : ∀ (cdv : Value) (A : Around) (outer : List Env) (s : Shared) (H : Hp) (vs : List V) (Q : VK),
      Room k (A.deeper (envOfC qual (defScope st) s.heap.objs.size f cdv)) → (A.deeper (envOfC qual (defScope st) s.heap.objs.size f cdv)).guards = some [] → sp vs H Q L2.E0 →
      ∃ t, PSs (cxOf L2.CX0 P w K mg base N qual (defScope st) f cdv A outer s H L2.E0).nox (defBody st) t ∧ t { nx := fun _ H' => Q .non H', rt := Q } (start N vs) H) :
    FnG P w K mg base (k + 1) f fd ps sp := by
  obtain ⟨oc, od, kV, doc, pm, an, cdv, ct, osl, rfl, lk, hcd⟩ := F.ex
  refine ⟨len, fun A outer s H args us vs Q room gd en bd rv want => ?_⟩
  have many := len _ _ _ _ want
  have KX : K.In s.heap := en.mod.kin.keeps (fun b o hbo => (en.bs b o hbo).1)
  have lim : s.heap.NoLimit := en.mod.nolimit.keeps (fun b o hbo => (en.bs b o hbo).1)
  have kinds : ∀ y ∈ ps.zip us, (defScope st).names.lookup y.1 = some .local ∨
      ((defScope st).names.lookup y.1 = some .cell ∧ ((cellsFrom (s.heap.objs.size + 1) (defScope st).names []).lookup y.1).isSome = true) := fun y hy =>
    (S.par y.1 (List.of_mem_zip (a := y.1) (b := y.2) hy).1).elim Or.inl fun q => .inr ⟨q, PySem.W.cellsFrom_some _ _ _ (.inl q)⟩
  refine codeAny_call_function room.depth (KX _ _ lk) rfl S.co S.gen rfl (PySem.W.codeRec_of KX hcd) (bd _ _ _ _ ?_)
  refine wpAny_newFunctionEnv_cells S.kind kinds fun env he st1 inC => ?_
  subst he
  refine ⟨lim.keeps inC.toInCall.keep, codeAny_func ?_⟩
  obtain ⟨t, ht, hq⟩ := hbody cdv A outer s H vs Q (room.deeper _) (guards_deeper gd) want
  have I := inv_start (CX := L2.CX0) (P := P) (w := w) (mg := mg) (E := L2.E0) S room.hd en many rv inC
  refine wpAny_mono (ht.nox.run [] st1 (start N vs) H _ I hq) (fun fl s' hs => ?_) fun e s' hs => hs
  cases fl with
  | brk => obtain ⟨_, _, _, z⟩ := hs; exact False.elim z
  | cont => obtain ⟨_, _, _, z⟩ := hs; exact False.elim z
  | next => obtain ⟨σ1, H1, J, z⟩ := hs; exact ⟨V.non, H1, J.os, J.bare, J.base, J.hok, rfl, z⟩
  | ret u => obtain ⟨v, σ1, H1, J, rv1, z⟩ := hs; exact ⟨v, H1, J.os, J.bare, J.base, J.hok, rv1, z⟩
end

section
variable {X : Cx} {k : Nat} {f : Addr} {fd : FuncData} {ps : List Str} {sp : Sp} {x : Str} {p pos : Pos} {e : Expr} {es : List Expr} {t : TA}
theorem go_fn {pins : List (Addr × Obj)} {σ : L2.St} {H : Hp} {s : Shared} {Q : VK} {us : List Value} {vs : List V} (F : FnG X.prog X.w X.K X.mg X.base k f fd ps sp)
    (hr : Room k X.A) (hg : X.A.guards = some []) (hb : Binds X.K fd ps []) (I : Inv X pins σ H s) (r : Vals vs us) (h : sp vs H Q L2.E0) : wpAny (model X.prog X.w) X.A (call (.ref f) us) (EP X pins σ Q) X.xe s := by
  have hl : (us ++ []).length = ps.length := by rw [List.append_nil, ← r.length]; exact F.len _ _ _ _ h
  have b := hb s us I.kIn hl
  rw [List.append_nil] at b
  refine wpAny_call (codeAny_mono (F.go X.A X.stack s H ⟨us, []⟩ us vs Q hr hg I.env0 b r h) fun res s' hq => ?_)
  cases res with
  | error er => exact False.elim hq
  | ok fl =>
    cases fl with
    | brk => exact False.elim hq
    | cont => exact False.elim hq
    | next => exact False.elim hq
    | ret u => exact I.after hq
def tG (sp : Sp) (t : TA) : TE := fun σ H Q => t σ H fun vs H1 => sp vs H1 Q L2.E0
/-- f(e, ..) -/
theorem pe_g (F : FnG X.prog X.w X.K X.mg X.base k f fd ps sp) (hr : Room k X.A) (hd : X.A.guards = some []) (hg : Gl X x) (hm : X.mg x = some (.ref f)) (hk : PySem.W.keepIn X.K (.ref f) = true) (hb : Binds X.K fd ps [])
    (ha : PA X (e :: es) t) (hdb : (x == ("__debug__" : Str)) = false := by decide) (he : starEach (e :: es) X.env = (false, eval e X.env) :: starEach es X.env := by rfl)
    (hpl : (backTo pos (starEach es X.env)).any (·.1) = false := by rfl) : PE X (.Call (.Name x p) (e :: es) [] pos) (tG sp t) :=
  ⟨fun pins s σ H Q I h => wpAny_Call_Name_kw (ld_glob I hg hm (PySem.W.callWith_K (h₀ := X.base) I.ok.mod.kin hk (thn (ha.run pos pins s σ H _ I h) fun us s1 ⟨vs, H1, I1, r, q⟩ => ⟨I1.kIn, go_fn F hr hd hb I1 r q⟩) he hpl) hdb)⟩
end

/-! ### keywords alone -/
section
variable {X : Cx} {k : Nat} {f : Addr} {fd : FuncData} {ps ks : List Str} {sp : Sp} {x : Str} {p pos : Pos} {kws : List Keyword} {tk : TA} {g : List Value → List Value → List Value} {gV : List V → List V → List V}
def tKw (n : Nat) (gV : List V → List V) (sp : Sp) (tk : TA) : TE := fun σ H Q => tk σ H fun zs H1 => zs.length = n ∧ sp (gV zs) H1 Q L2.E0
/-- f(k = v, ..) -/
theorem pe_kw (F : FnOk X.prog X.w X.K X.mg X.base L2.CX0 k f fd ps sp) (hr : Room k X.A) (hg : Gl X x) (hm : X.mg x = some (.ref f)) (hk : PySem.W.keepIn X.K (.ref f) = true) (hb : KBn X.K fd ps 0 ks g gV)
    (hkw : PK X kws tk) (hall : (backToKw pos (keywordEach kws X.env)).all (·.1.isSome) = true := by rfl) (hks : (backToKw pos (keywordEach kws X.env)).filterMap (·.1) = ks := by rfl) (hdb : (x == ("__debug__" : Str)) = false := by decide)
    (hpl : ((backTo pos (starEach [] X.env)).any (·.1) || (backToKw pos (keywordEach kws X.env)).any (·.1.isNone)) = false := by rfl) :
    PE X (.Call (.Name x p) [] kws pos) (tKw ks.length (gV []) sp tk) := by
  refine ⟨fun pins s σ H Q I h => wpAny_Call_Name_kw (ld_glob I hg hm ?_ hdb)⟩
  refine PySem.W.callWith_KW0 (h₀ := X.base) I.ok.mod.kin hk hall (thn (hkw.run pos pins s σ H _ I h) fun ws s2 ⟨zs, H2, I2, rz, l2, q2⟩ => ⟨I2.kIn, ?_⟩) hpl
  rw [hks]
  exact run_fnN (us := []) (vs := []) F hr hb L2.pass0 I2 .nil rz rfl l2 q2
end
end Gk
namespace Gk
open PySem PySem.Spec PyProof.Rows L2 PySem.Builtin.Str

/-! ### powers of great numbers -/
def CBigPow (i j : Int) : Prop := 0 ≤ j ∧ (Builtin.Int.intBits i : Int) * j ≤ 2 ^ 27
theorem op_bigpow {X : Cx} : OpR X (binaryOp .Pow) (rI CBigPow fun i j => .int (i ^ j.toNat)) := opI fun _ _ _ _ _ _ _ hc q => pow_int hc.1 hc.2 q

/-! ### repr of data -/
theorem call_reprD {X : Cx} {k : Nat} (hr : Room k X.A) (hg : X.A.guards = some []) : CallR X (.builtin "repr") (fun xs H Q => ∃ v d, xs = [v] ∧ Dp X.K H v d ∧ d.showable = true ∧ d.hasDict = false ∧
    d.depth ≤ 40 ∧ d.shown.length ≤ sizeLine ∧ Q (.str d.shown) H) := by
  intro pins s σ H xs us Q I r h
  obtain ⟨v, d, rfl, hd, hs, hn, hdep, hz, q⟩ := h
  obtain ⟨u, rfl, ru⟩ := vals1 r
  have hun := hr.units
  cases hd with
  | non =>
    cases ru
    exact PySem.P.repr_of_none ⟨.str _, H, I.tok _, ⟨_, rfl⟩, q⟩
  | bl b =>
    cases ru
    exact PySem.P.repr_of_bool ⟨.str _, H, I.tok _, ⟨_, rfl⟩, q⟩
  | int i =>
    obtain ⟨t, rfl⟩ := ru
    exact PySem.P.repr_of_int (of_decide_eq_true hs) ⟨.str _, H, I.tok _, ⟨_, rfl⟩, q⟩
  | str x =>
    obtain ⟨t, rfl⟩ := ru
    exact PySem.P.repr_of_str ⟨.str _, H, I.tok _, ⟨_, rfl⟩, q⟩ hz
  | lst h1 h2 =>
    rename_i a xs ds
    obtain ⟨as, rd⟩ := Dp.reads I (.list ds) (.ref a) u (.lst h1 h2) ru
    cases ru
    exact repr_of_reads' rd hs (PyData.noDict_hsm hn) hg (by omega) (fun _ _ e => e) (fun h' t tk hk => ⟨.str _, H, I.kept (t' := tk) hk, ⟨_, rfl⟩, q⟩) hz
  | tup h1 h2 =>
    rename_i a xs ds
    obtain ⟨as, rd⟩ := Dp.reads I (.tuple ds) (.ref a) u (.tup h1 h2) ru
    cases ru
    exact repr_of_reads' rd hs (PyData.noDict_hsm hn) hg (by omega) (fun _ _ e => e) (fun h' t tk hk => ⟨.str _, H, I.kept (t' := tk) hk, ⟨_, rfl⟩, q⟩) hz

/-! ### a text from behind -/
theorem rev_signs (z : Str) : ((strSliceIndices none none (-1) z.length).filterMap (z.cps[·]?)).toArray = z.cps.toList.reverse.toArray := by
  have e : strSliceIndices none none (-1) z.length = (List.range z.cps.size).reverse := by
    show sliceRange ((z.cps.size : Int) - 1) (-1) (-1) = _
    rw [PySem.W.krv_sliceRange, PySem.W.krv_range]
  rw [e, List.filterMap_reverse, PySem.W.krv_all]
def tRevT (te : TE) : TE := fun σ H Q => te σ H fun x H1 => ∃ z : Str, x = .str z ∧ z.length ≤ sizeLine ∧ Q (.str ⟨z.cps.toList.reverse.toArray⟩) H1
theorem pe_revT {X : Cx} {e : Expr} {te : TE} {k : Nat} {p1 p2 p3 pos : Pos} (he : PE X e te) : PE X (.Subscript e (.Slice none none (some (.UnaryOp .USub (.Constant (.int 1) k p1) p2)) p3) pos) (tRevT te) := by
  refine ⟨fun pins s σ H Q I h => Subscript_ (thn (he.run pins s σ H _ I h) fun v s1 ⟨x, H1, I1, r1, z, ex, hz, q⟩ => ?_)⟩
  subst ex
  obtain ⟨t, rfl⟩ := r1
  have step : PO X (some (.UnaryOp .USub (.Constant (.int 1) k p1) p2)) (tPart (tUn (rU fun i => .int (-i)) (tC (.int 1)))) := po_some (pe_un un_neg pe_int)
  refine wpAny_Slice (thn (po_none.run pins s1 σ H1 (fun o G => o = none ∧ G = H1) I1 ⟨rfl, rfl⟩) fun vl s2 ⟨l, H2, I2, pl, el, e2⟩ => ?_)
  subst e2 el
  refine thn (po_none.run pins s2 σ H2 (fun o G => o = none ∧ G = H2) I2 ⟨rfl, rfl⟩) fun vu s3 ⟨u, H3, I3, pu, eu, e3⟩ => ?_
  subst e3 eu
  refine thn (step.run pins s3 σ H3 (fun o G => o = some (-1) ∧ G = H3) I3 ⟨1, rfl, -1, rfl, rfl, rfl⟩) fun vs s4 ⟨o, H4, I4, ps, eo, e4⟩ => ?_
  subst e4 eo
  obtain ⟨l, rfl, el⟩ := IsPart.raw pl
  obtain ⟨u, rfl, eu⟩ := IsPart.raw pu
  obtain ⟨w, rfl, ew⟩ := IsPart.raw ps
  have I5 : Inv X pins σ H4 { s4 with heap := s4.heap.push { cls := .type "slice", data := .fields #[partValue l, partValue u, partValue w] } } :=
    I4.kept (t' := s4.toks) fun b ob g => Heap.get?_push_of_some _ g
  refine tail_any (T := "str") (ops := [.str z t, .ref s4.heap.objs.size]) (typeIs_str _ _ _) F.slot_str_getitem.lookup ?_ (by with_unfolding_all rfl)
  refine wpAny_getItem_str_slice (l := l) (u := u) (st := w) ⟨_, Heap.get?_push_size _ rfl, rfl, rfl⟩ (by rw [ew]; rfl) ?_
  unfold sliceMade slicePicked
  rw [el, eu, ew]
  show Made.post (if ((-1 : Int) == 1 && _) = true then _ else Made.str ⟨((strSliceIndices none none (-1) z.length).filterMap (z.cps[·]?)).toArray⟩) _ _
  rw [show ((-1 : Int) == 1) = false from rfl, Bool.false_and, if_neg Bool.false_ne_true, rev_signs]
  have hl : (⟨z.cps.toList.reverse.toArray⟩ : Str).length ≤ sizeLine := by
    show z.cps.toList.reverse.toArray.size ≤ sizeLine
    rw [List.size_toArray, List.length_reverse, Array.length_toList]
    exact hz
  exact ⟨hl, .str _, H4, I5.tok _, ⟨_, rfl⟩, q⟩

/-! ### enumerate of a text -/
def Iet (z : Str) : It := ⟨fun i _ => i < z.cps.size, fun i H v H' => ∃ T c, v = .ref T ∧ H T = none ∧ z.cps[i]? = some c ∧ H' = upd H T (.tup [.int (i : Nat), .str ⟨#[c]⟩]), fun i _ => z.cps.size ≤ i⟩
theorem turn_et {P : Program} {w : World} {K : PySem.W.Frag} {elts : List Expr} {kk : Nat} {tpos : Pos} (e it : Addr) (z : Str) (t : Tok) :
    Turn P w K (.Tuple elts kk tpos) (Iet z) [e, it] e (fun i h => ((∃ old, IsEnum h e it i old) ∧ h.IsStrIter it (strIterType z) z t i) ∧ e ≠ it ∧ i ≤ z.cps.size) where
  mem := List.mem_cons_self
  obj := fun i h st b hb => by
    obtain ⟨⟨⟨old, he⟩, ⟨o, ho, hc, hd⟩⟩, _⟩ := st
    rcases List.mem_cons.mp hb with rfl | hb
    · exact ⟨_, he, fun v g => nomatch g⟩
    · rw [List.mem_singleton.mp hb]
      exact ⟨o, ho, fun v g => by rw [hd] at g; cases g⟩
  keep := fun i h h' st k => by
    obtain ⟨⟨⟨old, he⟩, ⟨o, ho, hc, hd⟩⟩, hne⟩ := st
    exact ⟨⟨⟨old, k e List.mem_cons_self _ he⟩, o, k it (List.mem_cons_of_mem _ List.mem_cons_self) o ho, hc, hd⟩, hne⟩
  item := by
    intro X hP hw hK hc i pins s σ H E I hf st hg
    subst hP hw hK
    have hg' : i < z.cps.size := hg
    obtain ⟨st, hne, hi⟩ := st
    have D : Draws X.prog X.w X.A.in1 it [it] z.cps.size _ _ := Draws.text (show X.A.in1.handled = none from I.ok.hd hc) it z t
    have W := WalksT.enumerateD D e hne (fun q => hne (List.mem_singleton.mp q)) List.mem_cons_self
    have hel : e < s.heap.objs.size := by obtain ⟨⟨old, he⟩, _⟩ := st; exact Heap.lt_size he
    have hil : it < s.heap.objs.size := by obtain ⟨_, o, ho, _⟩ := st; exact Heap.lt_size ho
    refine W.item i s _ _ hg' st fun T vals h' tk hp hT isT mid hk => ?_
    obtain ⟨t1, x1, ⟨c, u1, hcx, rfl⟩, rfl⟩ := hp
    have nT := W.apart i T h' mid
    refine ⟨_, rfl, W.go elts kk tpos i T { s with heap := h', toks := tk } _ _ mid fun h2 st2 hk2 => ?_⟩
    obtain ⟨oT, gT, cT, nTT, dT⟩ := isT
    have gT2 := hk2 T oT nT gT
    have new : ObjOk X.prog X.w (upd H T (.tup [.int (i : Nat), .str ⟨#[c]⟩])) h2 T (.tup [.int (i : Nat), .str ⟨#[c]⟩]) :=
      ⟨by show 2 ≤ sizeLine; decide, [.int i t1, .str ⟨#[c]⟩ u1], .cons ⟨_, rfl⟩ (.cons ⟨_, rfl⟩ .nil), ⟨oT, gT2, cT, nTT, dT⟩⟩
    have I1 : Inv X pins σ (upd H T (.tup [.int (i : Nat), .str ⟨#[c]⟩])) { s with heap := h2, toks := tk } :=
      I.turnedNew (ch := [e, it]) (fun b ob hb g => hk2 b ob hb (hk b ob hb g)) hf hT new
    refine ⟨.ref T, _, I1, rfl, ⟨T, c, rfl, I.hok.fresh hT, hcx, rfl⟩, ⟨⟨?_, st2.2⟩, hne, hg'⟩, fun b hb => ?_⟩
    · exact st2.1
    · have hb' : b < s.heap.objs.size := by
        rcases List.mem_cons.mp hb with rfl | hb
        · exact hel
        · rw [List.mem_singleton.mp hb]; exact hil
      rw [upd_ne (Nat.ne_of_lt (Nat.lt_of_lt_of_le hb' hT))]
      exact (hf b hb).1
  done := by
    intro X hP hw hK hc i pins s σ H E I hf st hg
    subst hP hw hK
    obtain ⟨st, hne, hi⟩ := st
    have hg' : z.cps.size ≤ i := hg
    obtain rfl : i = z.cps.size := Nat.le_antisymm hi hg'
    have D : Draws X.prog X.w X.A.in1 it [it] z.cps.size _ _ := Draws.text (show X.A.in1.handled = none from I.ok.hd hc) it z t
    have W := WalksT.enumerateD D e hne (fun q => hne (List.mem_singleton.mp q)) List.mem_cons_self
    refine W.done s _ _ st fun h' tk hk => ⟨rfl, ?_⟩
    exact I.step (g' := s.gens) (d' := s.drawn) (ch := [e, it]) (fun b hb => ⟨(hf b hb).2.2.2.1, (hf b hb).2.1, (hf b hb).2.2.2.2.1, (hf b hb).2.2.2.2.2⟩) (fun b o _ _ hc g _ => hk b o hc g) (fun b o _ _ hc g _ => ⟨o.slots, hk b o hc g⟩)
      (fun _ _ _ _ n => n) (fun b o hc g => ⟨o, hk b o hc g⟩) (fun _ _ g => g) (fun _ _ _ g => g) (fun b ps g => ⟨#[], by rw [g]; simp⟩)
      (fun m hm => by
        obtain ⟨o, es, ep, ho, r⟩ := hm
        exact ⟨o, es, ep, hk _ o (fun q => (hf _ q).2.1 rfl) ho, r⟩)
      (fun b u g => by
        have nb : ∀ c v, H c = some v → c ∉ [e, it] := fun c v g q => by
          have g' := (hf c q).1
          rw [g'] at g; cases g
        refine (I.hok b u g).stay (fun c v hcv q => hk c v ?_ q) (fun _ q => q) fun _ _ q => q
        rcases hcv with rfl | hcv
        · exact nb _ _ g
        · exact nb _ _ hcv) I.bare
  self := fun A i s Q E st h => by
    obtain ⟨⟨⟨old, he⟩, _⟩, _⟩ := st
    exact wpAny_pyIter_enum he h
def iEnumT (ta : TA) : TI := fun σ H R => ta σ H fun vs H1 => ∃ z, vs = [.str z] ∧ R (Iet z) H1
theorem pi_enumT {X : Cx} {e : Expr} {ta : TA} {p pos tpos : Pos} {elts : List Expr} {kk : Nat} (hg : Gl X "enumerate") (hm : X.mg "enumerate" = none) (ha : PA X [e] ta) (hs : starEach [e] X.env = [(false, eval e X.env)] := by rfl) :
    PI X (.Tuple elts kk tpos) (.Call (.Name "enumerate" p) [e] [] pos) (iEnumT ta) := by
  refine ⟨fun pins s σ H R I h => Call_ (ld_blt I hg hm boot_enumerate (PyProof.Rows.callWith_type1 (thn (ha.run pos pins s σ H _ I h) fun us s1 ⟨vs, H1, I1, r1, z, ez, q⟩ => ?_) hs rfl))⟩
  subst ez
  obtain ⟨u, rfl, t, rfl⟩ := vals1 r1
  refine call_enumerate_str fun h' he hit hsz hk => wpAny_pyIter_enum he ?_
  refine ⟨s1.heap.objs.size + 1, [s1.heap.objs.size + 1, s1.heap.objs.size], _, _, H1, rfl, I1.kept (t' := s1.toks) hk, turn_et (s1.heap.objs.size + 1) s1.heap.objs.size z t, ⟨⟨⟨.none, he⟩, hit⟩, Nat.succ_ne_self _, Nat.zero_le _⟩, fun b hb => ?_, q⟩
  have hle : s1.heap.objs.size ≤ b := by
    rcases List.mem_cons.mp hb with rfl | hb
    · exact Nat.le_succ _
    · rw [List.mem_singleton.mp hb]
      exact Nat.le_refl _
  exact I1.fpOk hle (I1.hok.fresh hle)
theorem walk_et {z : Str} : Walk (Iet z) z.cps.size (fun _ => True) (fun i H v H' => ∃ T c, v = .ref T ∧ H T = none ∧ z.cps[i]? = some c ∧ H' = upd H T (.tup [.int (i : Nat), .str ⟨#[c]⟩])) :=
  ⟨fun _ _ hi _ => hi, fun _ _ => Nat.le_refl _, fun _ _ _ _ _ _ y => y⟩
end Gk
namespace Gk
open PySem PySem.Spec PyProof.Rows L2
/-! ### the box of draws -/
def Box (m : Nat) (H : Hp) (b : Addr) : Prop := ∃ x y s : Int, H b = some (.lst [.int x, .int y, .int s]) ∧ 0 ≤ s ∧ s ≤ m
theorem Box.up {m n : Nat} {H : Hp} {b : Addr} (h : Box m H b) (hn : m ≤ n) : Box n H b := by
  obtain ⟨x, y, s, e, h0, h1⟩ := h
  exact ⟨x, y, s, e, h0, by omega⟩
/-- all but the box is as it was -/
def But (b : Addr) (H H' : Hp) : Prop := ∀ a o, a ≠ b → H a = some o → H' a = some o
theorem But.refl (b : Addr) (H : Hp) : But b H H := fun _ _ _ h => h
theorem But.trans {b : Addr} {H H1 H2 : Hp} (x : But b H H1) (y : But b H1 H2) : But b H H2 := fun a o n h => y a o n (x a o n h)
theorem But.set {b : Addr} {H : Hp} {o : HO} : But b H (upd H b o) := fun a u n h => by rw [upd_ne n]; exact h
theorem But.new {b p : Addr} {H : Hp} {o : HO} (h : H p = none) : But b H (upd H p o) := fun a u _ e => by rw [upd_ne (ne_of_none e h)]; exact e
theorem But.of_same {b : Addr} {H H' : Hp} (h : Same H H') : But b H H' := fun a o _ e => h a o e
theorem same_new {H : Hp} {p : Addr} {o : HO} (h : H p = none) : Same H (upd H p o) := fun a u e => by rw [upd_ne (ne_of_none e h)]; exact e
theorem Box.same {m : Nat} {H H' : Hp} {b : Addr} (h : Box m H b) (s : Same H H') : Box m H' b := by
  obtain ⟨x, y, z, e, r⟩ := h
  exact ⟨x, y, z, s _ _ e, r⟩
theorem Box.ne {m : Nat} {H : Hp} {b p : Addr} (h : Box m H b) (hp : H p = none) : b ≠ p := by
  obtain ⟨x, y, z, e, r⟩ := h
  exact ne_of_none e hp
theorem But.seqL {b : Addr} {K : PySem.W.Frag} {H H' : Hp} {a : Addr} {xs : List V} (e : But b H H') (n : a ≠ b) (h : SqL K H a xs) : SqL K H' a xs := by
  rcases h with (h | ⟨o, h⟩) | h
  · exact .inl (.inl (e _ _ n h))
  · exact .inl (.inr ⟨o, e _ _ n h⟩)
  · exact .inr h
theorem But.seqT {b : Addr} {K : PySem.W.Frag} {H H' : Hp} {a : Addr} {xs : List V} (e : But b H H') (n : a ≠ b) (h : SqT K H a xs) : SqT K H' a xs := by
  rcases h with (h | ⟨o, h⟩) | h
  · exact .inl (.inl (e _ _ n h))
  · exact .inl (.inr ⟨o, e _ _ n h⟩)
  · exact .inr h
theorem Same.seqT {K : PySem.W.Frag} {H H' : Hp} {a : Addr} {xs : List V} (e : Same H H') (h : SqT K H a xs) : SqT K H' a xs := by
  rcases h with (h | ⟨o, h⟩) | h
  · exact .inl (.inl (e _ _ h))
  · exact .inl (.inr ⟨o, e _ _ h⟩)
  · exact .inr h
/-- what is read at an address that is not the box's -/
theorem box_not_tup {m : Nat} {K : PySem.W.Frag} {H : Hp} {b a : Addr} (h : Box m H b) {xs : List V} (t : H a = some (.tup xs)) : a ≠ b := by
  obtain ⟨x, y, z, e, r⟩ := h
  exact ne_of t e (fun q => HO.noConfusion q)

/-! ### defs with their names -/
structure Dfn (P : Program) (w : World) (K : PySem.W.Frag) (mg : Str → Option Value) (base : Heap) (k : Nat) (x : Str) (ps : List Str) (sp : Sp) : Prop where
  ex : ∃ (f : Addr) (fd : FuncData), FnOk P w K mg base L2.CX0 k f fd ps sp ∧ mg x = some (.ref f) ∧ PySem.W.keepIn K (.ref f) = true ∧ Binds K fd ps []
/-- .. where nothing is being shown -/
structure DfG (P : Program) (w : World) (K : PySem.W.Frag) (mg : Str → Option Value) (base : Heap) (k : Nat) (x : Str) (ps : List Str) (sp : Sp) : Prop where
  ex : ∃ (f : Addr) (fd : FuncData), FnG P w K mg base k f fd ps sp ∧ mg x = some (.ref f) ∧ PySem.W.keepIn K (.ref f) = true ∧ Binds K fd ps []
section
variable {X : Cx} {k j : Nat} {x : Str} {ps : List Str} {sp : Sp} {p pos : Pos} {e : Expr} {es : List Expr} {t : TA}
theorem pe_d (D : Dfn X.prog X.w X.K X.mg X.base k x ps sp) (hr : Room j X.A) (hk : k ≤ j) (hg : Gl X x) (ha : PA X (e :: es) t)
    (hdb : (x == ("__debug__" : Str)) = false := by decide) (he : starEach (e :: es) X.env = (false, eval e X.env) :: starEach es X.env := by rfl)
    (hpl : (backTo pos (starEach es X.env)).any (·.1) = false := by rfl) : PE X (.Call (.Name x p) (e :: es) [] pos) (tCall sp [] L2.E0 t) := by
  obtain ⟨f, fd, F, m, kp, b⟩ := D.ex
  exact L2.pe_call (F.mono hk) hr hg m kp b .nil L2.pass0 ha hdb he hpl
theorem pe_dg (D : DfG X.prog X.w X.K X.mg X.base k x ps sp) (hr : Room j X.A) (hd : X.A.guards = some []) (hk : k ≤ j) (hg : Gl X x) (ha : PA X (e :: es) t)
    (hdb : (x == ("__debug__" : Str)) = false := by decide) (he : starEach (e :: es) X.env = (false, eval e X.env) :: starEach es X.env := by rfl)
    (hpl : (backTo pos (starEach es X.env)).any (·.1) = false := by rfl) : PE X (.Call (.Name x p) (e :: es) [] pos) (tG sp t) := by
  obtain ⟨f, fd, F, m, kp, b⟩ := D.ex
  exact pe_g (F.weak hk) hr hd hg m kp b ha hdb he hpl
end
/-- an expression whose ways meet -/
def tMid (t : TE) : TE := fun σ H Q => ∃ Mid : V → Hp → Prop, t σ H Mid ∧ ∀ v H', Mid v H' → Q v H'
theorem pe_mid {X : Cx} {e : Expr} {t : TE} (h : PE X e t) : PE X e (tMid t) :=
  ⟨fun pins s σ H Q I ⟨M, h1, h2⟩ => thn (h.run pins s σ H M I h1) fun u s1 ⟨v, H1, I1, r, q⟩ => ⟨v, H1, I1, r, h2 v H1 q⟩⟩
/-- a test whose ways meet -/
def tMidT (t : TT) : TT := fun σ H Q => ∃ Mid : Bool → Hp → Prop, t σ H Mid ∧ ∀ b H', Mid b H' → Q b H'
/-- a def called by keywords alone -/
structure DfK (P : Program) (w : World) (K : PySem.W.Frag) (mg : Str → Option Value) (base : Heap) (k : Nat) (x : Str) (ps ks : List Str) (gV : List V → List V) (sp : Sp) : Prop where
  ex : ∃ (f : Addr) (fd : FuncData) (g : List Value → List Value → List Value), FnOk P w K mg base L2.CX0 k f fd ps sp ∧ mg x = some (.ref f) ∧ PySem.W.keepIn K (.ref f) = true ∧ KBn K fd ps 0 ks g (fun _ zs => gV zs)
theorem pe_dk {X : Cx} {k j : Nat} {x : Str} {ps ks : List Str} {sp : Sp} {gV : List V → List V} {p pos : Pos} {kws : List Keyword} {tk : TA} (D : DfK X.prog X.w X.K X.mg X.base k x ps ks gV sp) (hr : Room j X.A) (hk : k ≤ j) (hg : Gl X x)
    (hkw : PK X kws tk) (hall : (backToKw pos (keywordEach kws X.env)).all (·.1.isSome) = true := by rfl) (hks : (backToKw pos (keywordEach kws X.env)).filterMap (·.1) = ks := by rfl) (hdb : (x == ("__debug__" : Str)) = false := by decide)
    (hpl : ((backTo pos (starEach [] X.env)).any (·.1) || (backToKw pos (keywordEach kws X.env)).any (·.1.isNone)) = false := by rfl) :
    PE X (.Call (.Name x p) [] kws pos) (tKw ks.length gV sp tk) := by
  obtain ⟨f, fd, g, F, m, kp, b⟩ := D.ex
  exact pe_kw (F.mono hk) hr hg m kp b hkw hall hks hdb hpl
/-- text * n -/
theorem op_mulS {X : Cx} : OpR X (binaryOp .Mult) (fun x y H Q => ∃ z n, x = .str z ∧ y = .int n ∧ MulOk z n ∧ Q (.str (Txt.mul z n)) H) := by
  intro pins s σ H x y v u Q I rx ry h
  obtain ⟨z, n, rfl, rfl, hc, q⟩ := h
  obtain ⟨t, rfl⟩ := rx
  obtain ⟨t', rfl⟩ := ry
  exact SB.mul hc fun t2 k => ⟨.str _, H, I.tok _, ⟨_, rfl⟩, q⟩
/-- data that may be shown -/
structure Fine (d : PyData) : Prop where
  a : d.showable = true
  b : d.hasDict = false
  c : d.depth ≤ 40
  e : d.shown.length ≤ sizeLine
theorem Fine.of {d : PyData} (B : Nat) (hB : 8 ≤ B) (hB2 : B ≤ 1000) (a : d.showable = true) (b : d.hasDict = false) (c : d.depth ≤ 40) (l : d.leavesShort B = true) (w : d.weight ≤ 10000) : Fine d :=
  ⟨a, b, c, by
    have h := PyData.shown_le B hB d l
    have h2 : (B + 2) * d.weight ≤ 1002 * 10000 := Nat.mul_le_mul (by omega) w
    have h3 : sizeLine = 16777216 := sizeLine_eq
    omega⟩
theorem call_reprF {X : Cx} {k : Nat} (hr : Room k X.A) (hg : X.A.guards = some []) : CallR X (.builtin "repr") (fun xs H Q => ∃ v d, xs = [v] ∧ Dp X.K H v d ∧ Fine d ∧ Q (.str d.shown) H) :=
  fun pins s σ H xs us Q I r ⟨v, d, h1, h2, h3, q⟩ => call_reprD hr hg pins s σ H xs us Q I r ⟨v, d, h1, h2, h3.a, h3.b, h3.c, h3.e, q⟩
theorem fine_ints {a b : Int} (ha : a.natAbs < 10 ^ 20) (hb : b.natAbs < 10 ^ 20) : Fine (.list [.int a, .int b]) := by
  have len : ∀ c : Int, c.natAbs < 10 ^ 20 → (PyData.shown (.int c)).length ≤ 21 := fun c hc => by
    have h := int_text_length_le10 (a := c) (k := 20) (by decide) hc
    show (Str.ofString (toString c)).length ≤ 21
    rw [PySem.ofString_length]
    exact h
  have la := len a ha
  have lb := len b hb
  have ga : a.natAbs.log2 < 1920 := PySem.Flt.log2_lt_of (by decide) (Nat.lt_of_lt_of_le ha (by decide))
  have gb : b.natAbs.log2 < 1920 := PySem.Flt.log2_lt_of (by decide) (Nat.lt_of_lt_of_le hb (by decide))
  refine Fine.of 21 (by decide) (by decide) ?_ rfl (by simp [PyData.depth, PyData.depthAll]) ?_ (by simp only [PyData.weight, PyData.weightAll]; split <;> split <;> omega)
  · simp only [PyData.showable, PyData.showableAll, ga, gb, decide_true, Bool.and_self]
  · simp only [PyData.leavesShort, PyData.leavesShortAll, la, lb, decide_true, Bool.and_self]
/-- a promise that does not speak of what is raised, as a value -/
theorem sqL_at {K : PySem.W.Frag} {H : Hp} {a : Addr} {xs : List V} (h : H a = some (.lst xs)) : SqL K H a xs := SqL.of h
end Gk
namespace Gk
open PySem PySem.Spec PyProof.Rows L2
/-- the caller shows nothing -/
theorem caller_guards : callerA.guards = some [] := rfl
/-- the law's call, its promise told where nothing is being shown -/
theorem callG {P : Program} {w : World} {K : PySem.W.Frag} {mg mb : Str → Option Value} {k : Nat} {fa a : Addr} {fd : FuncData} {x : Str} {sp : Sp} {s1 : Shared} {vs : List Value} {ns : List Int}
    (KX : K.In s1.heap) (n1 : s1.heap.Ns mainGlobals mg) (n2 : s1.heap.Ns builtinsNs mb) (n3 : ∀ x : Str, x ≠ "__name__" → mb x = bootBuiltins x) (lim : s1.heap.NoLimit) (gen : s1.gens = #[])
    (at_ : s1.heap.get? a = some { cls := .type "list", data := .seq vs.toArray }) (iss : IntsAre vs ns) (few : ns.length ≤ sizeLine) (room : Room k callerA)
    (F : ∀ base : Heap, K.In base → base.Ns mainGlobals mg → FnG P w K mg base k fa fd [x] sp) (binds : ∀ (s : Shared) (u : Value), BindsTo s fd ⟨[u], []⟩ [(x, u)])
    (want : ∀ H : Hp, Only H → SqL K H a (ns.map V.int) → sp [.ref a] H (fun v _ => v = .bl true) L2.E0) :
    codeAny (model P w) callerA (.call (.ref fa) ⟨[.ref a], []⟩) (fun r s' => r = .ok (.ret (.bool true)) ∧ OldK s1.heap s'.heap ∧ s'.os = s1.os ∧ AllBare s'.gens) s1 := by
  have rv := L2.vals_ints iss
  have go : ∀ H : Hp, Only H → SqL K H a (ns.map V.int) → HOk P w H s1.heap → (∀ b, H b ≠ none → b = a) → (H a ≠ none → K.lookup a = none) →
      codeAny (model P w) callerA (.call (.ref fa) ⟨[.ref a], []⟩) (fun r s' => r = .ok (.ret (.bool true)) ∧ OldK s1.heap s'.heap ∧ s'.os = s1.os ∧ AllBare s'.gens) s1 := by
    intro H only there held alone apart
    have isA : ∀ {b : Addr} {u : HO}, H b = some u → b = a := fun {b u} e => alone b (fun z => by rw [e] at z; cases z)
    have free : ∀ {b : Addr} {o : Obj} {es : Array DictEntry} {ep : Nat}, s1.heap.get? b = some o → o.data = .dict es ep → H b = none := by
      intro b o es ep e d
      cases q : H b with
      | none => rfl
      | some u =>
        obtain rfl := isA q
        rw [at_] at e
        cases e
        exact Data.noConfusion (show Data.seq vs.toArray _ = Data.dict es ep from d)
    have nsB : ∀ {b : Addr} {m : Str → Option Value}, s1.heap.Ns b m → (hidT s1.heap H).Ns b m := by
      intro b m h
      obtain ⟨o, es, ep, e, d, r⟩ := h
      exact ⟨o, es, ep, hidT_get e (free e d), d, r⟩
    have KB : K.In (hidT s1.heap H) := by
      intro b o e
      refine hidT_get (KX b o e) ?_
      cases q : H b with
      | none => rfl
      | some u =>
        obtain rfl := isA q
        have z := apart (fun z => by rw [q] at z; cases z)
        rw [z] at e
        cases e
    obtain ⟨mc, c1, c2⟩ := lim
    have en : Env0 P w K mg (hidT s1.heap H) callerA [] s1 H :=
      { frames := rfl, mod := ⟨KB, nsB n1, ⟨mb, nsB n2, n3⟩, ⟨mc, nsB c1, c2⟩⟩, bs := fun b o e => of_hidT e, bsz := Nat.le_of_eq (hidT_size _ _), funs := trivial,
        frf := fun b hb => (nomatch (show b ∈ ([] : List Addr) from hb)), hok := held, bare := .of_eq gen }
    refine codeAny_mono ((F _ KB (nsB n1)).go callerA [] s1 H ⟨[.ref a], []⟩ [.ref a] [.ref a] _ room caller_guards en (binds s1 (.ref a)) (.cons rfl .nil) (want H only there)) fun r s' res => ?_
    match r, res with
    | .error _, res => exact False.elim res
    | .ok .next, res => exact False.elim res
    | .ok .brk, res => exact False.elim res
    | .ok .cont, res => exact False.elim res
    | .ok (.ret u), res =>
      obtain ⟨v, H1, os, bare, un, held1, rel, qv⟩ := res
      have qv : v = .bl true := qv
      subst qv
      obtain rfl : u = Value.bool true := rel
      refine ⟨rfl, OldK.of_keep fun b o e => ?_, os, bare⟩
      cases q : H b with
      | none => exact un.keep b o e q (fun z => (nomatch (show b ∈ ([] : List Addr) from z))) (fun z => (nomatch z))
      | some u =>
        rcases only b with z | ⟨ob, xs, z⟩
        · rw [q] at z
          cases z
        · have f1 := (held b _ z).1
          have f2 := (held1 b _ (un.frzs b ob _ z)).1
          rw [e] at f1
          cases f1
          exact f2
  cases kl : K.lookup a with
  | some o =>
    have e := KX a o kl
    rw [at_] at e
    cases e
    exact go (fun _ => none) (fun _ => .inl rfl) (.inr ⟨_, vs.toArray, _, kl, rfl, rfl, rfl, by rw [List.size_toArray, iss.length]; exact few, by simpa using rv⟩) (fun b u z => (nomatch (show (none : Option HO) = some u from z))) (fun b z => absurd rfl z) (fun z => absurd rfl z)
  | none =>
    refine go (fun b => if b = a then some (.frz { cls := .type "list", data := .seq vs.toArray } (.lst (ns.map V.int))) else none) ?_ (.inl (.inr ⟨_, if_pos rfl⟩)) ?_ ?_ (fun _ => kl)
    · intro b
      by_cases h : b = a
      · exact .inr ⟨_, _, if_pos h⟩
      · exact .inl (if_neg h)
    · intro b u z
      by_cases h : b = a
      · obtain rfl := Option.some.inj ((if_pos h).symm.trans z)
        subst h
        exact ⟨at_, by rw [List.length_map]; exact few, vs, _, rv, at_⟩
      · exact (nomatch ((if_neg h).symm.trans z))
    · intro b z
      by_cases h : b = a
      · exact h
      · exact absurd (if_neg h) z

/-- the goal behind the head -/
theorem walkG {l : PySem.W.OpenLaw} {n k : Nat} {q : Program} {loose : List Str} {XP : (Str → Option Value) → Heap → Prop} {YP : World → Heap → Prop} {d : DefRec} {K : Params → PySem.W.Frag} {sp : World → Sp} {x : Str}
    (h1 : l.most = some n) (h2 : n ≤ sizeLine) (h3 : d.params.defaults = []) (h4 : Room k callerA) (h5 : ∀ (w : World) (h : Heap), YP w h → (K w.params).In h)
    (F : ∀ (w : World) (mg : Str → Option Value) (fa : Addr) (h : Heap), (K w.params).In h → h.Ns mainGlobals mg → mg d.name = some (.ref fa) →
      ∃ fd : FuncData, (∀ (s : Shared) (u : Value), BindsTo s fd ⟨[u], []⟩ [(x, u)]) ∧ ∀ base : Heap, (K w.params).In base → base.Ns mainGlobals mg → FnG l.prog w (K w.params) mg base k fa fd [x] (sp w))
    (h6 : ∀ (w : World) (H : Hp) (a : Addr) (ns : List Int), ns.length ≤ n → Only H → SqL (K w.params) H a (ns.map V.int) → sp w [.ref a] H (fun v _ => v = .bl true) L2.E0) :
    PySem.W.WalkO q loose XP YP l.row.toRowW d [] (fun f vs => PySem.call f vs) :=
  Att.attach_call h1 h3 fun w s0 s1 mg mb fa o pm cd doc a vs ns G Y ho hd hcd hmg obj iss len gen => by
    obtain ⟨fd, hb, hF⟩ := F w mg fa _ (h5 w _ Y) G.T.g hmg
    exact callG (h5 w _ Y) G.T.g G.T.b G.T.builtins G.T.nolimit gen obj iss (Nat.le_trans len h2) h4 hF hb (fun H hO hS => h6 w H a ns len hO hS)
end Gk
namespace Gk
open PySem PySem.Spec PyProof.Rows L2
theorem mul_same (l : Addr) (its : Array Value) (n : Nat) (dd : Option Addr) (sl : Array (Option Value)) (u : Tok) :
    Meets (Builtin.«tuple.__mul__» ⟨[.ref l, .int 1 u], []⟩) (fun _ R s => s.heap.get? l = some { cls := .type "tuple", dict := dd, data := .seq its n, slots := sl } ∧ R (.ok (.ret (.ref l))) s) :=
  .of_wp fun prog w A R s h => by
    obtain ⟨hp, g, d, tk, os⟩ := s
    obtain ⟨hl, h⟩ := h
    have f1 := AutoSeq1.idx_int
    have c0 : (decide ((1 : Int) < -(2 ^ 63)) || decide ((1 : Int) ≥ 2 ^ 63)) = false := by decide
    have c1 : (its.isEmpty || (1 : Int) == 1) = true := by simp
    wp_walk using wpAny_loadPart' hl
    repeat (first
      | (refine wpAny_ite_false (decide_eq_false (by rw [c0]; exact Bool.false_ne_true)) ?_; wp_walk using wpAny_loadPart' hl)
      | (refine wpAny_ite_true (decide_eq_true (by rw [c1])) ?_; wp_walk using wpAny_loadPart' hl))
    all_goals first | exact ⟨_, rfl, h⟩ | skip
theorem mul_none (l : Addr) (its : Array Value) (n : Nat) (dd : Option Addr) (sl : Array (Option Value)) (x : Int) (u : Tok) (hx : x ≤ 0) (hx2 : -(2 ^ 63) ≤ x) (hi : its.isEmpty = false) :
    Meets (Builtin.«tuple.__mul__» ⟨[.ref l, .int x u], []⟩) (fun _ R s => s.heap.get? l = some { cls := .type "tuple", dict := dd, data := .seq its n, slots := sl } ∧
      R (.ok (.ret (Value.ref s.heap.objs.size))) { s with heap := s.heap.push { cls := Value.type "tuple", data := Data.seq #[] }, toks := s.toks }) :=
  .of_wp fun prog w A R s h => by
    obtain ⟨hp, g, d, tk, os⟩ := s
    obtain ⟨hl, h⟩ := h
    have f1 := AutoSeq1.idx_int
    have c0 : (decide (x < -(2 ^ 63)) || decide (x ≥ 2 ^ 63)) = false := by
      rw [decide_eq_false (by omega), decide_eq_false (by omega)] <;> rfl
    have c1 : (its.isEmpty || x == 1) = false := by
      rw [hi, Bool.false_or]
      exact beq_eq_false_iff_ne.mpr (by omega)
    have c2 : (decide (x ≤ 0) || its.isEmpty) = true := by
      rw [decide_eq_true hx] <;> rfl
    wp_walk using wpAny_loadPart' hl
    repeat (first
      | (refine wpAny_ite_false (decide_eq_false (by rw [c0]; exact Bool.false_ne_true)) ?_; wp_walk using wpAny_loadPart' hl)
      | (refine wpAny_ite_false (decide_eq_false (by rw [c1]; exact Bool.false_ne_true)) ?_; wp_walk using wpAny_loadPart' hl)
      | (refine wpAny_ite_true (decide_eq_true (by rw [c2])) ?_; wp_walk using wpAny_loadPart' hl))
    all_goals first | exact ⟨_, rfl, h⟩ | skip
/-- t * k, whatever object it is -/
def rRepU (K : PySem.W.Frag) : R2 := fun x y H Q => ∃ l k xs, x = .ref l ∧ y = .int k ∧ SqT K H l xs ∧ xs ≠ [] ∧ 0 ≤ k ∧ k ≤ 1000 ∧ xs.length ≤ 1000 ∧
  ∀ p H', Same H H' → SqT K H' p (List.replicate k.toNat xs).flatten → Q (.ref p) H'
section
variable {X : Cx}
theorem op_repU : OpR X (binaryOp .Mult) (rRepU X.K) := by
  intro pins s σ H x y v u Q I rx ry h
  obtain ⟨l, k, xs, rfl, rfl, hT, hne, h0, h1, hz, q⟩ := h
  by_cases h2 : 2 ≤ k
  · exact op_repT pins s σ H _ _ v u Q I rx ry ⟨l, k, xs, rfl, rfl, hT, hne, h2, h1, hz, fun p np => q p _ (same_new np) (.inl (.inl upd_same))⟩
  · cases rx
    obtain ⟨t, rfl⟩ := ry
    obtain ⟨its, r, ⟨⟨cls, dd, data, sl⟩, ho, hc, n, hd⟩, hs⟩ := I.tuple hT
    simp only at hc hd
    subst hc hd
    have many : its.length = xs.length := r.length.symm
    have full : its.toArray.isEmpty = false := by
      cases its with
      | nil => exact absurd (List.eq_nil_of_length_eq_zero many.symm) hne
      | cons a b => rfl
    by_cases h3 : k = 1
    · subst h3
      refine wpAny_binaryOp_repeat_ref (T := "tuple") (U := "int") (by decide) ⟨_, ho, rfl⟩ (fun s' => typeIs_int s' 1 t) noFill_tuple_mul F.fills_int_mul F.slot_int_rmul repeat_tuple F.slot_int_index.lookup
        (call_meets F.slot_int_rmul (typeIs_int s 1 t) F.entry_int_rmul (F.args_int_rmul_2 _ _) (int_rmul_tuple 1 t l its.toArray n dd sl)
          ⟨ho, rfl, ⟨_, ho, rfl⟩, call_meets F.slot_tuple_mul ⟨_, ho, rfl⟩ F.entry_tuple_mul (F.args_tuple_mul_2 _ _) (mul_same l its.toArray n dd sl t) ⟨ho, ?_⟩⟩)
      refine ⟨.ref l, H, I, rfl, q l H (Same.refl H) ?_⟩
      show SqT X.K H l ([xs].flatten)
      rw [List.flatten_cons, List.flatten_nil, List.append_nil]
      exact hT
    · have h4 : k = 0 := by omega
      subst h4
      refine wpAny_binaryOp_repeat_ref (T := "tuple") (U := "int") (by decide) ⟨_, ho, rfl⟩ (fun s' => typeIs_int s' 0 t) noFill_tuple_mul F.fills_int_mul F.slot_int_rmul repeat_tuple F.slot_int_index.lookup
        (call_meets F.slot_int_rmul (typeIs_int s 0 t) F.entry_int_rmul (F.args_int_rmul_2 _ _) (int_rmul_tuple 0 t l its.toArray n dd sl)
          ⟨ho, rfl, ⟨_, ho, rfl⟩, call_meets F.slot_tuple_mul ⟨_, ho, rfl⟩ F.entry_tuple_mul (F.args_tuple_mul_2 _ _) (mul_none l its.toArray n dd sl 0 t (by decide) (by decide) full) ⟨ho, ?_⟩⟩)
      have nf : H s.heap.objs.size = none := I.hok.fresh (Nat.le_refl _)
      exact ⟨.ref s.heap.objs.size, upd H s.heap.objs.size (.tup []), I.laid (t' := s.toks) (fun b ob g => Heap.get?_push_of_some _ g) (Nat.le_refl _) ⟨Nat.zero_le _, [], .nil, IsTup.new _ _⟩, rfl, q _ _ (same_new nf) (.inl (.inl upd_same))⟩
/-- t + u, whatever object it is -/
def rCatU (K : PySem.W.Frag) : R2 := fun x y H Q => ∃ a b xs ys, x = .ref a ∧ y = .ref b ∧ SqT K H a xs ∧ SqT K H b ys ∧ xs.length + ys.length ≤ sizeLine ∧ ∀ p H', Same H H' → SqT K H' p (xs ++ ys) → Q (.ref p) H'
theorem op_catU : OpR X (binaryOp .Add) (rCatU X.K) := by
  intro pins s σ H x y v u Q I rx ry h
  obtain ⟨a, b, xs, ys, rfl, rfl, ha, hb, hz, q⟩ := h
  refine op_catA pins s σ H _ _ v u Q I rx ry ⟨a, b, xs, ys, rfl, rfl, ha, hb, hz, fun e => ?_, fun _ e => ?_, fun _ _ p np => q p _ (same_new np) (.inl (.inl upd_same))⟩
  · subst e
    exact q b H (Same.refl H) hb
  · subst e
    exact q a H (Same.refl H) (by rw [List.append_nil]; exact ha)
theorem cut_whole {xs : List V} {lo hi : Option Int} (h : HT.sIx xs.length 0 lo = 0 ∧ HT.sIx xs.length xs.length hi = xs.length) : cutV xs lo hi = xs := by
  unfold cutV
  rw [h.1, h.2]
  simp
/-- t[lo:hi], whatever object it is -/
def rSlU (K : PySem.W.Frag) : V → Option Int → Option Int → Hp → VK → Prop := fun x lo hi H Q => ∃ a xs, x = .ref a ∧ SqT K H a xs ∧ ∀ p H', Same H H' → SqT K H' p (cutV xs lo hi) → Q (.ref p) H'
theorem sl_tupU : SlR X (rSlU X.K) := by
  intro pins s σ H x v vl vu lo hi sl Q I rx hs pl pu h
  obtain ⟨a, xs, rfl, hx, q⟩ := h
  exact sl_tupA pins s σ H _ v vl vu lo hi sl Q I rx hs pl pu ⟨a, xs, rfl, hx, fun e => q a H (Same.refl H) (by rw [cut_whole e]; exact hx), fun _ p np => q p _ (same_new np) (.inl (.inl upd_same))⟩
end
theorem cut_to {xs : List V} (n : Nat) : cutV xs none (some (n : Int)) = xs.take n := by
  unfold cutV
  rw [HT.sIx_none, HT.sIx_nat]
  show ((xs.drop 0).take (min n xs.length - 0)) = _
  rw [List.drop_zero, Nat.sub_zero, Nat.min_comm, List.take_eq_take_iff]
  omega
theorem cut_from {xs : List V} (n : Nat) : cutV xs (some (n : Int)) none = xs.drop n := by
  unfold cutV
  rw [HT.sIx_none, HT.sIx_nat]
  by_cases h : n ≤ xs.length
  · rw [Nat.min_eq_left h, List.take_of_length_le (by rw [List.length_drop]; exact Nat.le_refl _)]
  · rw [Nat.min_eq_right (by omega), List.drop_eq_nil_of_le (Nat.le_refl _), List.drop_eq_nil_of_le (by omega)]
    exact List.take_nil
end Gk
namespace Gk
open PySem PySem.Spec PyProof.Rows L2
/-! ### data that is easily shown and compared -/
mutual
def tame : PyData → Bool
  | .none | .bool _ => true
  | .int i => decide (i.natAbs < 10 ^ 20)
  | .str x => x.cps.all (· < 0x110000)
  | .list xs | .tuple xs => tameAll xs
  | .dict _ => false
def tameAll : List PyData → Bool
  | [] => true
  | x :: xs => tame x && tameAll xs
end
mutual
def cost : PyData → Nat
  | .none | .bool _ | .int _ => 70
  | .str x => x.cps.size + 1
  | .list xs | .tuple xs => costAll xs
  | .dict _ => 0
def costAll : List PyData → Nat
  | [] => 1
  | x :: xs => cost x + 1 + costAll xs
end
theorem int_len20 {c : Int} (hc : c.natAbs < 10 ^ 20) : (PyData.shown (.int c)).length ≤ 21 := by
  have h := int_text_length_le10 (a := c) (k := 20) (by decide) hc
  show (Str.ofString (toString c)).length ≤ 21
  rw [PySem.ofString_length]
  exact h
theorem int_log20 {c : Int} (hc : c.natAbs < 10 ^ 20) : c.natAbs.log2 < 68 := PySem.Flt.log2_lt_of (by decide) (Nat.lt_of_lt_of_le hc (by decide))
mutual
theorem tame_showable : ∀ d : PyData, tame d = true → d.showable = true
  | .none, _ => rfl
  | .bool _, _ => rfl
  | .int i, h => by
    have h1 := int_log20 (of_decide_eq_true (by simpa only [tame] using h))
    simp only [PyData.showable]
    exact decide_eq_true (by omega)
  | .str _, _ => rfl
  | .list xs, h => by simpa only [PyData.showable] using tame_showableAll xs (by simpa only [tame] using h)
  | .tuple xs, h => by simpa only [PyData.showable] using tame_showableAll xs (by simpa only [tame] using h)
  | .dict _, h => by simp [tame] at h
theorem tame_showableAll : ∀ ds : List PyData, tameAll ds = true → PyData.showableAll ds = true
  | [], _ => rfl
  | x :: xs, h => by
    simp only [tameAll, Bool.and_eq_true] at h
    simp only [PyData.showableAll, tame_showable x h.1, tame_showableAll xs h.2, Bool.and_self]
end
mutual
theorem tame_nodict : ∀ d : PyData, tame d = true → d.hasDict = false
  | .none, _ => rfl
  | .bool _, _ => rfl
  | .int _, _ => rfl
  | .str _, _ => rfl
  | .list xs, h => by simpa only [PyData.hasDict] using tame_nodictAll xs (by simpa only [tame] using h)
  | .tuple xs, h => by simpa only [PyData.hasDict] using tame_nodictAll xs (by simpa only [tame] using h)
  | .dict _, h => by simp [tame] at h
theorem tame_nodictAll : ∀ ds : List PyData, tameAll ds = true → PyData.hasDictAll ds = false
  | [], _ => rfl
  | x :: xs, h => by
    simp only [tameAll, Bool.and_eq_true] at h
    simp only [PyData.hasDictAll, tame_nodict x h.1, tame_nodictAll xs h.2, Bool.or_self]
end
mutual
theorem tame_short : ∀ d : PyData, tame d = true → d.leavesShort 21 = true
  | .none, _ => rfl
  | .bool _, _ => rfl
  | .int i, h => by
    have h1 := int_len20 (of_decide_eq_true (by simpa only [tame] using h))
    simp only [PyData.leavesShort]
    exact decide_eq_true h1
  | .str x, h => by
    have h1 : x.cps.all (· < 0x110000) = true := by simpa only [tame] using h
    simp only [PyData.leavesShort, List.all_eq_true, decide_eq_true_eq]
    intro c hc
    rw [Array.all_eq_true_iff_forall_mem] at h1
    have h2 := h1 c (Array.mem_toList_iff.mp hc)
    have h3 : c < 0x110000 := by simpa using h2
    exact Nat.lt_of_lt_of_le h3 (by decide)
  | .list xs, h => by simpa only [PyData.leavesShort] using tame_shortAll xs (by simpa only [tame] using h)
  | .tuple xs, h => by simpa only [PyData.leavesShort] using tame_shortAll xs (by simpa only [tame] using h)
  | .dict _, h => by simp [tame] at h
theorem tame_shortAll : ∀ ds : List PyData, tameAll ds = true → PyData.leavesShortAll 21 ds = true
  | [], _ => rfl
  | x :: xs, h => by
    simp only [tameAll, Bool.and_eq_true] at h
    simp only [PyData.leavesShortAll, tame_short x h.1, tame_shortAll xs h.2, Bool.and_self]
end
mutual
theorem tame_weight : ∀ d : PyData, tame d = true → d.weight ≤ cost d
  | .none, _ => Nat.zero_le _
  | .bool _, _ => Nat.zero_le _
  | .int i, h => by
    have h1 := int_log20 (of_decide_eq_true (by simpa only [tame] using h))
    simp only [PyData.weight, cost]
    split <;> omega
  | .str x, h => by
    simp only [PyData.weight, cost]
    omega
  | .list xs, h => by simpa only [PyData.weight, cost] using tame_weightAll xs (by simpa only [tame] using h)
  | .tuple xs, h => by simpa only [PyData.weight, cost] using tame_weightAll xs (by simpa only [tame] using h)
  | .dict _, h => by simp [tame] at h
theorem tame_weightAll : ∀ ds : List PyData, tameAll ds = true → PyData.weightAll ds ≤ costAll ds
  | [], _ => Nat.zero_le _
  | x :: xs, h => by
    simp only [tameAll, Bool.and_eq_true] at h
    have h1 := tame_weight x h.1
    have h2 := tame_weightAll xs h.2
    simp only [PyData.weightAll, costAll]
    omega
end
mutual
theorem tame_lay : ∀ d : PyData, tame d = true → d.canLay0 = true
  | .none, _ => rfl
  | .bool _, _ => rfl
  | .int _, _ => rfl
  | .str x, h => by
    have h1 : x.cps.all (· < 0x110000) = true := by simpa only [tame] using h
    simpa only [PyData.canLay0, PyData.strOk] using h1
  | .list xs, h => by simpa only [PyData.canLay0] using tame_layAll xs (by simpa only [tame] using h)
  | .tuple xs, h => by simpa only [PyData.canLay0] using tame_layAll xs (by simpa only [tame] using h)
  | .dict _, h => by simp [tame] at h
theorem tame_layAll : ∀ ds : List PyData, tameAll ds = true → PyData.canLayAll0 ds = true
  | [], _ => rfl
  | x :: xs, h => by
    simp only [tameAll, Bool.and_eq_true] at h
    simp only [PyData.canLayAll0, tame_lay x h.1, tame_layAll xs h.2, Bool.and_self]
end
theorem Fine.tame {d : PyData} (h : Gk.tame d = true) (hd : d.depth ≤ 40) (hc : cost d ≤ 500000) : Fine d :=
  ⟨tame_showable d h, tame_nodict d h, hd, by
    have h1 := PyData.shown_le 21 (by decide) d (tame_short d h)
    have h2 := tame_weight d h
    have h3 : sizeLine = 16777216 := sizeLine_eq
    omega⟩
theorem tame_shaped {d : PyData} (h : tame d = true) (hd : d.depth ≤ 40) : SeqAt.shaped d = true := by
  unfold SeqAt.shaped
  rw [tame_lay d h, Bool.true_and]
  exact decide_eq_true (by omega)

/-! ### data of tuples stays while other things change -/
def Keep (K : PySem.W.Frag) (H H' : Hp) : Prop := ∀ a xs, SqT K H a xs → SqT K H' a xs
theorem Keep.refl {K : PySem.W.Frag} {H : Hp} : Keep K H H := fun _ _ h => h
theorem Keep.trans {K : PySem.W.Frag} {H H1 H2 : Hp} (a : Keep K H H1) (b : Keep K H1 H2) : Keep K H H2 := fun x xs h => b x xs (a x xs h)
theorem Same.keep {K : PySem.W.Frag} {H H' : Hp} (e : Same H H') : Keep K H H' := fun _ _ h => Same.seqT e h
theorem But.keep {K : PySem.W.Frag} {H H' : Hp} {b : Addr} {m : Nat} (e : But b H H') (hb : Box m H b) : Keep K H H' := by
  intro a xs h
  obtain ⟨x, y, z, g, _⟩ := hb
  rcases h with (h | ⟨o, h⟩) | h
  · exact .inl (.inl (e _ _ (ne_of h g (fun q => HO.noConfusion q)) h))
  · exact .inl (.inr ⟨o, e _ _ (ne_of h g (fun q => HO.noConfusion q)) h⟩)
  · exact .inr h
/-- all but the box, read: a list or a tuple that is not the box -/
theorem But.keepL {K : PySem.W.Frag} {H H' : Hp} {b a : Addr} {xs : List V} (e : But b H H') (n : a ≠ b) (h : SqL K H a xs) : SqL K H' a xs := e.seqL n h
mutual
def tups : PyData → Bool
  | .none | .bool _ | .int _ | .str _ => true
  | .tuple xs => tupsAll xs
  | .list _ | .dict _ => false
def tupsAll : List PyData → Bool
  | [] => true
  | x :: xs => tups x && tupsAll xs
end
mutual
theorem Dp.keep {K : PySem.W.Frag} {H H' : Hp} (k : Keep K H H') : ∀ (d : PyData) (v : V), tups d = true → Dp K H v d → Dp K H' v d
  | .none, _, _, h => by cases h; exact .non
  | .bool _, _, _, h => by cases h; exact .bl _
  | .int _, _, _, h => by cases h; exact .int _
  | .str _, _, _, h => by cases h; exact .str _
  | .tuple ds, _, t, h => by
    cases h with
    | tup h1 h2 => exact .tup (k _ _ h1) (DpAll.keep k ds _ (by simpa only [tups] using t) h2)
  | .list _, _, t, _ => by simp [tups] at t
  | .dict _, _, t, _ => by simp [tups] at t
theorem DpAll.keep {K : PySem.W.Frag} {H H' : Hp} (k : Keep K H H') : ∀ (ds : List PyData) (vs : List V), tupsAll ds = true → DpAll K H vs ds → DpAll K H' vs ds
  | [], _, _, h => by cases h; exact .nil
  | d :: ds, _, t, h => by
    simp only [tupsAll, Bool.and_eq_true] at t
    cases h with
    | cons h1 h2 => exact .cons (Dp.keep k d _ t.1 h1) (DpAll.keep k ds _ t.2 h2)
end
section
variable {K : PySem.W.Frag} {H : Hp}
theorem DpAll.len : ∀ {vs : List V} {ds : List PyData}, DpAll K H vs ds → vs.length = ds.length
  | _, _, .nil => rfl
  | _, _, .cons _ t => by rw [List.length_cons, List.length_cons, DpAll.len t]
theorem DpAll.take : ∀ {vs : List V} {ds : List PyData} (n : Nat), DpAll K H vs ds → DpAll K H (vs.take n) (ds.take n)
  | _, _, 0, _ => .nil
  | _, _, _ + 1, .nil => .nil
  | _, _, n + 1, .cons h t => .cons h (DpAll.take n t)
theorem DpAll.drop : ∀ {vs : List V} {ds : List PyData} (n : Nat), DpAll K H vs ds → DpAll K H (vs.drop n) (ds.drop n)
  | _, _, 0, h => h
  | _, _, _ + 1, .nil => .nil
  | _, _, n + 1, .cons _ t => DpAll.drop n t
theorem DpAll.app : ∀ {vs us : List V} {ds es : List PyData}, DpAll K H vs ds → DpAll K H us es → DpAll K H (vs ++ us) (ds ++ es)
  | _, _, _, _, .nil, h => h
  | _, _, _, _, .cons h t, h2 => .cons h (DpAll.app t h2)
theorem DpAll.rep {vs : List V} {ds : List PyData} (h : DpAll K H vs ds) : ∀ n : Nat, DpAll K H (List.replicate n vs).flatten (List.replicate n ds).flatten
  | 0 => .nil
  | n + 1 => by
    rw [List.replicate_succ, List.replicate_succ, List.flatten_cons, List.flatten_cons]
    exact DpAll.app h (DpAll.rep h n)
theorem DpAll.at : ∀ {vs : List V} {ds : List PyData} {i : Nat} {v : V} {d : PyData}, DpAll K H vs ds → vs[i]? = some v → ds[i]? = some d → Dp K H v d
  | _, _, _, _, _, .nil, h, _ => by simp at h
  | _, _, 0, _, _, .cons h _, e1, e2 => by
    obtain rfl := Option.some.inj e1
    obtain rfl := Option.some.inj e2
    exact h
  | _, _, i + 1, _, _, .cons _ t, e1, e2 => DpAll.at (i := i) t (by simpa using e1) (by simpa using e2)
theorem DpAll.ints : ∀ l : List Int, DpAll K H (l.map V.int) (l.map PyData.int)
  | [] => .nil
  | i :: l => .cons (.int i) (DpAll.ints l)
end
end Gk
namespace Pf
open PySem PySem.Spec PyProof.Rows L2 Gk
def topS (i : Nat) : Stmt := PySem.Challenge.pw_pastenough_k76_whole_traces_turned_and_r.main.body.getD i (.Pass ⟨0, 0, 0, 0⟩)
abbrev sTake : Stmt := topS 29
abbrev sOf : Stmt := topS 30
abbrev sBox : Stmt := topS 28
theorem scOf : FnScope ["_law_box_here", "_law_some"] ["_law_box_here", "_law_some"] (defScope sOf) := ⟨rfl, rfl, rfl, by decide +kernel, rfl, by decide +kernel, by decide +kernel⟩
theorem scBox : FnScope ["_law_script", "_law_k", "_law_digits", "_law_own"] ["_law_script", "_law_k"] (defScope sBox) := ⟨rfl, rfl, rfl, by decide +kernel, rfl, by decide +kernel, by decide +kernel⟩
theorem scTake : FnScope ["_law_box_here", "_law_many", "_law_digit", "_law_drawn"] ["_law_box_here", "_law_many"] (defScope sTake) := ⟨rfl, rfl, rfl, by decide +kernel, rfl, by decide +kernel, by decide +kernel⟩
def spTake : Sp := fun vs H Q _ => ∃ (b : Addr) (n : Int) (m : Nat), vs = [.ref b, .int n] ∧ 0 < n ∧ n < 1073741824 ∧ Box m H b ∧ m < 1000000000 ∧
  ∀ (d : Int) (H' : Hp), 0 ≤ d → d < n → But b H H' → Box (m + 1) H' b → (∀ p, p ≠ b → H' p = H p) → Q (.int d) H'

section
variable {P : Program} {w : World} {K : PySem.W.Frag} {mg : Str → Option Value} {base : Heap}
theorem ok_take {f : Addr} {fd : FuncData} {k : Nat} (F : L2.Fun K "_law_take" "_law_take" sTake f fd) : FnOk P w K mg base L2.CX0 (k + 1) f fd ["_law_box_here", "_law_many"] spTake := by
  refine F.ok scTake (fun vs H Q E h => ?_) (fun cdv A outer s H vs Q E hr h => ?_)
  · obtain ⟨b, n, m, rfl, _⟩ := h
    rfl
  · obtain ⟨b, n, m, rfl, n0, n1, ⟨x, y, z, hb, z0, z1⟩, hm, q⟩ := h
    refine ⟨_, pss_cons (ps_if (pt_cmpR op_gt (pe_ix ix_list (pv 0) pe_int (fun _ _ => rfl)) pe_int (nomark _))
        (pss_cons (ps_set (i := 2) scTake.nd rfl (.inl rfl) (pe_op op_mod (pe_ix ix_list (pv 0) pe_int (fun _ _ => rfl)) (pv 1)))
        (pss_cons (ps_asg (pe_op op_fdiv (pe_ix ix_list (pv 0) pe_int (fun _ _ => rfl)) (pv 1)) (pg_sub (pv 0) pe_int set_list))
        (pss_one (ps_ret (pv 2))))) pss_nil)
      (pss_cons (ps_asg (pe_op op_add (pe_ix ix_list (pv 0) pe_int (fun _ _ => rfl)) pe_int) (pg_sub (pv 0) pe_int set_list))
      (pss_cons (ps_set (i := 3) scTake.nd rfl (.inl rfl) (pe_op op_mod (pe_op op_mul (pe_op op_add (pe_op op_add (pe_ix ix_list (pv 0) pe_int (fun _ _ => rfl))
          (pe_op op_mul (pe_op op_mul pe_int (pe_ix ix_list (pv 0) pe_int (fun _ _ => rfl))) (pe_ix ix_list (pv 0) pe_int (fun _ _ => rfl)))) pe_int) pe_int) pe_int))
      (pss_cons (ps_set (i := 3) scTake.nd rfl (.inl rfl) (pe_op op_mod (pe_op op_mul (pv 3) (pe_op op_add (pe_op op_mod (pv 3) pe_int) (pe_op op_mul pe_int (pe_ix ix_list (pv 0) pe_int (fun _ _ => rfl))))) pe_int))
      (pss_one (ps_ret (pe_op op_mod (pe_op op_add (pe_op op_fdiv (pv 3) pe_int) (pe_op op_fdiv (pv 3) pe_int)) (pv 1))))))), ?_⟩
    refine ⟨.ref b, rfl, b, _, 0, .int x, rfl, rfl, SqL.of hb, rfl, x, 0, rfl, rfl, _, rfl, ite2 (fun e => ?_) (fun e => ?_)⟩
    · refine ⟨.ref b, rfl, b, _, 0, .int x, rfl, rfl, SqL.of hb, rfl, .int n, rfl, x, n, rfl, rfl, n0, ?_⟩
      refine ⟨.ref b, rfl, b, _, 0, .int x, rfl, rfl, SqL.of hb, rfl, .int n, rfl, x, n, rfl, rfl, ⟨n0, n1⟩, ?_⟩
      refine ⟨.ref b, rfl, b, _, _, 0, rfl, rfl, hb, rfl, ?_⟩
      refine ⟨.int (x % n), rfl, q _ _ (Int.emod_nonneg _ (by omega)) (Int.emod_lt_of_pos _ n0) But.set ⟨_, _, _, upd_same, z0, by omega⟩ fun p hp => upd_ne hp⟩
    · have hz : (z + 1 : Int) < 2 ^ 64 := by omega
      refine ⟨.ref b, rfl, b, _, 2, .int z, rfl, rfl, SqL.of hb, rfl, z, 1, rfl, rfl, ?_⟩
      refine ⟨.ref b, rfl, b, _, _, 2, rfl, rfl, hb, rfl, ?_⟩
      have h1 : upd H b (.lst [.int x, .int y, .int (z + 1)]) b = some (.lst [.int x, .int y, .int (z + 1)]) := upd_same
      refine ⟨.ref b, rfl, b, _, 1, .int y, rfl, rfl, SqL.of h1, rfl, .ref b, rfl, b, _, 2, .int (z + 1), rfl, rfl, SqL.of h1, rfl, _, _, rfl, rfl, .inl ⟨by decide, by decide⟩,
        .ref b, rfl, b, _, 2, .int (z + 1), rfl, rfl, SqL.of h1, rfl, _, _, rfl, rfl, .inr ⟨by omega, hz⟩, _, _, rfl, rfl, _, _, rfl, rfl, _, _, rfl, rfl, .inr ⟨by decide, by decide⟩, _, _, rfl, rfl, by show (0 : Int) < 2305843009213693921; decide, ?_⟩
      refine ⟨_, rfl, _, rfl, _, _, rfl, rfl, by show (0 : Int) < 1000033; decide, .ref b, rfl, b, _, 2, .int (z + 1), rfl, rfl, SqL.of h1, rfl, _, _, rfl, rfl, .inl ⟨by decide, by decide⟩, _, _, rfl, rfl, _, _, rfl, rfl,
        .inl ⟨Int.lt_of_lt_of_le (by decide) (Int.emod_nonneg _ (by decide)), Int.lt_trans (Int.emod_lt_of_pos _ (by decide)) (by decide)⟩, _, _, rfl, rfl, by show (0 : Int) < 2305843009213693907; decide, ?_⟩
      refine ⟨_, rfl, _, _, rfl, rfl, ⟨by decide, by decide⟩, _, rfl, _, _, rfl, rfl, ⟨by decide, by decide⟩, _, _, rfl, rfl, .int n, rfl, _, n, rfl, rfl, n0, ?_⟩
      exact q _ _ (Int.emod_nonneg _ (by omega)) (Int.emod_lt_of_pos _ n0) But.set ⟨_, _, _, h1, by omega, by omega⟩ fun p hp => upd_ne hp
def spOf (K : PySem.W.Frag) : Sp := fun vs H Q _ => ∃ (b a : Addr) (xs : List V) (m : Nat), vs = [.ref b, .ref a] ∧ SqL K H a xs ∧ a ≠ b ∧ 0 < xs.length ∧ xs.length ≤ 1000 ∧ Box m H b ∧ m < 1000000000 ∧
  ∀ (i : Nat) (v : V) (H' : Hp), xs[i]? = some v → But b H H' → Box (m + 1) H' b → (∀ p, p ≠ b → H' p = H p) → Q v H'
theorem ok_of {f : Addr} {fd : FuncData} {k : Nat} (D : Dfn P w K mg base k "_law_take" ["_law_box_here", "_law_many"] spTake) (ml : mg "len" = none)
    (F : L2.Fun K "_law_of" "_law_of" sOf f fd) : FnOk P w K mg base L2.CX0 (k + 1) f fd ["_law_box_here", "_law_some"] (spOf K) := by
  refine F.ok scOf (fun vs H Q E h => ?_) (fun cdv A outer s H vs Q E hr h => ?_)
  · obtain ⟨b, a, xs, m, rfl, _⟩ := h
    rfl
  · obtain ⟨b, a, xs, m, rfl, hS, hne, hl, hl2, hb, hm, q⟩ := h
    refine ⟨_, pss_one (ps_ret (pe_ix ix_list (pv 1) (pe_d D hr (Nat.le_refl _) (by rfl) (pa_cons (pv 0) (pa_cons (pe_callB call_len_seq (by rfl) ml PySem.boot_len (pa_cons (pv 1) pa_nil)) pa_nil))) (fun _ _ => rfl))), ?_⟩
    refine ⟨.ref a, rfl, .ref b, rfl, .ref a, rfl, a, xs, rfl, .inl hS, b, _, m, rfl, by omega, by omega, hb, hm, fun d H' d0 d1 bt bx same => ?_⟩
    have hi : d.toNat < xs.length := by omega
    have g : xs[d.toNat]? = some xs[d.toNat] := List.getElem?_eq_getElem hi
    have ga : atI xs d = some xs[d.toNat] := by
      have := atI_nat g
      rwa [Int.toNat_of_nonneg d0] at this
    exact ⟨a, xs, d, _, rfl, rfl, bt.seqL hne hS, ga, q _ _ H' g bt bx same⟩
def spBox (K : PySem.W.Frag) : Sp := fun vs H Q _ => ∃ (a : Addr) (ns : List Int) (k : Int), vs = [.ref a, .int k] ∧ SqL K H a (ns.map V.int) ∧ ns.length ≤ 63 ∧ 0 ≤ k ∧ k ≤ 1000 ∧
  ∀ p x y, H p = none → Q (.ref p) (upd H p (.lst [.int x, .int y, .int 0]))
theorem flag_small (c : Bool) : -(2 ^ 64) < (if c = true then (1 : Int) else 0) ∧ (if c = true then (1 : Int) else 0) < 2 ^ 64 := by cases c <;> decide
theorem bits60 : CBigPow 10 60 := ⟨by decide, by decide +kernel⟩
theorem bits300 : CBigPow (10 ^ (60 : Int).toNat) 5 := ⟨by decide, by decide +kernel⟩
theorem ok_box {f : Addr} {fd : FuncData} (ml : mg "len" = none) (ma : mg "abs" = none) (mi : mg "int" = none)
    (F : L2.Fun K "_law_box" "_law_box" sBox f fd) : FnOk P w K mg base L2.CX0 1 f fd ["_law_script", "_law_k"] (spBox K) := by
  refine F.ok scBox (fun vs H Q E h => ?_) (fun cdv A outer s H vs Q E hr h => ?_)
  · obtain ⟨a, ns, k, rfl, _⟩ := h
    rfl
  · obtain ⟨a, ns, k, rfl, hS, hl, k0, k1, q⟩ := h
    refine ⟨_, C8.pss_cut (ps_set (i := 2) scBox.nd rfl (.inl rfl) (pe_ifExp (pt_cmpR op_lt (pv 1) (pe_callB call_len_seq (by rfl) ml PySem.boot_len (pa_cons (pv 0) pa_nil)) (nomark _))
        (pe_ix ix_list (pv 0) (pv 1) (fun _ _ => rfl)) (pe_op op_add (pe_op op_mul pe_int (pv 1)) pe_int)))
      (pss_cons (ps_set (i := 3) scBox.nd rfl (.inl rfl) (pe_op op_mul (pe_op op_mod (pe_callB call_abs (by rfl) ma (by decide +kernel) (pa_cons (pv 2) pa_nil)) (pe_op op_bigpow (pe_op op_bigpow pe_int pe_int) pe_int))
          (pe_callTy call_int1 (by rfl) mi (by decide +kernel) (pa_cons (pe_cmpR op_ge (pe_callB call_abs (by rfl) ma (by decide +kernel) (pa_cons (pv 2) pa_nil)) (pe_op op_bigpow pe_int pe_int) (nomark _)) pa_nil))))
      (pss_one (ps_ret (pe_lst (pa_cons (pv 3) (pa_cons (pe_op op_mod (pe_op op_add (pe_op op_add (pe_op op_mul (pe_op op_mod (pv 2) pe_int) pe_int) (pe_op op_mul (pe_op op_mul pe_int (pv 1)) (pv 1))) pe_int) pe_int) (pa_cons pe_int pa_nil))))))), ?_⟩
    refine ⟨fun σ H' => H' = H ∧ ∃ d : Int, σ = [some (.ref a), some (.int k), some (.int d), none], ?_, fun σ' H' hM => ?_⟩
    · refine ⟨.int k, rfl, .ref a, rfl, a, _, rfl, .inl hS, _, _, rfl, rfl, _, rfl, ite2 (fun e => ?_) (fun e => ?_)⟩
      · have hk : k < (ns.map V.int).length := of_decide_eq_true e
        rw [List.length_map] at hk
        have g : (ns.map V.int)[k.toNat]? = some (.int ns[k.toNat]) := by
          rw [List.getElem?_map, List.getElem?_eq_getElem (by omega)]; rfl
        have ga := atI_nat g
        rw [Int.toNat_of_nonneg k0] at ga
        exact ⟨.ref a, rfl, .int k, rfl, a, _, k, _, rfl, rfl, hS, ga, rfl, _, rfl⟩
      · exact ⟨.int k, rfl, _, _, rfl, rfl, .inl ⟨by decide, by decide⟩, _, _, rfl, rfl, rfl, _, rfl⟩
    · obtain ⟨rfl, d, rfl⟩ := hM
      refine ⟨.int d, rfl, d, rfl, _, _, rfl, rfl, bits60, _, _, rfl, rfl, bits300, _, _, rfl, rfl, by show (0 : Int) < (10 ^ (60 : Int).toNat) ^ (5 : Int).toNat; decide +kernel, ?_⟩
      refine ⟨.int d, rfl, d, rfl, _, _, rfl, rfl, ⟨by decide, by decide +kernel⟩, _, _, rfl, rfl, .inr ⟨_, rfl, _, _, rfl, rfl, .inr ?_, ?_⟩⟩
      · exact flag_small _
      · refine ⟨_, rfl, .int d, rfl, _, _, rfl, rfl, by show (0 : Int) < 2305843009213693951; decide, _, _, rfl, rfl, .inr ⟨by decide, by decide⟩, .int k, rfl, _, _, rfl, rfl, .inl ⟨by decide, by decide⟩, .int k, rfl, _, _, rfl, rfl, .inr ⟨by omega, by omega⟩,
          _, _, rfl, rfl, _, _, rfl, rfl, _, _, rfl, rfl, by show (0 : Int) < 2305843009213693921; decide, by show 3 ≤ sizeLine; decide, fun p hp => q p _ _ hp⟩
end
end Pf
namespace Pf
open PySem PySem.Spec PyProof.Rows L2 Gk
abbrev sRow : Stmt := topS 31
abbrev nRow : List Str := ["_law_box_here", "_law_most", "_law_size", "_law_kind", "_law_piece", "_law_found", "_law_is_kept", "_law_turn"]
theorem scRow : FnScope nRow ["_law_box_here", "_law_most"] (defScope sRow) := ⟨rfl, rfl, rfl, by decide +kernel, rfl, by decide +kernel, by decide +kernel⟩
/-- outcomes -/
def Bits (l : List Int) : Prop := ∀ o ∈ l, o = 0 ∨ o = 1
theorem Bits.nil : Bits [] := fun _ h => (nomatch h)
theorem Bits.snoc {l : List Int} {o : Int} (h : Bits l) (h0 : 0 ≤ o) (h1 : o < 2) : Bits (l ++ [o]) := fun x hx => by
  rcases List.mem_append.mp hx with g | g
  · exact h x g
  · rw [List.mem_singleton.mp g]
    omega
theorem Bits.rep {l : List Int} (h : Bits l) (n : Nat) : Bits (List.replicate n l).flatten := fun x hx => by
  obtain ⟨m, hm, hx⟩ := List.mem_flatten.mp hx
  rw [(List.mem_replicate.mp hm).2] at hx
  exact h x hx
theorem Bits.take {l : List Int} (h : Bits l) (n : Nat) : Bits (l.take n) := fun x hx => h x (List.mem_of_mem_take hx)
theorem rep_map (n : Nat) (l : List Int) : (List.replicate n (l.map V.int)).flatten = ((List.replicate n l).flatten).map V.int := by
  induction n with
  | zero => rfl
  | succ n ih => rw [List.replicate_succ, List.replicate_succ, List.flatten_cons, List.flatten_cons, List.map_append, ih]
theorem rep_len (n : Nat) (l : List Int) : ((List.replicate n l).flatten).length = n * l.length := by
  induction n with
  | zero => simp
  | succ n ih => rw [List.replicate_succ, List.flatten_cons, List.length_append, ih, Nat.succ_mul, Nat.add_comm]
theorem last_some {l : List Int} (h : 0 < l.length) : ∃ o, o ∈ l ∧ atI (l.map V.int) (-1) = some (V.int o) := by
  have e : l ≠ [] := fun z => by rw [z] at h; exact absurd h (Nat.lt_irrefl 0)
  refine ⟨l.getLast e, List.getLast_mem e, ?_⟩
  have g : l.map V.int = (l.dropLast.map V.int) ++ [V.int (l.getLast e)] := by
    rw [← List.map_singleton, ← List.map_append, List.dropLast_concat_getLast]
  rw [g]
  exact atI_last _ _
theorem but_local {b D : Addr} {H H1 H2 : Hp} (nD : H D = none) (h : But b H H1) (g : ∀ a o, a ≠ b → a ≠ D → H1 a = some o → H2 a = some o) : But b H H2 := fun a o n e => g a o n (fun z => by rw [z, nD] at e; cases e) (h a o n e)
section
variable {P : Program} {w : World} {K : PySem.W.Frag} {mg : Str → Option Value} {base : Heap}
def spRow (K : PySem.W.Frag) : Sp := fun vs H Q _ => ∃ (b : Addr) (most : Int) (m : Nat), vs = [.ref b, .int most] ∧ 1 ≤ most ∧ most ≤ 64 ∧ Box m H b ∧ m ≤ 1000000 ∧
  ∀ H' p l, But b H H' → Box (m + 150) H' b → SqT K H' p (l.map V.int) → 1 ≤ l.length → (l.length : Int) ≤ most → Bits l → Q (.ref p) H'
theorem ok_row {f : Addr} {fd : FuncData} (DT : Dfn P w K mg base 1 "_law_take" ["_law_box_here", "_law_many"] spTake) (mr : mg "range" = none) (mn : mg "min" = none) (mt : mg "tuple" = none) (ml : mg "len" = none)
    (F : L2.Fun K "_law_row" "_law_row" sRow f fd) : FnOk P w K mg base L2.CX0 2 f fd ["_law_box_here", "_law_most"] (spRow K) := by
  refine F.ok scRow (fun vs H Q E h => ?_) (fun cdv A outer s H vs Q E hr h => ?_)
  · obtain ⟨b, most, m, rfl, _⟩ := h
    rfl
  · obtain ⟨b, most, m, rfl, m1, m2, hb, hm, q⟩ := h
    refine ⟨_, C8.pss_cut (ps_par (i := 2) (j := 3) (by rfl) scRow.nd rfl rfl (by decide) rfl rfl (pa_cons (pe_op op_add pe_int (pe_d DT hr (by decide) (by rfl) (pa_cons (pv 0) (pa_cons (pv 1) pa_nil)))) (pa_cons (pe_d DT hr (by decide) (by rfl) (pa_cons (pv 0) (pa_cons pe_int pa_nil))) pa_nil)) (by rfl))
      (pss_cons (ps_if (pt_cmpR op_eq (pv 3) pe_int (nomark _))
        (pss_one (ps_ret (pe_op op_catU (pe_op op_repU (pe_tup (pa_cons pe_int pa_nil)) (pe_op op_sub (pv 2) pe_int)) (pe_tup (pa_cons pe_int pa_nil))))) pss_nil)
      (pss_cons (ps_if (pt_cmpR op_eq (pv 3) pe_int (nomark _))
        (pss_cons (ps_setLc (i := 4) (own := [("_law_turn", 7)]) (g := gName 7) (by rfl) scRow.nd rfl rfl (sw_true rfl rfl rfl (by decide +kernel)) (pi_range1 rfl mr (pa_cons (pe_op op_add pe_int (pe_d DT hr (by decide) (by rfl) (pa_cons (pv 0) (pa_cons (pe_callB (call_min2 rfl) (by rfl) mn (by decide +kernel) (pa_cons (pv 2) (pa_cons pe_int pa_nil))) pa_nil)))) pa_nil))
            (blkOk_by (N := nRow) (sc := defScope sRow) (by decide +kernel)) (fun _ _ _ _ _ => pg_name (i := 7) scRow.nd rfl (.inl rfl)) (fun _ _ _ _ _ => pts_nil)
            (fun _ _ _ _ _ => pe_d DT hr (by decide) (by rfl) (pa_cons (pv 0) (pa_cons pe_int pa_nil))))
        (pss_one (ps_ret (pe_callTy call_tuple_of (by rfl) mt (by decide +kernel) (pa_cons (pe_slice sl_list (pe_op op_rep (pv 4) (pv 2)) po_none (po_some (pv 2))) pa_nil))))) pss_nil)
      (pss_cons (ps_set (i := 5) scRow.nd rfl (.inl rfl) (pe_lst (pa_cons (pe_d DT hr (by decide) (by rfl) (pa_cons (pv 0) (pa_cons pe_int pa_nil))) pa_nil)))
      (pss_cons (ps_while PassesOwn.never (pt_cmpR op_lt (pe_callB call_len_seq (by rfl) ml PySem.boot_len (pa_cons (pv 5) pa_nil)) (pv 2) (nomark _))
        (pss_cons (ps_set (i := 6) scRow.nd rfl (.inl rfl) (pe_mid (pe_and (pe_cmpR op_eq (pv 3) pe_int (nomark _)) (pe_one (pe_cmpR op_gt (pe_d DT hr (by decide) (by rfl) (pa_cons (pv 0) (pa_cons pe_int pa_nil))) pe_int (nomark _))))))
        (pss_one (ps_expr (pe_bm PySem.F.plainAttrs_list PySem.F.slot_list_append PySem.F.type_list_append mt_append (pv 5) (pa_cons (pe_mid (pe_ifExp (pt_val (pv 6)) (pe_ix ix_list (pv 5) (pe_un un_neg pe_int) (fun _ _ => rfl))
            (pe_d DT hr (by decide) (by rfl) (pa_cons (pv 0) (pa_cons pe_int pa_nil))))) pa_nil))))))
      (pss_one (ps_ret (pe_callTy call_tuple_of (by rfl) mt (by decide +kernel) (pa_cons (pv 5) pa_nil)))))))), ?_⟩
    refine ⟨fun σ H2 => ∃ z k : Int, σ = [some (.ref b), some (.int most), some (.int z), some (.int k), none, none, none, none] ∧ 1 ≤ z ∧ z ≤ most ∧ 0 ≤ k ∧ k < 5 ∧ But b H H2 ∧ Box (m + 1 + 1) H2 b, ?_, fun σ' H2 hM => ?_⟩
    · exact ⟨.ref b, rfl, .int most, rfl, b, most, m, rfl, by omega, by omega, hb, by omega, fun d H1 d0 d1 bt1 bx1 sm1 => ⟨_, _, rfl, rfl, .ref b, rfl, b, 5, m + 1, rfl, by decide, by decide, bx1, by omega,
        fun k H2 k0 k1 bt2 bx2 sm2 => ⟨_, _, rfl, 1 + d, k, rfl, by omega, by omega, k0, k1, bt1.trans bt2, bx2⟩⟩⟩
    obtain ⟨z, k, rfl, size1, size2, k0, k1, bt, bx2⟩ := hM
    refine ⟨.int k, rfl, rfl, _, rfl, ite2 (fun e => ?_) (fun e => ?_)⟩
    · refine ⟨by show 1 ≤ sizeLine; decide, fun p np => ⟨.int z, rfl, z, 1, rfl, rfl, p, z - 1, [.int 1], rfl, rfl, .inl (.inl upd_same), List.cons_ne_nil _ _, by omega, by omega, by show 1 ≤ 1000; decide, fun p2 H3 s3 t3 => ⟨by show 1 ≤ sizeLine; decide, fun p4 np4 => ?_⟩⟩⟩
      refine ⟨p2, p4, _, [.int 0], rfl, rfl, Same.seqT (same_new np4) t3, .inl (.inl upd_same), ?_, fun p5 H5 s5 t5 => ?_⟩
      · show ((List.replicate (z - 1).toNat [V.int 1]).flatten).length + 1 ≤ sizeLine
        rw [show [V.int 1] = [(1 : Int)].map V.int from rfl, rep_map, List.length_map, rep_len]
        show (z - 1).toNat * 1 + 1 ≤ sizeLine
        exact Nat.le_trans (show _ ≤ 100 by omega) (by decide)
      · rw [show [V.int 1] = [(1 : Int)].map V.int from rfl, rep_map, show [V.int 0] = [(0 : Int)].map V.int from rfl, ← List.map_append] at t5
        refine q H5 p5 _ (((bt.trans (But.new np)).trans (But.of_same s3)).trans ((But.new np4).trans (But.of_same s5))) ?_ t5 ?_ ?_ ?_
        · exact (((((bx2.same (same_new np)).same s3).same (same_new np4)).same s5)).up (by omega)
        · rw [List.length_append]
          exact Nat.le_add_left _ _
        · rw [List.length_append, rep_len]
          show (((z - 1).toNat * 1 + 1 : Nat) : Int) ≤ most
          omega
        · exact Bits.snoc (Bits.rep (fun o ho => by rw [List.mem_singleton.mp ho]; exact .inr rfl) _) (by decide) (by decide)
    · refine ⟨.int k, rfl, rfl, _, rfl, ite2 (fun e1 => ?_) (fun e1 => ?_)⟩
      · refine ⟨.ref b, rfl, .int z, rfl, z, 4, rfl, b, _, m + 2, rfl, by split <;> omega, by split <;> omega, bx2, by omega, fun d3 H3 g0 g1 bt3 bx3 sm3 => ?_⟩
        have d34 : d3 < 4 := by
          have : (if (4 : Int) < z then (4 : Int) else z) ≤ 4 := by split <;> omega
          omega
        refine ⟨_, _, rfl, rfl, 1 + d3, rfl, by omega, by omega, fun D nD => lc_range (lo := 0) (n := (1 + d3).toNat)
          (fun i H' => But b H3 H' ∧ Box (m + 3 + i) H' b ∧ ∃ l : List Int, l.length = i ∧ H' D = some (.lst (l.map V.int)) ∧ Bits l) ⟨But.new nD, bx3.same (same_new nD), [], rfl, upd_same, Bits.nil⟩ (fun i H4 hi hp => ?_) (fun H4 hp => ?_)⟩
        · obtain ⟨bt4, bx4, l, hl, hD, hB⟩ := hp
          have nDb : D ≠ b := (bx3.ne nD).symm
          refine ⟨rfl, .ref b, rfl, b, 2, _, rfl, by decide, by decide, bx4, by omega, fun d5 H5 e0 e2 bt5 bx5 sm5 => ⟨l.map V.int, (sm5 D nDb).trans hD, ?_, ?_, ?_, l ++ [d5], ?_, ?_, Bits.snoc hB e0 e2⟩⟩
          · rw [List.length_map, hl]
            exact small1000 (by omega)
          · refine but_local nD (bt4.trans bt5) fun a o n1 n2 h => ?_
            rw [upd_ne n2]
            exact h
          · obtain ⟨x1, x2, x3, g1, g2⟩ := bx5
            exact ⟨x1, x2, x3, by rw [upd_ne nDb.symm]; exact g1, g2.1, by have := g2.2; omega⟩
          · rw [List.length_append, hl]
            rfl
          · rw [upd_same, List.map_append]
            rfl
        · obtain ⟨bt4, bx4, l, hl, hD, hB⟩ := hp
          have hz : l.length ≤ 4 := by omega
          have hz1 : 1 ≤ l.length := by omega
          have hlen : (List.replicate z.toNat l).flatten.length = z.toNat * l.length := rep_len _ _
          have hmul : z.toNat ≤ z.toNat * l.length := Nat.le_mul_of_pos_right _ hz1
          have hmul2 : z.toNat * l.length ≤ 64 * 4 := Nat.mul_le_mul (by omega) hz
          refine ⟨.ref D, rfl, .int z, rfl, D, z, l.map V.int, rfl, rfl, hD, by omega, by omega, ?_, fun p np => ?_⟩
          · rw [List.length_map]
            exact Nat.le_trans (show _ ≤ 256 by rw [Nat.mul_comm]; exact hmul2) (by decide)
          · refine ⟨.int z, rfl, z, rfl, p, _, rfl, .inl (.inl upd_same), fun p2 np2 => ?_⟩
            refine ⟨p2, _, rfl, .inl ⟨.inl (.inl upd_same), fun p3 np3 => ?_⟩⟩
            have ec : cutV (List.replicate z.toNat (l.map V.int)).flatten none (some z) = (((List.replicate z.toNat l).flatten).take z.toNat).map V.int := by
              have := cut_to (xs := (List.replicate z.toNat (l.map V.int)).flatten) z.toNat
              rw [Int.toNat_of_nonneg (by omega)] at this
              rw [this, rep_map, List.map_take]
            have lt : (((List.replicate z.toNat l).flatten).take z.toNat).length = z.toNat := by
              rw [List.length_take, hlen]
              omega
            have new3 : ∀ {G : Hp} {a : Addr} {u : HO}, G a = none → But b G (upd G a u) := fun h => But.new h
            refine q _ p3 (((List.replicate z.toNat l).flatten).take z.toNat) ((((bt.trans bt3).trans bt4).trans (But.new np)).trans ((But.new np2).trans (But.new np3))) ?_ ?_ ?_ ?_ ((Bits.rep hB _).take _)
            · exact (((bx4.same (same_new np)).same (same_new np2)).same (same_new np3)).up (by omega)
            · refine .inl (.inl ?_)
              rw [upd_same, ec]
            · rw [lt]
              omega
            · rw [lt]
              omega
      · refine ⟨.ref b, rfl, b, 2, m + 2, rfl, by decide, by decide, bx2, by omega, fun d3 H3 g0 g1 bt3 bx3 sm3 => ⟨by show 1 ≤ sizeLine; decide, fun D nD => ?_⟩⟩
        have nDb : D ≠ b := (bx3.ne nD).symm
        have nDH : H D = none := by
          cases hh : H D with
          | none => rfl
          | some u =>
            have := (bt.trans bt3) D u nDb hh
            rw [nD] at this
            cases this
        refine while_by (fun σ H' => ∃ (l : List Int) (y6 : Option V), σ = [some (.ref b), some (.int most), some (.int z), some (.int k), none, some (.ref D), y6, none] ∧ But b H H' ∧ Box (m + 3 + 2 * l.length) H' b ∧ H' D = some (.lst (l.map V.int)) ∧ 1 ≤ l.length ∧ l.length ≤ z.toNat ∧ Bits l)
          (fun σ H' => match H' D with
            | some (HO.lst xs) => z.toNat - xs.length
            | _ => 0) ⟨[d3], none, rfl, (bt.trans bt3).trans (But.new nD), (bx3.same (same_new nD)).up (by omega), upd_same, Nat.le_refl _, by show 1 ≤ z.toNat; omega, Bits.snoc Bits.nil g0 g1⟩
          (fun σ H4 hp => ?_) (fun σ H Q Q' hq h => ?_)
        · obtain ⟨l, y6, rfl, bt4, bx4, hD, l1, l2, hB⟩ := hp
          refine ⟨.ref D, rfl, D, _, rfl, .inl (.inl (.inl hD)), .int z, rfl, _, _, rfl, rfl, _, rfl, ite2 (fun e2 => ?_) (fun e2 => ?_)⟩
          · have hlt : ((l.map V.int).length : Int) < z := of_decide_eq_true e2
            rw [List.length_map] at hlt
            refine ⟨fun v H' => (∃ c : Bool, v = .bl c) ∧ But b H4 H' ∧ Box (m + 3 + 2 * l.length + 1) H' b ∧ H' D = some (.lst (l.map V.int)), ?_, fun v H5 hv => ?_⟩
            · refine ⟨.int k, rfl, rfl, _, rfl, ite2 (fun _ => ?_) (fun _ => ?_)⟩
              · exact ⟨.ref b, rfl, b, 4, _, rfl, by decide, by decide, bx4, by omega, fun d5 H5 e0 e2 bt5 bx5 sm5 => ⟨_, _, rfl, rfl, ⟨_, rfl⟩, bt5, bx5, (sm5 D nDb).trans hD⟩⟩
              · exact ⟨⟨_, rfl⟩, But.refl _ _, bx4.up (by omega), hD⟩
            · obtain ⟨⟨c, rfl⟩, bt5, bx5, hD5⟩ := hv
              refine ⟨.ref D, rfl, .inl ⟨rfl, _, .inl (.inl hD5)⟩, fun v H' => (∃ o : Int, v = .int o ∧ 0 ≤ o ∧ o < 2) ∧ But b H5 H' ∧ Box (m + 3 + 2 * l.length + 2) H' b ∧ H' D = some (.lst (l.map V.int)), ?_, fun v H6 hv => ?_⟩
              · refine ⟨.bl c, rfl, c, rfl, ite2 (fun _ => ?_) (fun _ => ?_)⟩
                · obtain ⟨o, ho, hat⟩ := last_some (l := l) l1
                  refine ⟨.ref D, rfl, 1, rfl, D, _, _, _, rfl, rfl, .inl (.inl hD5), hat, ⟨o, rfl, ?_⟩, But.refl _ _, bx5.up (by omega), hD5⟩
                  have := hB o ho
                  omega
                · exact ⟨.ref b, rfl, b, 2, _, rfl, by decide, by decide, bx5, by omega, fun d6 H6 e0 e2 bt6 bx6 sm6 => ⟨⟨d6, rfl, e0, e2⟩, bt6, bx6, (sm6 D nDb).trans hD5⟩⟩
              · obtain ⟨⟨o, rfl, o0, o1⟩, bt6, bx6, hD6⟩ := hv
                refine ⟨D, _, _, rfl, rfl, hD6, ?_, ⟨l ++ [o], _, rfl, ?_, ?_, ?_, ?_, ?_, Bits.snoc hB o0 o1⟩, ?_⟩
                · rw [List.length_map]
                  exact small1000 (by omega)
                · refine but_local nDH ((bt4.trans bt5).trans bt6) fun a o n1 n2 h => ?_
                  rw [upd_ne n2]
                  exact h
                · obtain ⟨x1, x2, x3, g1, g2⟩ := bx6
                  refine ⟨x1, x2, x3, by rw [upd_ne nDb.symm]; exact g1, g2.1, ?_⟩
                  rw [List.length_append]
                  have := g2.2
                  show x3 ≤ ((m + 3 + 2 * (l.length + 1) : Nat) : Int)
                  omega
                · rw [upd_same, List.map_append]
                  rfl
                · rw [List.length_append]
                  exact Nat.le_add_left _ _
                · rw [List.length_append]
                  show l.length + 1 ≤ _
                  omega
                · show (match upd H6 D (.lst (l.map V.int ++ [V.int o])) D with
                    | some (HO.lst xs) => z.toNat - xs.length
                    | _ => 0) < (match H4 D with
                    | some (HO.lst xs) => z.toNat - xs.length
                    | _ => 0)
                  rw [upd_same, hD]
                  show z.toNat - (l.map V.int ++ [V.int o]).length < z.toNat - (l.map V.int).length
                  rw [List.length_append, List.length_map]
                  show z.toNat - (l.length + 1) < z.toNat - l.length
                  omega
          · refine ⟨.ref D, rfl, D, _, rfl, .inl ⟨.inl (.inl hD), fun p np => ?_⟩⟩
            exact q _ p l (bt4.trans (But.new np)) ((bx4.same (same_new np)).up (by omega)) (.inl (.inl upd_same)) l1 (by omega) hB
        · obtain ⟨v, h1, a, xs, h2, h3, v2, h4, i, j, h5, h6, c, h7, h8⟩ := h
          exact ⟨v, h1, a, xs, h2, h3, v2, h4, i, j, h5, h6, c, h7, hq _ _ h8⟩
end
end Pf
namespace Gk
open PySem PySem.Spec PyProof.Rows L2 PySem.Builtin.Str
/-! ### enumerate of a tuple -/
theorem enum_newT (l : Addr) (its : Array Value) :
    Meets (Builtin.«enumerate.__new__» ⟨[.type "enumerate", .ref l], []⟩) (fun _ R s => Heap.IsTuple s.heap l its ∧
      R (.ok (.ret (.ref (s.heap.push { cls := .type "tuple_iterator", data := .fields #[.ref l, .int 0 0] }).objs.size)))
        { s with heap := (s.heap.push { cls := .type "tuple_iterator", data := .fields #[.ref l, .int 0 0] }).push { cls := .type "enumerate", data := .fields #[.none, .bool false, .ref s.heap.objs.size, rawInt 0, .none, .none] } }) :=
  .of_wp fun prog w A R s h => by
    obtain ⟨hp, g, d, tk, os⟩ := s
    obtain ⟨hL, h⟩ := h
    have hsub := sub_enumerate
    obtain ⟨⟨oc, od, dt, sl⟩, hl, hcl, n, hdt⟩ := id hL
    replace hcl : oc = .type "tuple" := hcl
    replace hdt : dt = .seq its n := hdt
    subst hcl hdt
    wp_walk using wpAny_loadPart' hl
    refine wpAny_stack_any fun st => wpAny_pure ?_
    split
    · rename_i c _ _ _ _ _
      cases (c == Value.type "enumerate") <;>
      · wp_walk using wpAny_loadPart' hl, wpAny_pyIter_tuple hL
        exact ⟨_, rfl, h⟩
    · wp_walk using wpAny_loadPart' hl, wpAny_pyIter_tuple hL
      exact ⟨_, rfl, h⟩
section
variable {prog : Program} {w : World} {A : Around} {E : Value → Shared → Prop} {s : Shared}
theorem enumT {l : Addr} {its : Array Value} {Q : Value → Shared → Prop} (hL : s.heap.IsTuple l its)
    (h : ∀ h', IsEnum h' (s.heap.objs.size + 1) s.heap.objs.size 0 .none → h'.IsTupleIter s.heap.objs.size l 0 → (∀ b o, s.heap.get? b = some o → h'.get? b = some o) → Q (.ref (s.heap.objs.size + 1)) { s with heap := h' }) :
    wpAny (model prog w) A (call (.type "enumerate") [.ref l]) Q E s := by
  refine callType_new F.called_enumerate (by decide) (F.typeCall_enumerate_1 _) (F.newCall_enumerate_1 _) (fun obj => F.args_object_init_2 obj _) F.entry_enumerate_new (enum_newT l its) ⟨hL, ?_⟩
  have hz : (s.heap.push { cls := .type "tuple_iterator", data := .fields #[.ref l, .int 0 0] }).objs.size = s.heap.objs.size + 1 := Heap.size_push ..
  show _ ∧ _
  rw [hz]
  have he : IsEnum ((s.heap.push { cls := .type "tuple_iterator", data := .fields #[.ref l, .int 0 0] }).push { cls := .type "enumerate", data := .fields #[.none, .bool false, .ref s.heap.objs.size, rawInt 0, .none, .none] }) (s.heap.objs.size + 1) s.heap.objs.size 0 .none := by
    have g := Heap.get?_push_size (s.heap.push { cls := .type "tuple_iterator", data := .fields #[.ref l, .int 0 0] }) (o := { cls := .type "enumerate", data := .fields #[.none, .bool false, .ref s.heap.objs.size, rawInt 0, .none, .none] }) rfl
    rw [hz] at g
    exact g
  exact ⟨⟨_, he, rfl⟩, h _ he ⟨_, Heap.get?_push_of_some _ (Heap.get?_push_size _ rfl), rfl, rfl⟩ fun b o x => Heap.get?_push_of_some _ (Heap.get?_push_of_some _ x)⟩
end
def Ient (K : PySem.W.Frag) (a : Addr) (N : Nat) : It := ⟨fun i H => i < N ∧ ∃ xs : List V, SqT K H a xs ∧ xs.length = N,
  fun i H v H' => ∃ T x, v = .ref T ∧ H T = none ∧ (∀ xs, SqT K H a xs → xs[i]? = some x) ∧ H' = upd H T (.tup [.int (i : Nat), x]), fun i H => N ≤ i ∧ ∃ xs : List V, SqT K H a xs ∧ xs.length = N⟩
theorem turn_ent {P : Program} {w : World} {K : PySem.W.Frag} {elts : List Expr} {kk : Nat} {tpos : Pos} (e it a : Addr) (N : Nat) :
    Turn P w K (.Tuple elts kk tpos) (Ient K a N) [e, it] e (fun i h => ((∃ old, IsEnum h e it i old) ∧ h.IsTupleIter it a i) ∧ e ≠ it ∧ i ≤ N) where
  mem := List.mem_cons_self
  obj := fun i h st b hb => by
    obtain ⟨⟨⟨old, he⟩, ⟨o, ho, hc, hd⟩⟩, _⟩ := st
    rcases List.mem_cons.mp hb with rfl | hb
    · exact ⟨_, he, fun v g => nomatch g⟩
    · rw [List.mem_singleton.mp hb]
      exact ⟨o, ho, fun v g => by rw [hd] at g; cases g⟩
  keep := fun i h h' st k => by
    obtain ⟨⟨⟨old, he⟩, ⟨o, ho, hc, hd⟩⟩, hne⟩ := st
    exact ⟨⟨⟨old, k e List.mem_cons_self _ he⟩, o, k it (List.mem_cons_of_mem _ List.mem_cons_self) o ho, hc, hd⟩, hne⟩
  item := by
    intro X hP hw hK hc i pins s σ H E I hf st hg
    subst hP hw hK
    obtain ⟨hlt, xs, hq, hN⟩ := hg
    obtain ⟨st, hne, hi⟩ := st
    obtain ⟨its, rv, tup, hz⟩ := I.tuple hq
    have hlen : its.toArray.size = N := by rw [List.size_toArray, ← hN]; exact rv.length.symm
    have nat : a ≠ it := fun z => by
      obtain ⟨o1, g1, c1, _⟩ := tup
      obtain ⟨_, o2, g2, c2, _⟩ := st
      rw [z, g2] at g1
      cases g1
      rw [c2] at c1
      exact absurd c1 (by decide)
    have D : Draws X.prog X.w X.A.in1 it [it, a] its.toArray.size _ _ := Draws.tuple (show X.A.in1.handled = none from I.ok.hd hc) it a nat its.toArray
    have nea : e ≠ a := fun z => by
      obtain ⟨o1, g1, c1, _⟩ := tup
      obtain ⟨⟨old, g2⟩, _⟩ := st
      rw [z] at g2
      rw [g2] at g1
      cases g1
      exact absurd (show Value.type "enumerate" = Value.type "tuple" from c1) (by decide)
    have W := WalksT.enumerateD D e hne (fun q => (List.mem_cons.mp q).elim hne fun q => nea (List.mem_singleton.mp q)) List.mem_cons_self
    have hel : e < s.heap.objs.size := by obtain ⟨⟨old, he⟩, _⟩ := st; exact Heap.lt_size he
    have hil : it < s.heap.objs.size := by obtain ⟨_, o, ho, _⟩ := st; exact Heap.lt_size ho
    refine W.item i s _ _ (by rw [hlen]; exact hlt) ⟨st.1, st.2, tup⟩ fun T vals h' tk hp hT isT mid hk => ?_
    obtain ⟨t1, x1, hx1, rfl⟩ := hp
    have nT := W.apart i T h' mid
    obtain ⟨y, hy⟩ : ∃ y, xs[i]? = some y := ⟨xs[i]'(by omega), List.getElem?_eq_getElem (by omega)⟩
    obtain ⟨u, hu, ru⟩ := rv.get hy
    have hx1 : its.toArray[i]? = some x1 := hx1
    rw [List.getElem?_toArray, hu] at hx1
    obtain rfl := Option.some.inj hx1
    refine ⟨_, rfl, W.go elts kk tpos i T { s with heap := h', toks := tk } _ _ mid fun h2 st2 hk2 => ?_⟩
    obtain ⟨oT, gT, cT, nTT, dT⟩ := isT
    have gT2 := hk2 T oT nT gT
    have new : ObjOk X.prog X.w (upd H T (.tup [.int (i : Nat), y])) h2 T (.tup [.int (i : Nat), y]) :=
      ⟨by show 2 ≤ sizeLine; decide, [.int i t1, u], .cons ⟨_, rfl⟩ (.cons ru .nil), ⟨oT, gT2, cT, nTT, dT⟩⟩
    have I1 : Inv X pins σ (upd H T (.tup [.int (i : Nat), y])) { s with heap := h2, toks := tk } :=
      I.turnedNew (ch := [e, it]) (fun b ob hb g => hk2 b ob hb (hk b ob hb g)) hf hT new
    refine ⟨.ref T, _, I1, rfl, ⟨T, y, rfl, I.hok.fresh hT, fun ys hys => ?_, rfl⟩, ⟨⟨st2.1, st2.2.1⟩, hne, hlt⟩, fun b hb => ?_⟩
    · rw [I.tuple_inj hys hq]
      exact hy
    · have hb' : b < s.heap.objs.size := by
        rcases List.mem_cons.mp hb with rfl | hb
        · exact hel
        · rw [List.mem_singleton.mp hb]; exact hil
      rw [upd_ne (Nat.ne_of_lt (Nat.lt_of_lt_of_le hb' hT))]
      exact (hf b hb).1
  done := by
    intro X hP hw hK hc i pins s σ H E I hf st hg
    subst hP hw hK
    obtain ⟨hge, xs, hq, hN⟩ := hg
    obtain ⟨st, hne, hi⟩ := st
    obtain ⟨its, rv, tup, hz⟩ := I.tuple hq
    have hlen : its.toArray.size = N := by rw [List.size_toArray, ← hN]; exact rv.length.symm
    obtain rfl : i = N := Nat.le_antisymm hi hge
    have nat : a ≠ it := fun z => by
      obtain ⟨o1, g1, c1, _⟩ := tup
      obtain ⟨_, o2, g2, c2, _⟩ := st
      rw [z, g2] at g1
      cases g1
      rw [c2] at c1
      exact absurd c1 (by decide)
    have nea : e ≠ a := fun z => by
      obtain ⟨o1, g1, c1, _⟩ := tup
      obtain ⟨⟨old, g2⟩, _⟩ := st
      rw [z] at g2
      rw [g2] at g1
      cases g1
      exact absurd (show Value.type "enumerate" = Value.type "tuple" from c1) (by decide)
    have D : Draws X.prog X.w X.A.in1 it [it, a] its.toArray.size _ _ := Draws.tuple (show X.A.in1.handled = none from I.ok.hd hc) it a nat its.toArray
    have W := WalksT.enumerateD D e hne (fun q => (List.mem_cons.mp q).elim hne fun q => nea (List.mem_singleton.mp q)) List.mem_cons_self
    rw [← hlen] at st
    refine W.done s _ _ ⟨st.1, st.2, tup⟩ fun h' tk hk => ⟨rfl, ?_⟩
    exact I.step (g' := s.gens) (d' := s.drawn) (ch := [e, it]) (fun b hb => ⟨(hf b hb).2.2.2.1, (hf b hb).2.1, (hf b hb).2.2.2.2.1, (hf b hb).2.2.2.2.2⟩) (fun b o _ _ hc g _ => hk b o hc g) (fun b o _ _ hc g _ => ⟨o.slots, hk b o hc g⟩)
      (fun _ _ _ _ n => n) (fun b o hc g => ⟨o, hk b o hc g⟩) (fun _ _ g => g) (fun _ _ _ g => g) (fun b ps g => ⟨#[], by rw [g]; simp⟩)
      (fun m hm => by
        obtain ⟨o, es, ep, ho, r⟩ := hm
        exact ⟨o, es, ep, hk _ o (fun q => (hf _ q).2.1 rfl) ho, r⟩)
      (fun b u g => by
        have nb : ∀ c v, H c = some v → c ∉ [e, it] := fun c v g q => by
          have g' := (hf c q).1
          rw [g'] at g; cases g
        refine (I.hok b u g).stay (fun c v hcv q => hk c v ?_ q) (fun _ q => q) fun _ _ q => q
        rcases hcv with rfl | hcv
        · exact nb _ _ g
        · exact nb _ _ hcv) I.bare
  self := fun A i s Q E st h => by
    obtain ⟨⟨⟨old, he⟩, _⟩, _⟩ := st
    exact wpAny_pyIter_enum he h
def iEnumU (K : PySem.W.Frag) (ta : TA) : TI := fun σ H R => ta σ H fun vs H1 => ∃ a xs, vs = [.ref a] ∧ SqT K H1 a xs ∧ R (Ient K a xs.length) H1
theorem pi_enumU {X : Cx} {e : Expr} {ta : TA} {p pos tpos : Pos} {elts : List Expr} {kk : Nat} (hg : Gl X "enumerate") (hm : X.mg "enumerate" = none) (ha : PA X [e] ta) (hs : starEach [e] X.env = [(false, eval e X.env)] := by rfl) :
    PI X (.Tuple elts kk tpos) (.Call (.Name "enumerate" p) [e] [] pos) (iEnumU X.K ta) := by
  refine ⟨fun pins s σ H R I h => Call_ (ld_blt I hg hm boot_enumerate (PyProof.Rows.callWith_type1 (thn (ha.run pos pins s σ H _ I h) fun us s1 ⟨vs, H1, I1, r1, a, xs, ez, hq, q⟩ => ?_) hs rfl))⟩
  subst ez
  obtain ⟨u, rfl, r2⟩ := vals1 r1
  cases r2
  obtain ⟨its, rv, tup, hz⟩ := I1.tuple hq
  refine enumT tup fun h' he hit hk => wpAny_pyIter_enum he ?_
  refine ⟨s1.heap.objs.size + 1, [s1.heap.objs.size + 1, s1.heap.objs.size], _, _, H1, rfl, I1.kept (t' := s1.toks) hk, turn_ent (s1.heap.objs.size + 1) s1.heap.objs.size a xs.length, ⟨⟨⟨.none, he⟩, hit⟩, Nat.succ_ne_self _, Nat.zero_le _⟩, fun b hb => ?_, q⟩
  have hle : s1.heap.objs.size ≤ b := by
    rcases List.mem_cons.mp hb with rfl | hb
    · exact Nat.le_succ _
    · rw [List.mem_singleton.mp hb]
      exact Nat.le_refl _
  exact I1.fpOk hle (I1.hok.fresh hle)
theorem walk_ent {K : PySem.W.Frag} {a : Addr} {xs : List V} : Walk (Ient K a xs.length) xs.length (fun H => SqT K H a xs) (fun i H v H' => ∃ T x, v = .ref T ∧ H T = none ∧ xs[i]? = some x ∧ H' = upd H T (.tup [.int (i : Nat), x])) :=
  ⟨fun i _ hi g => ⟨hi, xs, g, rfl⟩, fun _ g => ⟨Nat.le_refl _, xs, g, rfl⟩, fun i H v H' _ g y => by
    obtain ⟨T, x, h1, h2, h3, h4⟩ := y
    exact ⟨T, x, h1, h2, h3 xs g, h4⟩⟩
end Gk
namespace Gk
open PySem PySem.Spec PyProof.Rows L2
/-- a pair (branch, outcome) -/
def pd (x : Int × Int) : PyData := .tuple [.int x.1, .int x.2]
def PairsAt (K : PySem.W.Frag) (H : Hp) (p : Addr) (l : List (Int × Int)) : Prop := Dp K H (.ref p) (.tuple (l.map pd))
theorem tups_pd : ∀ l : List (Int × Int), tupsAll (l.map pd) = true
  | [] => rfl
  | x :: l => by
    show (tups (pd x) && tupsAll (l.map pd)) = true
    rw [tups_pd l]
    rfl
theorem PairsAt.keep {K : PySem.W.Frag} {H H' : Hp} {p : Addr} {l : List (Int × Int)} (h : PairsAt K H p l) (k : Keep K H H') : PairsAt K H' p l :=
  Dp.keep k _ _ (by simpa only [tups] using tups_pd l) h
theorem pairs_keep {K : PySem.W.Frag} {H H' : Hp} {as : List V} {l : List (Int × Int)} (h : DpAll K H as (l.map pd)) (k : Keep K H H') : DpAll K H' as (l.map pd) := DpAll.keep k _ _ (tups_pd l) h
theorem keep_lst {K : PySem.W.Frag} {H : Hp} {D : Addr} {xs : List V} {o : HO} (h : H D = some (.lst xs)) : Keep K H (upd H D o) := by
  intro a ys g
  rcases g with (g | ⟨u, g⟩) | g
  · exact .inl (.inl (by rw [upd_ne (ne_of g h (fun q => HO.noConfusion q))]; exact g))
  · exact .inl (.inr ⟨u, by rw [upd_ne (ne_of g h (fun q => HO.noConfusion q))]; exact g⟩)
  · exact .inr g
/-- one pair more in the list at D -/
theorem pairs_snoc {K : PySem.W.Frag} {H : Hp} {D T : Addr} {as : List V} {l : List (Int × Int)} {x y : Int} {o : HO} (h : DpAll K H as (l.map pd)) (hD : H D = some (.lst as)) (nT : H T = none) :
    DpAll K (upd (upd H T (.tup [.int x, .int y])) D o) (as ++ [.ref T]) ((l ++ [(x, y)]).map pd) := by
  have nd : D ≠ T := ne_of_none hD nT
  have hD2 : (upd H T (.tup [.int x, .int y])) D = some (.lst as) := by rw [upd_ne nd]; exact hD
  have k := (Same.keep (K := K) (same_new (o := HO.tup [V.int x, V.int y]) nT)).trans (keep_lst (o := o) hD2)
  rw [List.map_append]
  refine DpAll.app (pairs_keep h k) (.cons (.tup (.inl (.inl ?_)) (.cons (.int x) (.cons (.int y) .nil))) .nil)
  rw [upd_ne nd.symm, upd_same]
theorem pair_at {K : PySem.W.Frag} {H : Hp} {v : V} {x : Int × Int} (h : Dp K H v (pd x)) : ∃ a, v = .ref a ∧ SqT K H a [.int x.1, .int x.2] := by
  cases h with
  | tup h1 h2 =>
    cases h2 with
    | cons a b =>
      cases a
      cases b with
      | cons c d =>
        cases c
        cases d
        exact ⟨_, rfl, h1⟩
theorem DpAll.set {K : PySem.W.Frag} {H : Hp} {v : V} {d : PyData} (hv : Dp K H v d) : ∀ {vs : List V} {ds : List PyData} (i : Nat), DpAll K H vs ds → DpAll K H (vs.set i v) (ds.set i d)
  | _, _, _, .nil => .nil
  | _, _, 0, .cons _ t => .cons hv t
  | _, _, i + 1, .cons h t => .cons h (DpAll.set hv i t)
theorem lc_len {K : PySem.W.Frag} {H : Hp} {as : List V} {l : List (Int × Int)} (h : DpAll K H as (l.map pd)) : as.length = l.length := by
  have := DpAll.len h
  rwa [List.length_map] at this
/-- branches and outcomes -/
def Fair (l : List (Int × Int)) : Prop := ∀ x ∈ l, (0 ≤ x.1 ∧ x.1 ≤ 7) ∧ (x.2 = 0 ∨ x.2 = 1)
theorem Fair.nil : Fair [] := fun _ h => (nomatch h)
theorem Fair.snoc {l : List (Int × Int)} {x y : Int} (h : Fair l) (a : 0 ≤ x) (b : x ≤ 7) (c : y = 0 ∨ y = 1) : Fair (l ++ [(x, y)]) := fun z hz => by
  rcases List.mem_append.mp hz with g | g
  · exact h z g
  · rw [List.mem_singleton.mp g]
    exact ⟨⟨a, b⟩, c⟩
theorem Fair.take {l : List (Int × Int)} (h : Fair l) (n : Nat) : Fair (l.take n) := fun x hx => h x (List.mem_of_mem_take hx)
theorem tame_pd : ∀ {l : List (Int × Int)}, Fair l → tameAll (l.map pd) = true
  | [], _ => rfl
  | x :: l, h => by
    have h1 := h x List.mem_cons_self
    show (tame (pd x) && tameAll (l.map pd)) = true
    rw [tame_pd fun z hz => h z (List.mem_cons_of_mem _ hz), Bool.and_true]
    simp only [pd, tame, tameAll, Bool.and_true, Bool.and_eq_true, decide_eq_true_eq]
    omega
theorem cost_pd : ∀ l : List (Int × Int), costAll (l.map pd) = 1 + 144 * l.length
  | [] => rfl
  | x :: l => by
    show cost (pd x) + 1 + costAll (l.map pd) = _
    rw [cost_pd l, List.length_cons]
    simp only [pd, cost, costAll]
    omega
theorem depth_pd : ∀ l : List (Int × Int), PyData.depthAll (l.map pd) ≤ 1
  | [] => by decide
  | x :: l => by
    show max (PyData.depth (pd x)) (PyData.depthAll (l.map pd)) ≤ 1
    have h := depth_pd l
    have h2 : PyData.depth (pd x) = 1 := by simp [pd, PyData.depth, PyData.depthAll]
    omega
end Gk
namespace Pf
open PySem PySem.Spec PyProof.Rows L2 Gk
abbrev sLoop : Stmt := topS 32
abbrev nLoop : List Str := ["_law_box_here", "_law_most", "_law_homes", "_law_row_here", "_law_kind", "_law_some", "_law_first", "_law_found", "_law_deed", "_law_at"]
theorem scLoop : FnScope nLoop ["_law_box_here", "_law_most", "_law_homes"] (defScope sLoop) := ⟨rfl, rfl, rfl, by decide +kernel, rfl, by decide +kernel, by decide +kernel⟩
section
variable {P : Program} {w : World} {K : PySem.W.Frag} {mg : Str → Option Value} {base : Heap}
def spLoop (K : PySem.W.Frag) : Sp := fun vs H Q _ => ∃ (b : Addr) (most homes : Int) (m : Nat), vs = [.ref b, .int most, .int homes] ∧ 1 ≤ most ∧ most ≤ 64 ∧ 1 ≤ homes ∧ homes ≤ 8 ∧ Box m H b ∧ m ≤ 999000 ∧
  ∀ H' p l, But b H H' → Box (m + 250) H' b → PairsAt K H' p l → 1 ≤ l.length → (l.length : Int) ≤ most → Fair l → Q (.ref p) H'
theorem ok_loop {f : Addr} {fd : FuncData} (DT : Dfn P w K mg base 1 "_law_take" ["_law_box_here", "_law_many"] spTake) (DR : Dfn P w K mg base 2 "_law_row" ["_law_box_here", "_law_most"] (spRow K)) (mt : mg "tuple" = none) (me : mg "enumerate" = none) (ml : mg "len" = none)
    (F : L2.Fun K "_law_loop" "_law_loop" sLoop f fd) : FnOk P w K mg base L2.CX0 3 f fd ["_law_box_here", "_law_most", "_law_homes"] (spLoop K) := by
  refine F.ok scLoop (fun vs H Q E h => ?_) (fun cdv A outer s H vs Q E hr h => ?_)
  · obtain ⟨b, most, homes, m, rfl, _⟩ := h
    rfl
  · obtain ⟨b, most, homes, m, rfl, m1, m2, h1, h2, hb, hm, q⟩ := h
    refine ⟨_, C8.pss_cut (ps_asg (pe_tup (pa_cons (pe_d DR hr (by decide) (by rfl) (pa_cons (pv 0) (pa_cons (pv 1) pa_nil))) (pa_cons (pe_d DT hr (by decide) (by rfl) (pa_cons (pv 0) (pa_cons pe_int pa_nil)))
          (pa_cons (pe_op op_add pe_int (pe_d DT hr (by decide) (by rfl) (pa_cons (pv 0) (pa_cons (pv 2) pa_nil)))) pa_nil))))
        (pg_tup (by rfl) (pgs_cons (pg_name (i := 3) scLoop.nd rfl (.inl rfl)) (pgs_cons (pg_name (i := 4) scLoop.nd rfl (.inl rfl)) (pgs_cons (pg_name (i := 5) scLoop.nd rfl (.inr rfl)) pgs_nil)))))
      (pss_cons (ps_set (i := 6) scLoop.nd rfl (.inr rfl) (pe_d DT hr (by decide) (by rfl) (pa_cons (pv 0) (pa_cons (pe_op op_sub pe_int (pv 5)) pa_nil))))
      (pss_cons (ps_if (pt_cmpR op_eq (pv 4) pe_int (nomark _))
        (pss_one (ps_ret (pe_callTy call_tuple_of (by rfl) mt (by decide +kernel) (pa_cons (pe_lc (own := [("_law_deed", 8)]) (g := gName 8) (by rfl) scLoop.nd (pi_tup (pv 3)) (blkOk_by (N := nLoop) (sc := defScope sLoop) (by decide +kernel))
          (fun _ _ _ _ _ => pg_name (i := 8) scLoop.nd rfl (.inl rfl)) (fun _ _ _ _ _ => pts_nil) (fun _ _ _ _ _ => pe_tup (pa_cons (pv 6) (pa_cons (pv 8) pa_nil)))) pa_nil)))) pss_nil)
      (pss_cons (ps_if (pt_cmpR op_eq (pv 4) pe_int (nomark _))
        (pss_one (ps_ret (pe_callTy call_tuple_of (by rfl) mt (by decide +kernel) (pa_cons (pe_lc (own := [("_law_at", 9), ("_law_deed", 8)]) (g := gTup K 2 (gCons (gName 9) (gCons (gName 8) gNil))) (by rfl) scLoop.nd (pi_enumU rfl me (pa_cons (pv 3) pa_nil)) (blkOk_by (N := nLoop) (sc := defScope sLoop) (by decide +kernel))
          (fun _ _ _ _ _ => pg_tup rfl (pgs_cons (pg_name (i := 9) scLoop.nd rfl (.inl rfl)) (pgs_cons (pg_name (i := 8) scLoop.nd rfl (.inl rfl)) pgs_nil))) (fun _ _ _ _ _ => pts_nil)
          (fun _ _ _ _ _ => pe_tup (pa_cons (pe_op op_add (pv 6) (pe_op op_mod (pv 9) (pv 5))) (pa_cons (pv 8) pa_nil)))) pa_nil)))) pss_nil)
      (pss_cons (ps_setLc (i := 7) (own := [("_law_deed", 8)]) (g := gName 8) (by rfl) scLoop.nd rfl rfl (sw_true rfl rfl rfl (by decide +kernel)) (pi_tup (pv 3)) (blkOk_by (N := nLoop) (sc := defScope sLoop) (by decide +kernel))
          (fun _ _ _ _ _ => pg_name (i := 8) scLoop.nd rfl (.inl rfl)) (fun _ _ _ _ _ => pts_nil) (fun _ _ _ _ _ => pe_tup (pa_cons (pe_op op_add (pv 6) (pe_d DT hr (by decide) (by rfl) (pa_cons (pv 0) (pa_cons (pv 5) pa_nil)))) (pa_cons (pv 8) pa_nil))))
      (C8.pss_cut (ps_if (PW.pt (pw_and (pt_cmpR op_eq (pv 4) pe_int (nomark _)) (pw_and1 (pt_cmpR op_gt (pe_callB call_len_seq (by rfl) ml PySem.boot_len (pa_cons (pv 7) pa_nil)) pe_int (nomark _)))))
        (pss_one (ps_asg (pe_tup (pa_cons (pe_ix ix_tup (pe_ix ix_list (pv 7) (pe_un un_neg pe_int) (fun _ _ => rfl)) pe_int (fun _ _ => rfl)) (pa_cons (pe_ix ix_tup (pe_ix ix_list (pv 7) pe_int (fun _ _ => rfl)) pe_int (fun _ _ => rfl)) pa_nil)))
          (pg_sub (pv 7) (pe_un un_neg pe_int) set_list))) pss_nil)
      (pss_one (ps_ret (pe_callTy call_tuple_of (by rfl) mt (by decide +kernel) (pa_cons (pv 7) pa_nil))))))))), ?_⟩
    refine ⟨fun σ H2 => ∃ (r : Addr) (os : List Int) (k z : Int), σ = [some (.ref b), some (.int most), some (.int homes), some (.ref r), some (.int k), some (.int z), none, none, none, none] ∧ SqT K H2 r (os.map V.int) ∧ 1 ≤ os.length ∧ (os.length : Int) ≤ most ∧ Bits os ∧ 1 ≤ z ∧ z ≤ 8 ∧ But b H H2 ∧ Box (m + 152) H2 b, ?_, fun σ' H2 hM => ?_⟩
    · refine ⟨.ref b, rfl, .int most, rfl, b, most, m, rfl, m1, m2, hb, by omega, fun H1 r os bt1 bx1 sq l1 l2 hB => ⟨.ref b, rfl, b, 4, m + 150, rfl, by decide, by decide, bx1, by omega, fun k H2 k0 k1 bt2 bx2 sm2 =>
        ⟨.ref b, rfl, .int homes, rfl, b, homes, m + 150 + 1, rfl, by omega, by omega, bx2, by omega, fun d H3 d0 d1 bt3 bx3 sm3 => ⟨_, _, rfl, rfl, by show 3 ≤ sizeLine; decide, fun p np => ?_⟩⟩⟩⟩
      refine ⟨p, _, rfl, .inl (.inl upd_same), rfl, _, _, rfl, _, _, rfl, _, _, rfl, rfl, r, os, k, 1 + d, rfl, ?_, l1, l2, hB, by omega, by omega, ((bt1.trans bt2).trans bt3).trans (But.new np), bx3.same (same_new np)⟩
      exact Same.seqT (same_new np) ((But.keep bt3 bx2 _ _) ((But.keep bt2 bx1 _ _) sq))
    · obtain ⟨r, os, k, z, rfl, sq, l1, l2, hB, z1, z2, bt, bx⟩ := hM
      refine ⟨.ref b, rfl, .int z, rfl, _, _, rfl, rfl, b, 9 - z, m + 152, rfl, by omega, by omega, bx, by omega, fun d H3 d0 d1 bt3 bx3 sm3 => ?_⟩
      have sq3 : SqT K H3 r (os.map V.int) := But.keep bt3 bx _ _ sq
      have btA : But b H H3 := bt.trans bt3
      have len64 : os.length ≤ 64 := by omega
      have at_os : ∀ {i : Nat} {x : V}, (os.map V.int)[i]? = some x → ∃ o, os[i]? = some o ∧ x = .int o ∧ (o = 0 ∨ o = 1) := by
        intro i x hx
        rw [List.getElem?_map] at hx
        cases e : os[i]? with
        | none => rw [e] at hx; cases hx
        | some o =>
          rw [e] at hx
          exact ⟨o, rfl, (Option.some.inj hx).symm, hB o (List.mem_of_getElem? e)⟩
      have fin : ∀ (H5 : Hp) (D : Addr) (as : List V) (l : List (Int × Int)), But b H H5 → Box (m + 240) H5 b → H5 D = some (.lst as) → DpAll K H5 as (l.map pd) → l.length = os.length → Fair l →
          ∀ p, H5 p = none → Q (.ref p) (upd H5 p (.tup as)) := fun H5 D as l b5 x5 hD hA hl hF p np =>
        q _ p l (b5.trans (But.new np)) ((x5.same (same_new np)).up (by omega)) (.tup (.inl (.inl upd_same)) (pairs_keep hA (Same.keep (same_new np)))) (by omega) (by omega) hF
      refine ⟨.int k, rfl, rfl, _, rfl, ite2 (fun e => ?_) (fun e => ?_)⟩
      · refine ⟨.ref r, rfl, r, rfl, ⟨_, sq3⟩, fun D nD => lc_tup (K := K) (a := r) (xs := os.map V.int)
          (fun i H' => Same H3 H' ∧ ∃ (as : List V) (l : List (Int × Int)), H' D = some (.lst as) ∧ DpAll K H' as (l.map pd) ∧ l.length = i ∧ Fair l) ⟨same_new nD, [], [], upd_same, .nil, rfl, Fair.nil⟩
          (fun i H' _ hp => Same.seqT hp.1 sq3) (fun i x H4 hx hp => ?_) (fun H4 hp => ?_)⟩
        · obtain ⟨sm, as, l, hD, hA, hl, hF⟩ := hp
          obtain ⟨o, ho, rfl, ob⟩ := at_os hx
          have hi : i < os.length := (List.getElem?_eq_some_iff.mp ho).1
          refine ⟨rfl, .int d, rfl, .int o, rfl, by show 2 ≤ sizeLine; decide, fun T nT => ⟨as, by rw [upd_ne (ne_of_none hD nT)]; exact hD, ?_, ?_, as ++ [.ref T], l ++ [(d, o)], upd_same, pairs_snoc hA hD nT, ?_, Fair.snoc hF d0 (by omega) ob⟩⟩
          · rw [lc_len hA]
            exact small1000 (by omega)
          · intro a u h
            rw [upd_ne (ne_of_none h nD)]
            exact same_new nT a u (sm a u h)
          · rw [List.length_append, hl]
            rfl
        · obtain ⟨sm, as, l, hD, hA, hl, hF⟩ := hp
          rw [List.length_map] at hl
          exact ⟨D, as, rfl, .inl ⟨.inl (.inl hD), fin H4 D as l (btA.trans (But.of_same sm)) ((bx3.same sm).up (by omega)) hD hA hl hF⟩⟩
      · refine ⟨.int k, rfl, rfl, _, rfl, ite2 (fun e2 => ?_) (fun e2 => ?_)⟩
        · refine ⟨.ref r, rfl, r, _, rfl, sq3, fun D nD => lc_it walk_ent
            (fun i H' => Same H3 H' ∧ ∃ (as : List V) (l : List (Int × Int)), H' D = some (.lst as) ∧ DpAll K H' as (l.map pd) ∧ l.length = i ∧ Fair l) ⟨same_new nD, [], [], upd_same, .nil, rfl, Fair.nil⟩
            (fun i H' _ hp => Same.seqT hp.1 sq3) (fun i x H4 H5 hi hp hy => ?_) (fun H4 hp => ?_)⟩
          · obtain ⟨sm, as, l, hD, hA, hl, hF⟩ := hp
            obtain ⟨R, x, rfl, nR, hx, rfl⟩ := hy
            obtain ⟨o, ho, rfl, ob⟩ := at_os hx
            have hi : i < os.length := (List.getElem?_eq_some_iff.mp ho).1
            have hD4 : (upd H4 R (.tup [.int (i : Nat), .int o])) D = some (.lst as) := by rw [upd_ne (ne_of_none hD nR)]; exact hD
            have hA4 : DpAll K (upd H4 R (.tup [.int (i : Nat), .int o])) as (l.map pd) := pairs_keep hA (Same.keep (same_new nR))
            have hmod0 : 0 ≤ (i : Int) % z := Int.emod_nonneg _ (by omega)
            have hmod1 : (i : Int) % z < z := Int.emod_lt_of_pos _ (by omega)
            refine ⟨R, _, rfl, .inl (.inl upd_same), rfl, _, _, rfl, _, _, rfl, rfl, rfl, .int d, rfl, .int (i : Nat), rfl, .int z, rfl, _, _, rfl, rfl, by show (0 : Int) < z; omega, _, _, rfl, rfl, .int o, rfl, by show 2 ≤ sizeLine; decide,
              fun T nT => ⟨as, by rw [upd_ne (ne_of_none hD4 nT)]; exact hD4, ?_, ?_, as ++ [.ref T], l ++ [(d + (i : Int) % z, o)], upd_same, pairs_snoc hA4 hD4 nT, ?_, Fair.snoc hF (by omega) (by omega) ob⟩⟩
            · rw [lc_len hA]
              exact small1000 (by omega)
            · intro a u h
              rw [upd_ne (ne_of_none h nD)]
              exact same_new nT a u (same_new nR a u (sm a u h))
            · rw [List.length_append, hl]
              rfl
          · obtain ⟨sm, as, l, hD, hA, hl, hF⟩ := hp
            rw [List.length_map] at hl
            exact ⟨D, as, rfl, .inl ⟨.inl (.inl hD), fin H4 D as l (btA.trans (But.of_same sm)) ((bx3.same sm).up (by omega)) hD hA hl hF⟩⟩
        · refine ⟨.ref r, rfl, r, rfl, ⟨_, sq3⟩, fun D nD => lc_tup (K := K) (a := r) (xs := os.map V.int)
            (fun i H' => But b H3 H' ∧ Box (m + 153 + i) H' b ∧ ∃ (as : List V) (l : List (Int × Int)), H' D = some (.lst as) ∧ DpAll K H' as (l.map pd) ∧ l.length = i ∧ Fair l) ⟨But.new nD, bx3.same (same_new nD), [], [], upd_same, .nil, rfl, Fair.nil⟩
            (fun i H' _ hp => But.keep hp.1 bx3 _ _ sq3) (fun i x H4 hx hp => ?_) (fun H4 hp => ?_)⟩
          · obtain ⟨bt4, bx4, as, l, hD, hA, hl, hF⟩ := hp
            obtain ⟨o, ho, rfl, ob⟩ := at_os hx
            have hi : i < os.length := (List.getElem?_eq_some_iff.mp ho).1
            have nDb : D ≠ b := (bx3.ne nD).symm
            refine ⟨rfl, .int d, rfl, .ref b, rfl, .int z, rfl, b, z, _, rfl, by omega, by omega, bx4, by omega, fun d5 H5 e0 e1 bt5 bx5 sm5 => ⟨_, _, rfl, rfl, .int o, rfl, by show 2 ≤ sizeLine; decide, fun T nT => ?_⟩⟩
            have hD5 : H5 D = some (.lst as) := (sm5 D nDb).trans hD
            have nTb : T ≠ b := (bx5.ne nT).symm
            refine ⟨as, by rw [upd_ne (ne_of_none hD5 nT)]; exact hD5, ?_, ?_, ?_, as ++ [.ref T], l ++ [(d + d5, o)], upd_same, pairs_snoc (pairs_keep hA (But.keep bt5 bx4)) hD5 nT, ?_, Fair.snoc hF (by omega) (by omega) ob⟩
            · rw [lc_len hA]
              exact small1000 (by omega)
            · refine but_local nD (bt4.trans bt5) fun a u n1 n2 h => ?_
              rw [upd_ne n2]
              exact same_new nT a u h
            · obtain ⟨x1, x2, x3, g1, g2⟩ := bx5
              exact ⟨x1, x2, x3, by rw [upd_ne nDb.symm, upd_ne nTb.symm]; exact g1, g2.1, by have := g2.2; omega⟩
            · rw [List.length_append, hl]
              rfl
          · obtain ⟨bt4, bx4, as, l, hD, hA, hl, hF⟩ := hp
            rw [List.length_map] at hl
            rw [List.length_map] at bx4
            have hal := lc_len hA
            refine ⟨fun σ H6 => ∃ (as : List V) (l : List (Int × Int)), σ = [some (.ref b), some (.int most), some (.int homes), some (.ref r), some (.int k), some (.int z), some (.int d), some (.ref D), none, none] ∧ But b H H6 ∧ Box (m + 240) H6 b ∧ H6 D = some (.lst as) ∧ DpAll K H6 as (l.map pd) ∧ l.length = os.length ∧ Fair l, ?_, fun σ' H6 hM => ?_⟩
            · refine ⟨.int k, rfl, rfl, _, rfl, ite2 (fun e3 => ?_) (fun e3 => ?_)⟩
              · refine ⟨.ref D, rfl, D, _, rfl, .inl (.inl (.inl hD)), _, _, rfl, rfl, _, rfl, ite2 (fun e4 => ?_) (fun e4 => ?_)⟩
                · have h0 : 0 < l.length := by omega
                  have g0 : as[0]? = some (as[0]'(by omega)) := List.getElem?_eq_getElem (by omega)
                  have gl : as[l.length - 1]? = some (as[l.length - 1]'(by omega)) := List.getElem?_eq_getElem (by omega)
                  have k0 : (l.map pd)[0]? = some (pd (l[0]'(by omega))) := by rw [List.getElem?_map, List.getElem?_eq_getElem (by omega)]; rfl
                  have kl : (l.map pd)[l.length - 1]? = some (pd (l[l.length - 1]'(by omega))) := by rw [List.getElem?_map, List.getElem?_eq_getElem (by omega)]; rfl
                  obtain ⟨a0, ea0, sa0⟩ := pair_at (DpAll.at hA g0 k0)
                  obtain ⟨al, eal, sal⟩ := pair_at (DpAll.at hA gl kl)
                  have f0 := hF _ (List.getElem_mem (show 0 < l.length by omega))
                  have fl := hF _ (List.getElem_mem (show l.length - 1 < l.length by omega))
                  have ix : ixN as.length (-1) = some (l.length - 1) := by
                    unfold ixN
                    rw [if_neg (by decide), if_pos (by omega)]
                    congr 1
                    omega
                  have hat : atI as (-1) = some (.ref al) := by
                    unfold atI
                    rw [ix]
                    exact gl.trans (congrArg some eal)
                  have hat0 : atI as 0 = some (.ref a0) := atI_nat (j := 0) (g0.trans (congrArg some ea0))
                  refine ⟨.ref D, rfl, 1, rfl, D, as, -1, .ref al, rfl, rfl, .inl (.inl hD), hat, al, _, 0, .int (l[l.length - 1]'(by omega)).1, rfl, rfl, sal, rfl, .ref D, rfl, D, as, 0, .ref a0, rfl, rfl, .inl (.inl hD), hat0, a0, _, 1, .int (l[0]'(by omega)).2, rfl, rfl, sa0, rfl,
                    by show 2 ≤ sizeLine; decide, fun T nT => ?_⟩
                  have nDT : D ≠ T := ne_of_none hD nT
                  have hD7 : (upd H4 T (.tup [.int (l[l.length - 1]'(by omega)).1, .int (l[0]'(by omega)).2])) D = some (.lst as) := by rw [upd_ne nDT]; exact hD
                  have nDb : D ≠ b := (bx3.ne nD).symm
                  have nDH : H D = none := by
                    cases hh : H D with
                    | none => rfl
                    | some u =>
                      have := btA D u nDb hh
                      rw [nD] at this
                      cases this
                  refine ⟨.ref D, rfl, 1, rfl, D, as, -1, l.length - 1, rfl, rfl, hD7, ix, as.set (l.length - 1) (.ref T), l.set (l.length - 1) ((l[l.length - 1]'(by omega)).1, (l[0]'(by omega)).2), rfl, ?_, ?_, upd_same, ?_, ?_, ?_⟩
                  · refine but_local nDH (btA.trans bt4) fun a u n1 n2 h => ?_
                    rw [upd_ne n2]
                    exact same_new nT a u h
                  · have nbT := bx4.ne nT
                    obtain ⟨x1, x2, x3, g1, g2⟩ := bx4
                    exact ⟨x1, x2, x3, by rw [upd_ne nDb.symm, upd_ne nbT]; exact g1, g2.1, by have := g2.2; omega⟩
                  · have kk := (Same.keep (K := K) (same_new (o := HO.tup [.int (l[l.length - 1]'(by omega)).1, .int (l[0]'(by omega)).2]) nT)).trans (keep_lst (o := .lst (as.set (l.length - 1) (.ref T))) hD7)
                    rw [List.map_set]
                    refine DpAll.set (.tup (.inl (.inl ?_)) (.cons (.int _) (.cons (.int _) .nil))) _ (pairs_keep hA kk)
                    rw [upd_ne nDT.symm, upd_same]
                  · rw [List.length_set]
                    exact hl
                  · intro y hy
                    rcases List.mem_or_eq_of_mem_set hy with g | g
                    · exact hF y g
                    · rw [g]
                      exact ⟨fl.1, f0.2⟩
                · exact ⟨as, l, rfl, btA.trans bt4, bx4.up (by omega), hD, hA, hl, hF⟩
              · exact ⟨as, l, rfl, btA.trans bt4, bx4.up (by omega), hD, hA, hl, hF⟩
            · obtain ⟨as, l, rfl, bt6, bx6, hD6, hA6, hl6, hF6⟩ := hM
              exact ⟨.ref D, rfl, D, as, rfl, .inl ⟨.inl (.inl hD6), fin H6 D as l bt6 bx6 hD6 hA6 hl6 hF6⟩⟩
end
end Pf
namespace Gk
open PySem PySem.Spec PyProof.Rows L2
/-! ### data whose equality is being the same -/
mutual
def exa : PyData → Bool
  | .none | .int _ | .str _ => true
  | .list xs | .tuple xs => exaAll xs
  | .bool _ | .dict _ => false
def exaAll : List PyData → Bool
  | [] => true
  | x :: xs => exa x && exaAll xs
end
mutual
theorem eqv_exa : ∀ d e : PyData, exa d = true → exa e = true → PyData.eqv d e = true → d = e
  | .none, .none, _, _, _ => rfl
  | .int i, .int j, _, _, h => by
    simp only [PyData.eqv, beq_iff_eq] at h
    rw [h]
  | .str x, .str y, _, _, h => by
    simp only [PyData.eqv, beq_iff_eq] at h
    rw [h]
  | .list xs, .list ys, a, b, h => by
    simp only [PyData.eqv] at h
    rw [eqv_exaAll xs ys (by simpa only [exa] using a) (by simpa only [exa] using b) h]
  | .tuple xs, .tuple ys, a, b, h => by
    simp only [PyData.eqv] at h
    rw [eqv_exaAll xs ys (by simpa only [exa] using a) (by simpa only [exa] using b) h]
  | .none, .int _, _, _, h | .none, .str _, _, _, h | .none, .list _, _, _, h | .none, .tuple _, _, _, h => by simp [PyData.eqv] at h
  | .int _, .none, _, _, h | .int _, .str _, _, _, h | .int _, .list _, _, _, h | .int _, .tuple _, _, _, h => by simp [PyData.eqv] at h
  | .str _, .none, _, _, h | .str _, .int _, _, _, h | .str _, .list _, _, _, h | .str _, .tuple _, _, _, h => by simp [PyData.eqv] at h
  | .list _, .none, _, _, h | .list _, .int _, _, _, h | .list _, .str _, _, _, h | .list _, .tuple _, _, _, h => by simp [PyData.eqv] at h
  | .tuple _, .none, _, _, h | .tuple _, .int _, _, _, h | .tuple _, .str _, _, _, h | .tuple _, .list _, _, _, h => by simp [PyData.eqv] at h
  | .bool _, _, a, _, _ | .dict _, _, a, _, _ => by simp [exa] at a
  | .none, .bool _, _, b, _ | .none, .dict _, _, b, _ | .int _, .bool _, _, b, _ | .int _, .dict _, _, b, _ | .str _, .bool _, _, b, _ | .str _, .dict _, _, b, _ => by simp [exa] at b
  | .list _, .bool _, _, b, _ | .list _, .dict _, _, b, _ | .tuple _, .bool _, _, b, _ | .tuple _, .dict _, _, b, _ => by simp [exa] at b
theorem eqv_exaAll : ∀ xs ys : List PyData, exaAll xs = true → exaAll ys = true → PyData.eqvAll xs ys = true → xs = ys
  | [], [], _, _, _ => rfl
  | x :: xs, y :: ys, a, b, h => by
    simp only [exaAll, Bool.and_eq_true] at a b
    simp only [PyData.eqvAll, Bool.and_eq_true] at h
    rw [eqv_exa x y a.1 b.1 h.1, eqv_exaAll xs ys a.2 b.2 h.2]
  | [], _ :: _, _, _, h => by simp [PyData.eqvAll] at h
  | _ :: _, [], _, _, h => by simp [PyData.eqvAll] at h
end
theorem eqv_same {d : PyData} (h : tame d = true) : PyData.eqv d d = true := SeqAt.eqv_refl d (tame_lay d h)
/-- an item of a row or of a loop -/
structure Item (d : PyData) : Prop where
  e : exa d = true
  t : tups d = true
  m : tame d = true
  dp : d.depth ≤ 1
  c : cost d ≤ 143
def Plain (ds : List PyData) : Prop := ∀ d ∈ ds, Item d
theorem Plain.exa : ∀ {ds : List PyData}, Plain ds → exaAll ds = true
  | [], _ => rfl
  | x :: xs, h => by
    simp only [exaAll, (h x List.mem_cons_self).e, Plain.exa fun z hz => h z (List.mem_cons_of_mem _ hz), Bool.and_self]
theorem Plain.tups : ∀ {ds : List PyData}, Plain ds → tupsAll ds = true
  | [], _ => rfl
  | x :: xs, h => by
    simp only [tupsAll, (h x List.mem_cons_self).t, Plain.tups fun z hz => h z (List.mem_cons_of_mem _ hz), Bool.and_self]
theorem Plain.tame : ∀ {ds : List PyData}, Plain ds → tameAll ds = true
  | [], _ => rfl
  | x :: xs, h => by
    simp only [tameAll, (h x List.mem_cons_self).m, Plain.tame fun z hz => h z (List.mem_cons_of_mem _ hz), Bool.and_self]
theorem Plain.depth : ∀ {ds : List PyData}, Plain ds → PyData.depthAll ds ≤ 1
  | [], _ => Nat.zero_le _
  | x :: xs, h => by
    have h1 := (h x List.mem_cons_self).dp
    have h2 := Plain.depth fun z hz => h z (List.mem_cons_of_mem _ hz)
    simp only [PyData.depthAll]
    omega
theorem Plain.cost : ∀ {ds : List PyData}, Plain ds → costAll ds ≤ 1 + 144 * ds.length
  | [], _ => by decide
  | x :: xs, h => by
    have h1 := (h x List.mem_cons_self).c
    have h2 := Plain.cost fun z hz => h z (List.mem_cons_of_mem _ hz)
    simp only [costAll, List.length_cons]
    omega
theorem Plain.sub {ds es : List PyData} (h : Plain ds) (s : ∀ d ∈ es, d ∈ ds) : Plain es := fun d hd => h d (s d hd)
theorem Plain.take {ds : List PyData} (h : Plain ds) (n : Nat) : Plain (ds.take n) := h.sub fun _ g => List.mem_of_mem_take g
theorem Plain.drop {ds : List PyData} (h : Plain ds) (n : Nat) : Plain (ds.drop n) := h.sub fun _ g => List.mem_of_mem_drop g
theorem Plain.app {ds es : List PyData} (h : Plain ds) (g : Plain es) : Plain (ds ++ es) := fun d hd => (List.mem_append.mp hd).elim (h d) (g d)
theorem Plain.rep {ds : List PyData} (h : Plain ds) (n : Nat) : Plain (List.replicate n ds).flatten := fun x hx => by
  obtain ⟨m, hm, hx⟩ := List.mem_flatten.mp hx
  rw [(List.mem_replicate.mp hm).2] at hx
  exact h x hx
theorem plain_pd {l : List (Int × Int)} (h : Fair l) : Plain (l.map pd) := fun d hd => by
  obtain ⟨x, hx, rfl⟩ := List.mem_map.mp hd
  have g := h x hx
  refine ⟨rfl, rfl, ?_, by simp [pd, PyData.depth, PyData.depthAll], by simp only [pd, Gk.cost, costAll]; omega⟩
  simp only [pd, Gk.tame, tameAll, Bool.and_true, Bool.and_eq_true, decide_eq_true_eq]
  omega
theorem plain_bits {l : List Int} (h : ∀ o ∈ l, o = 0 ∨ o = 1) : Plain (l.map PyData.int) := fun d hd => by
  obtain ⟨x, hx, rfl⟩ := List.mem_map.mp hd
  have g := h x hx
  refine ⟨rfl, rfl, ?_, by simp [PyData.depth], by simp only [Gk.cost]; omega⟩
  simp only [Gk.tame, decide_eq_true_eq]
  omega
theorem Plain.fine {ds : List PyData} (h : Plain ds) (hl : ds.length ≤ 1000) : Fine (.tuple ds) := by
  have h1 := h.depth
  have h2 := h.cost
  refine Fine.tame (by simpa only [Gk.tame] using h.tame) ?_ ?_
  · simp only [PyData.depth]
    omega
  · simp only [Gk.cost]
    omega
theorem Plain.shaped {ds : List PyData} (h : Plain ds) : SeqAt.shaped (.tuple ds) = true := by
  have h1 := h.depth
  refine tame_shaped (by simpa only [Gk.tame] using h.tame) ?_
  simp only [PyData.depth]
  omega
def ItsAt (K : PySem.W.Frag) (H : Hp) (p : Addr) (ds : List PyData) : Prop := Dp K H (.ref p) (.tuple ds)
theorem ItsAt.keep {K : PySem.W.Frag} {H H' : Hp} {p : Addr} {ds : List PyData} (h : ItsAt K H p ds) (hp : Plain ds) (k : Keep K H H') : ItsAt K H' p ds :=
  Dp.keep k _ _ (by simpa only [Gk.tups] using hp.tups) h
theorem ItsAt.out {K : PySem.W.Frag} {H : Hp} {p : Addr} {ds : List PyData} (h : ItsAt K H p ds) : ∃ xs, SqT K H p xs ∧ DpAll K H xs ds ∧ xs.length = ds.length := by
  cases h with
  | tup a b => exact ⟨_, a, b, DpAll.len b⟩
theorem plain_eq {ds es : List PyData} (h : Plain ds) (g : Plain es) : PyData.eqv (.tuple ds) (.tuple es) = true ↔ ds = es :=
  ⟨fun e => PyData.tuple.inj (eqv_exa _ _ (by simpa only [Gk.exa] using h.exa) (by simpa only [Gk.exa] using g.exa) e), fun e => by
    rw [e]
    exact eqv_same (by simpa only [Gk.tame] using g.tame)⟩

/-! ### roots -/
def Rep {α : Type} (l : List α) (s : Nat) : Prop := (List.replicate (l.length / s) (l.take s)).flatten = l
structure RootIs {α : Type} (l : List α) (s : Nat) : Prop where
  lo : 1 ≤ s
  hi : s ≤ l.length
  rep : Rep l s
  least : ∀ t, 1 ≤ t → t < s → ¬ Rep l t
theorem flat_len {α : Type} (n : Nat) (l : List α) : ((List.replicate n l).flatten).length = n * l.length := by
  induction n with
  | zero => simp
  | succ n ih => rw [List.replicate_succ, List.flatten_cons, List.length_append, ih, Nat.succ_mul, Nat.add_comm]
theorem Rep.many {α : Type} {l : List α} {s : Nat} (h : Rep l s) (hs : s ≤ l.length) : s * (l.length / s) = l.length := by
  have e := congrArg List.length h
  rw [flat_len, List.length_take, Nat.min_eq_left hs, Nat.mul_comm] at e
  exact e
theorem RootIs.one {α : Type} {l : List α} {s t : Nat} (a : RootIs l s) (b : RootIs l t) : s = t := by
  by_cases h : s < t
  · exact absurd a.rep (b.least s a.lo h)
  · by_cases g : t < s
    · exact absurd b.rep (a.least t b.lo g)
    · omega
theorem rep_all {α : Type} {l : List α} (h : 1 ≤ l.length) : Rep l l.length := by
  unfold Rep
  rw [Nat.div_self h, List.take_length]
  show [l].flatten = l
  simp
theorem flat_mul {α : Type} (x : List α) (k : Nat) : ∀ m : Nat, (List.replicate m (List.replicate k x).flatten).flatten = (List.replicate (m * k) x).flatten
  | 0 => by simp
  | m + 1 => by
    rw [List.replicate_succ, List.flatten_cons, flat_mul x k m, Nat.succ_mul, Nat.add_comm (m * k) k, ← List.replicate_append_replicate, List.flatten_append]
theorem root_again {α : Type} {l : List α} {s t : Nat} (a : RootIs l s) (b : RootIs (l.take s) t) : t = s := by
  have hl : (l.take s).length = s := by rw [List.length_take]; exact Nat.min_eq_left a.hi
  have ht : t ≤ s := by have := b.hi; rwa [hl] at this
  by_cases h : t < s
  · refine absurd ?_ (a.least t b.lo h)
    have r1 := a.rep
    have r2 := b.rep
    have m1 := Rep.many a.rep a.hi
    have m2 := Rep.many b.rep b.hi
    rw [hl] at m2
    unfold Rep at r1 r2 ⊢
    rw [hl] at r2
    have e1 : l.length / t = l.length / s * (s / t) := by
      have : l.length = t * (l.length / s * (s / t)) := by
        have h2 : t * (s / t) * (l.length / s) = l.length := by
          rw [m2]
          exact m1
        rw [Nat.mul_comm (l.length / s) (s / t), ← Nat.mul_assoc]
        exact h2.symm
      exact Nat.div_eq_of_eq_mul_right b.lo this
    have e2 : (l.take s).take t = l.take t := by rw [List.take_take, Nat.min_eq_left ht]
    rw [e2] at r2
    rw [e1, ← flat_mul, r2, r1]
  · omega
/-! ### turned -/
def rot {α : Type} (l : List α) (k : Nat) : List α := l.drop k ++ l.take k
theorem rot_len {α : Type} (l : List α) (k : Nat) : (rot l k).length = l.length := by
  unfold rot
  rw [List.length_append, List.length_drop, List.length_take]
  omega
theorem rot_at {α : Type} {l : List α} {k i : Nat} (hk : k < l.length) (hi : i < l.length) : (rot l k)[i]? = l[(i + k) % l.length]? := by
  unfold rot
  by_cases h : i < l.length - k
  · rw [List.getElem?_append_left (by rw [List.length_drop]; exact h), List.getElem?_drop, Nat.mod_eq_of_lt (by omega), Nat.add_comm]
  · rw [List.getElem?_append_right (by rw [List.length_drop]; omega), List.length_drop, List.getElem?_take_of_lt (by omega)]
    have : (i + k) % l.length = i - (l.length - k) := by
      rw [Nat.mod_eq_sub_mod (by omega), Nat.mod_eq_of_lt (by omega)]
      omega
    rw [this]
theorem rot_back {α : Type} {l : List α} {j k : Nat} (hk : k < l.length) (h : (j = 0 ∧ k = 0) ∨ j + k = l.length) : rot (rot l k) j = l := by
  rcases h with ⟨rfl, rfl⟩ | h
  · unfold rot
    simp
  · have hj : (l.drop k).length = j := by rw [List.length_drop]; omega
    show (rot l k).drop j ++ (rot l k).take j = l
    unfold rot
    rw [← hj, List.drop_left, List.take_left, List.take_append_drop]
/-! ### rules whose written part is named -/
def rLen2 (K : PySem.W.Frag) : List V → Hp → VK → Prop := fun xs H Q => ∃ p ys, xs = [.ref p] ∧ (SqL K H p ys ∨ SqT K H p ys) ∧ Q (.int ys.length) H
theorem call_lenK {X : Cx} (K : PySem.W.Frag) (h : X.K = K := by rfl) : CallR X (.builtin "len") (rLen2 K) := by
  subst h
  exact call_len_seq
theorem ix_tupK {X : Cx} (K : PySem.W.Frag) (h : X.K = K := by rfl) : IxR X (rIxT K) := by
  subst h
  exact ix_tup
theorem ix_listK {X : Cx} (K : PySem.W.Frag) (h : X.K = K := by rfl) : IxR X (rIxL K) := by
  subst h
  exact ix_list
end Gk
namespace Pf
open PySem PySem.Spec PyProof.Rows L2 Gk
abbrev sRoot : Stmt := topS 9
abbrev sTurn : Stmt := topS 10
theorem scRoot : FnScope ["items", "size", "root"] ["items"] (defScope sRoot) := ⟨rfl, rfl, rfl, by decide +kernel, rfl, by decide +kernel, by decide +kernel⟩
theorem scTurn : FnScope ["trace", "steps", "start"] ["trace", "steps"] (defScope sTurn) := ⟨rfl, rfl, rfl, by decide +kernel, rfl, by decide +kernel, by decide +kernel⟩
section
variable {P : Program} {w : World} {K : PySem.W.Frag} {mg : Str → Option Value} {base : Heap}
def spRoot (K : PySem.W.Frag) : Sp := fun vs H Q _ => ∃ (p : Addr) (ds : List PyData), vs = [.ref p] ∧ ItsAt K H p ds ∧ Plain ds ∧ 1 ≤ ds.length ∧ ds.length ≤ 64 ∧ ∀ H' r s, Same H H' → RootIs ds s → ItsAt K H' r (ds.take s) → Q (.ref r) H'
theorem div_cast (n i : Nat) : ((n : Nat) : Int) / (1 + (i : Int)) = ((n / (1 + i) : Nat) : Int) := by
  rw [Int.natCast_ediv]
  congr 1
theorem rep_parts {K : PySem.W.Frag} {H H1 H2 : Hp} {xs : List V} {ds : List PyData} {r p3 : Addr} {n k : Nat} (hP : Plain ds) (hA : DpAll K H xs ds) (sm : Same H H2) (t : SqT K H2 p3 (List.replicate k (xs.take n)).flatten) :
    Dp K H2 (.ref p3) (.tuple (List.replicate k (ds.take n)).flatten) :=
  .tup t (DpAll.rep (DpAll.take n (DpAll.keep (Same.keep sm) ds xs hP.tups hA)) k)
theorem ok_root {f : Addr} {fd : FuncData} {k0 : Nat} (mr : mg "range" = none) (ml : mg "len" = none) (F : L2.Fun K "root_of" "root_of" sRoot f fd) : FnOk P w K mg base L2.CX0 1 f fd ["items"] (spRoot K) := by
  refine F.ok scRoot (fun vs H Q E h => ?_) (fun cdv A outer s H vs Q E hr h => ?_)
  · obtain ⟨p, ds, rfl, _⟩ := h
    rfl
  · obtain ⟨p, ds, rfl, hI, hP, l1, l2, q⟩ := h
    obtain ⟨xs, sq, hA, hlen⟩ := hI.out
    refine ⟨_, pss_cons (ps_for PassesOwn.never rfl (pi_range2 (by rfl) mr (pa_cons pe_int (pa_cons (pe_callB call_len_seq (by rfl) ml PySem.boot_len (pa_cons (pv 0) pa_nil)) pa_nil))) (pg_name (i := 1) scRoot.nd rfl (.inl rfl))
        (pss_cons (ps_set (i := 2) scRoot.nd rfl (.inl rfl) (pe_slice sl_tupU (pv 0) po_none (po_some (pv 1))))
        (pss_one (ps_if (pt_cmpR (op_eqD hr.units) (pe_op op_repU (pv 2) (pe_op op_fdiv (pe_callB call_len_seq (by rfl) ml PySem.boot_len (pa_cons (pv 0) pa_nil)) (pv 1))) (pv 0) (nomark _)) (pss_one (ps_ret (pv 2))) pss_nil))))
      (pss_one (ps_ret (pv 0))), ?_⟩
    refine ⟨.ref p, rfl, p, xs, rfl, .inr sq, _, _, rfl, ⟨by decide, by decide, by omega, by omega⟩, for_range (lo := 1) (n := ((xs.length : Int) - 1).toNat)
      (fun i σ H' => Same H H' ∧ (∃ y1 y2, σ = [some (.ref p), y1, y2]) ∧ ∀ t, 1 ≤ t → t < 1 + i → ¬ Rep ds t) ⟨Same.refl H, ⟨none, none, rfl⟩, fun t a b => by omega⟩ (fun i σ H1 hi hp => ?_) (fun σ H1 hp => ?_)⟩
    · obtain ⟨sm, ⟨y1, y2, rfl⟩, no⟩ := hp
      have sq1 := Same.seqT sm sq
      refine ⟨.ref p, rfl, .int (1 + (i : Nat)), rfl, 1 + (i : Nat), rfl, p, xs, rfl, sq1, fun r H2 s2 t2 => ?_⟩
      have ec : cutV xs none (some (1 + (i : Int))) = xs.take (1 + i) := by
        have := cut_to (xs := xs) (1 + i)
        rwa [show ((1 + i : Nat) : Int) = 1 + (i : Int) by omega] at this
      rw [ec] at t2
      have hne : xs.take (1 + i) ≠ [] := fun z => by
        have g : (xs.take (1 + i)).length = 0 := by rw [z]; rfl
        rw [List.length_take] at g
        omega
      have ek : (((xs.length : Nat) : Int) / (1 + (i : Int))) = ((ds.length / (1 + i) : Nat) : Int) := by rw [hlen]; exact div_cast _ _
      have kle : ds.length / (1 + i) ≤ 64 := Nat.le_trans (Nat.div_le_self _ _) l2
      refine ⟨.ref r, rfl, .ref p, rfl, p, xs, rfl, .inr (Same.seqT s2 sq1), .int (1 + (i : Nat)), rfl, _, _, rfl, rfl, ⟨by omega, by omega⟩, r, _, xs.take (1 + i), rfl, rfl, t2, hne, ?_, ?_, ?_, fun p3 H3 s3 t3 => ?_⟩
      · rw [ek]; exact Int.natCast_nonneg _
      · rw [ek]; exact Int.ofNat_le.mpr (Nat.le_trans kle (by decide))
      · rw [List.length_take]; omega
      · rw [ek, Int.toNat_natCast] at t3
        have smA : Same H H3 := (sm.trans s2).trans s3
        have hd := rep_parts (H1 := H) (r := r) hP hA smA t3
        have pl := (hP.take (1 + i)).rep (ds.length / (1 + i))
        refine ⟨.ref p, rfl, _, _, hd, hI.keep hP (Same.keep smA), pl.shaped, hP.shaped, _, rfl, ite2 (fun e => ?_) (fun e => ?_)⟩
        · have er : Rep ds (1 + i) := (plain_eq pl hP).mp e
          refine ⟨.ref r, rfl, q H3 r (1 + i) smA ⟨by omega, by omega, er, no⟩ (.tup (Same.seqT s3 t2) (DpAll.take _ (DpAll.keep (Same.keep smA) ds xs hP.tups hA)))⟩
        · refine ⟨smA, ⟨_, _, rfl⟩, fun t a b => ?_⟩
          by_cases z : t = 1 + i
          · rw [z]
            exact fun er => e ((plain_eq pl hP).mpr er)
          · exact no t a (by omega)
    · obtain ⟨sm, ⟨y1, y2, rfl⟩, no⟩ := hp
      refine ⟨.ref p, rfl, q H1 p ds.length sm ⟨l1, Nat.le_refl _, rep_all l1, fun t a b => no t a (by omega)⟩ ?_⟩
      rw [List.take_length]
      exact hI.keep hP (Same.keep sm)
def spTurn (K : PySem.W.Frag) : Sp := fun vs H Q _ => ∃ (p : Addr) (l : List (Int × Int)) (k : Int), vs = [.ref p, .int k] ∧ PairsAt K H p l ∧ 1 ≤ l.length ∧ l.length ≤ 64 ∧ ∀ H' r, Same H H' → PairsAt K H' r (rot l (k % l.length).toNat) → Q (.ref r) H'
theorem ok_turn {f : Addr} {fd : FuncData} (ml : mg "len" = none) (F : L2.Fun K "turned" "turned" sTurn f fd) : FnOk P w K mg base L2.CX0 1 f fd ["trace", "steps"] (spTurn K) := by
  refine F.ok scTurn (fun vs H Q E h => ?_) (fun cdv A outer s H vs Q E hr h => ?_)
  · obtain ⟨p, l, k, rfl, _⟩ := h
    rfl
  · obtain ⟨p, l, k, rfl, hI, l1, l2, q⟩ := h
    obtain ⟨xs, sq, hA, hlen⟩ := ItsAt.out hI
    rw [List.length_map] at hlen
    refine ⟨_, pss_cons (ps_set (i := 2) scTurn.nd rfl (.inl rfl) (pe_op op_mod (pv 1) (pe_callB call_len_seq (by rfl) ml PySem.boot_len (pa_cons (pv 0) pa_nil))))
      (pss_one (ps_ret (pe_op op_catU (pe_slice sl_tupU (pv 0) (po_some (pv 2)) po_none) (pe_slice sl_tupU (pv 0) po_none (po_some (pv 2)))))), ?_⟩
    have m0 : 0 ≤ k % (xs.length : Int) := Int.emod_nonneg _ (by omega)
    have m1 : k % (xs.length : Int) < xs.length := Int.emod_lt_of_pos _ (by omega)
    refine ⟨.int k, rfl, .ref p, rfl, p, xs, rfl, .inr sq, _, _, rfl, rfl, by show (0 : Int) < xs.length; omega, ?_⟩
    refine ⟨.ref p, rfl, _, rfl, _, rfl, p, xs, rfl, sq, fun r1 H1 s1 t1 => ?_⟩
    refine ⟨.ref p, rfl, _, rfl, _, rfl, p, xs, rfl, Same.seqT s1 sq, fun r2 H2 s2 t2 => ?_⟩
    have e1 : cutV xs (some (k % (xs.length : Int))) none = xs.drop (k % (xs.length : Int)).toNat := by
      have := cut_from (xs := xs) (k % (xs.length : Int)).toNat
      rwa [Int.toNat_of_nonneg m0] at this
    have e2 : cutV xs none (some (k % (xs.length : Int))) = xs.take (k % (xs.length : Int)).toNat := by
      have := cut_to (xs := xs) (k % (xs.length : Int)).toNat
      rwa [Int.toNat_of_nonneg m0] at this
    rw [e1] at t1
    rw [e2] at t2
    refine ⟨r1, r2, _, _, rfl, rfl, Same.seqT s2 t1, t2, ?_, fun r3 H3 s3 t3 => ?_⟩
    · rw [List.length_drop, List.length_take]
      exact Nat.le_trans (show _ ≤ 1000 by omega) (by decide)
    · have smA : Same H H3 := (s1.trans s2).trans s3
      refine q H3 r3 smA (.tup t3 ?_)
      have hA3 := pairs_keep hA (Same.keep smA)
      unfold rot
      rw [List.map_append, List.map_drop, List.map_take, ← hlen]
      exact DpAll.app (DpAll.drop _ hA3) (DpAll.take _ hA3)
end
end Pf
namespace Gk
open PySem PySem.Spec PyProof.Rows L2
/-! ### values of any kind: data with lists and dicts, away from what changes -/
mutual
inductive Dv (M : Addr → Prop) (K : PySem.W.Frag) (H : Hp) : V → PyData → Prop
  | non : Dv M K H .non .none
  | bl (b : Bool) : Dv M K H (.bl b) (.bool b)
  | int (i : Int) : Dv M K H (.int i) (.int i)
  | str (x : Str) : Dv M K H (.str x) (.str x)
  | lst {a : Addr} {xs : List V} {ds : List PyData} : H a = some (.lst xs) → ¬ M a → (a == sysModules) = false → DvAll M K H xs ds → Dv M K H (.ref a) (.list ds)
  | tup {a : Addr} {xs : List V} {ds : List PyData} : Rd H a (.tup xs) → ¬ M a → DvAll M K H xs ds → Dv M K H (.ref a) (.tuple ds)
  | tupK {a : Addr} {xs : List V} {ds : List PyData} : (∃ (o : Obj) (its : Array Value) (n : Nat), K.lookup a = some o ∧ o.cls = .type "tuple" ∧ o.data = .seq its n ∧ its.size ≤ sizeLine ∧ Vals xs its.toList) → DvAll M K H xs ds → Dv M K H (.ref a) (.tuple ds)
  | dct {a : Addr} {kvs : List (Key × V)} {ks : List Str} {xs : List V} {ds : List PyData} : H a = some (.dK kvs) → ¬ M a → kvs = (ks.map Sum.inr).zip xs → ks.length = ds.length → DvAll M K H xs ds →
      Dv M K H (.ref a) (.dict ((ks.map PyData.str).zip ds))
inductive DvAll (M : Addr → Prop) (K : PySem.W.Frag) (H : Hp) : List V → List PyData → Prop
  | nil : DvAll M K H [] []
  | cons {v : V} {vs : List V} {d : PyData} {ds : List PyData} : Dv M K H v d → DvAll M K H vs ds → DvAll M K H (v :: vs) (d :: ds)
end
/-- what does not belong to M stays -/
def Off (M : Addr → Prop) (H H' : Hp) : Prop := ∀ a o, ¬ M a → H a = some o → H' a = some o
theorem Off.refl {M : Addr → Prop} {H : Hp} : Off M H H := fun _ _ _ h => h
theorem Off.trans {M : Addr → Prop} {H H1 H2 : Hp} (x : Off M H H1) (y : Off M H1 H2) : Off M H H2 := fun a o n h => y a o n (x a o n h)
theorem Off.same {M : Addr → Prop} {H H' : Hp} (s : Same H H') : Off M H H' := fun a o _ h => s a o h
theorem Off.but {M : Addr → Prop} {H H' : Hp} {b : Addr} (s : But b H H') (hb : M b) : Off M H H' := fun a o n h => s a o (fun z => n (by rw [z]; exact hb)) h
theorem Off.mut {M : Addr → Prop} {H : Hp} {D : Addr} {o : HO} (hb : M D) : Off M H (upd H D o) := fun a u n h => by
  rw [upd_ne (fun z => n (by rw [z]; exact hb))]
  exact h
theorem Off.rd {M : Addr → Prop} {H H' : Hp} {a : Addr} {o : HO} (k : Off M H H') (n : ¬ M a) (h : Rd H a o) : Rd H' a o := h.elim (fun h => .inl (k _ _ n h)) fun ⟨ob, h⟩ => .inr ⟨ob, k _ _ n h⟩
theorem rd_some {H : Hp} {a : Addr} {o : HO} (h : Rd H a o) : ∃ u, H a = some u := h.elim (fun h => ⟨_, h⟩) fun ⟨ob, h⟩ => ⟨_, h⟩
mutual
theorem Dv.keep {M M' : Addr → Prop} {K : PySem.W.Frag} {H H' : Hp} (k : Off M H H') (m : ∀ a o, H a = some o → ¬ M a → ¬ M' a) : ∀ {v : V} {d : PyData}, Dv M K H v d → Dv M' K H' v d
  | _, _, .non => .non
  | _, _, .bl b => .bl b
  | _, _, .int i => .int i
  | _, _, .str x => .str x
  | _, _, .lst h n s r => .lst (k _ _ n h) (m _ _ h n) s (DvAll.keep k m r)
  | _, _, .tup h n r => .tup (k.rd n h) (let ⟨_, e⟩ := rd_some h; m _ _ e n) (DvAll.keep k m r)
  | _, _, .tupK h r => .tupK h (DvAll.keep k m r)
  | _, _, .dct h n e l r => .dct (k _ _ n h) (m _ _ h n) e l (DvAll.keep k m r)
theorem DvAll.keep {M M' : Addr → Prop} {K : PySem.W.Frag} {H H' : Hp} (k : Off M H H') (m : ∀ a o, H a = some o → ¬ M a → ¬ M' a) : ∀ {vs : List V} {ds : List PyData}, DvAll M K H vs ds → DvAll M' K H' vs ds
  | _, _, .nil => .nil
  | _, _, .cons h t => .cons (Dv.keep k m h) (DvAll.keep k m t)
end
section
variable {M : Addr → Prop} {K : PySem.W.Frag} {H H' : Hp}
theorem Dv.off {v : V} {d : PyData} (h : Dv M K H v d) (k : Off M H H') : Dv M K H' v d := h.keep k fun _ _ _ n => n
theorem DvAll.off {vs : List V} {ds : List PyData} (h : DvAll M K H vs ds) (k : Off M H H') : DvAll M K H' vs ds := h.keep k fun _ _ _ n => n
theorem DvAll.len : ∀ {vs : List V} {ds : List PyData}, DvAll M K H vs ds → vs.length = ds.length
  | _, _, .nil => rfl
  | _, _, .cons _ t => by rw [List.length_cons, List.length_cons, DvAll.len t]
theorem DvAll.take : ∀ {vs : List V} {ds : List PyData} (n : Nat), DvAll M K H vs ds → DvAll M K H (vs.take n) (ds.take n)
  | _, _, 0, _ => .nil
  | _, _, _ + 1, .nil => .nil
  | _, _, n + 1, .cons h t => .cons h (DvAll.take n t)
theorem DvAll.drop : ∀ {vs : List V} {ds : List PyData} (n : Nat), DvAll M K H vs ds → DvAll M K H (vs.drop n) (ds.drop n)
  | _, _, 0, h => h
  | _, _, _ + 1, .nil => .nil
  | _, _, n + 1, .cons _ t => DvAll.drop n t
theorem DvAll.app : ∀ {vs us : List V} {ds es : List PyData}, DvAll M K H vs ds → DvAll M K H us es → DvAll M K H (vs ++ us) (ds ++ es)
  | _, _, _, _, .nil, h => h
  | _, _, _, _, .cons h t, h2 => .cons h (DvAll.app t h2)
theorem DvAll.rev : ∀ {vs : List V} {ds : List PyData}, DvAll M K H vs ds → DvAll M K H vs.reverse ds.reverse
  | _, _, .nil => .nil
  | _, _, .cons h t => by
    rw [List.reverse_cons, List.reverse_cons]
    exact DvAll.app (DvAll.rev t) (.cons h .nil)
theorem DvAll.at : ∀ {vs : List V} {ds : List PyData} {i : Nat} {v : V}, DvAll M K H vs ds → vs[i]? = some v → ∃ d, ds[i]? = some d ∧ Dv M K H v d
  | _, _, _, _, .nil, h => by simp at h
  | _, _, 0, _, .cons h _, e => by
    obtain rfl := Option.some.inj e
    exact ⟨_, rfl, h⟩
  | _, _, i + 1, _, .cons _ t, e => DvAll.at (i := i) t (by simpa using e)
end
/-- the keys and the values of a dict's entries, as they are read -/
theorem pairs_reads {P : Program} {w : World} {h : Heap} : ∀ {es : List DictEntry} {ks : List Str} {xs : List V} {vs : List (Key × Value)} {us : List Value}, ks.length = xs.length → KV ((ks.map Sum.inr).zip xs) vs → Pairs (mixKind P w) es vs →
    (∃ us, Vals xs us ∧ es.map (·.val) = us) ∧ ReadsAll h (es.map (·.key)) (ks.map PyData.str) []
  | es, [], [], vs, us, _, r, p => by
    cases r
    cases p
    exact ⟨⟨[], .nil, rfl⟩, .nil⟩
  | es, k :: ks, x :: xs, vs, us, l, r, p => by
    cases r with
    | cons r1 r2 =>
      cases p with
      | cons p1 p2 p3 =>
        obtain ⟨⟨us', v', e'⟩, rd⟩ := pairs_reads (us := []) (by simpa using l) r2 p3
        obtain ⟨r1a, r1b⟩ := r1
        refine ⟨⟨_ :: us', .cons r1b v', by rw [List.map_cons, e', p2]⟩, ?_⟩
        rw [← r1a] at p1
        have p1' : Value.isStrOf k _ = true := p1
        obtain ⟨t, et⟩ := Value.isStrOf_shape p1'
        rw [List.map_cons, List.map_cons, et]
        exact ReadsAll.cons (as := []) (bs := []) (Reads.str k t) rd
  | _, [], _ :: _, _, _, l, _, _ => by simp at l
  | _, _ :: _, [], _, _, l, _, _ => by simp at l
section
variable {X : Cx} {M : Addr → Prop} {pins : List (Addr × Obj)} {σ : L2.St} {H : Hp} {s : Shared}
mutual
theorem Dv.reads (I : Inv X pins σ H s) : ∀ {v : V} {d : PyData} {u : Value}, Dv M X.K H v d → RelV v u → ∃ as, Reads s.heap u d as ∧ sysModules ∉ as
  | _, _, u, .non, r => by cases r; exact ⟨[], .none, fun z => nomatch z⟩
  | _, _, u, .bl b, r => by cases r; exact ⟨[], .bool b, fun z => nomatch z⟩
  | _, _, u, .int i, r => by obtain ⟨t, rfl⟩ := r; exact ⟨[], .int i t, fun z => nomatch z⟩
  | _, _, u, .str x, r => by obtain ⟨t, rfl⟩ := r; exact ⟨[], .str x t, fun z => nomatch z⟩
  | _, _, u, .lst (a := a) h n sm ra, r => by
    cases r
    obtain ⟨hz, its, k, rv, ho⟩ := I.hok _ _ h
    obtain ⟨as, rd, na⟩ := DvAll.reads I ra rv
    refine ⟨a :: as, .list ho rfl rfl (by simpa using rd), fun z => ?_⟩
    rcases List.mem_cons.mp z with z | z
    · rw [z] at sm
      exact absurd sm (by simp)
    · exact na z
  | _, _, u, .tup h n ra, r => by
    cases r
    obtain ⟨its, rv, ⟨o, ho, hc, k, hd⟩, _⟩ := I.tuple (.inl h)
    obtain ⟨as, rd, na⟩ := DvAll.reads I ra rv
    exact ⟨as, .tuple ho hc hd (by simpa using rd), na⟩
  | _, _, u, .tupK h ra, r => by
    cases r
    obtain ⟨its, rv, ⟨o, ho, hc, k, hd⟩, _⟩ := I.tuple (.inr h)
    obtain ⟨as, rd, na⟩ := DvAll.reads I ra rv
    exact ⟨as, .tuple ho hc hd (by simpa using rd), na⟩
  | _, _, u, .dct (a := a) (ks := ks) (xs := xs) h n e l ra, r => by
    cases r
    obtain ⟨hz, sm, vs, kv, o, es, ep, ho, ex, hd, _, ps, _⟩ := I.hok _ _ h
    rw [e] at kv
    have hl := DvAll.len ra
    obtain ⟨⟨us, vu, eu⟩, rk⟩ := pairs_reads (P := X.prog) (w := X.w) (h := s.heap) (us := []) (l.trans hl.symm) kv ps
    obtain ⟨as, rd, na⟩ := DvAll.reads I ra vu
    rw [← eu] at rd
    refine ⟨a :: [] ++ as, .dict ho ex.1 hd ?_ ?_, fun z => ?_⟩
    · rw [List.map_fst_zip (by rw [List.length_map]; omega)]
      exact rk
    · rw [List.map_snd_zip (by rw [List.length_map]; omega)]
      exact rd
    · rcases List.mem_cons.mp z with z | z
      · rw [z] at sm
        exact absurd sm (by simp)
      · exact na z
theorem DvAll.reads (I : Inv X pins σ H s) : ∀ {vs : List V} {ds : List PyData} {us : List Value}, DvAll M X.K H vs ds → Vals vs us → ∃ as, ReadsAll s.heap us ds as ∧ sysModules ∉ as
  | _, _, _, .nil, r => by cases r; exact ⟨[], .nil, fun z => nomatch z⟩
  | _, _, _, .cons h t, r => by
    cases r with
    | cons r1 r2 =>
      obtain ⟨as, q1, n1⟩ := Dv.reads I h r1
      obtain ⟨bs, q2, n2⟩ := DvAll.reads I t r2
      exact ⟨as ++ bs, .cons q1 q2, fun z => (List.mem_append.mp z).elim n1 n2⟩
end
end
end Gk
namespace Gk
open PySem PySem.Spec PyProof.Rows L2
mutual
def fin : PyData → Nat → Bool
  | .none, _ | .bool _, _ => true
  | .int i, B => decide (i.natAbs ≤ B)
  | .str x, _ => x.cps.all (· < 0x110000)
  | .list xs, B | .tuple xs, B => finAll xs B
  | .dict kvs, B => finKv kvs B
def finAll : List PyData → Nat → Bool
  | [], _ => true
  | x :: xs, B => fin x B && finAll xs B
def finKv : List (PyData × PyData) → Nat → Bool
  | [], _ => true
  | (k, v) :: r, B => fin k B && fin v B && finKv r B
end
mutual
def big : PyData → Nat
  | .none | .bool _ | .int _ => 70
  | .str x => x.cps.size + 1
  | .list xs | .tuple xs => bigAll xs
  | .dict kvs => bigKv kvs
def bigAll : List PyData → Nat
  | [] => 1
  | x :: xs => big x + 1 + bigAll xs
def bigKv : List (PyData × PyData) → Nat
  | [] => 1
  | (k, v) :: r => big k + big v + 2 + bigKv r
end
mutual
theorem fin_facts {B : Nat} (hB : B < 10 ^ 20) : ∀ d : PyData, fin d B = true → d.showable = true ∧ d.leavesShort 21 = true ∧ d.weight ≤ big d
  | .none, _ => ⟨rfl, rfl, Nat.zero_le _⟩
  | .bool _, _ => ⟨rfl, rfl, Nat.zero_le _⟩
  | .int i, h => by
    simp only [fin, decide_eq_true_eq] at h
    have h1 := int_log20 (c := i) (by omega)
    have h2 := int_len20 (c := i) (by omega)
    refine ⟨?_, ?_, ?_⟩
    · simp only [PyData.showable]
      exact decide_eq_true (by omega)
    · simp only [PyData.leavesShort]
      exact decide_eq_true h2
    · simp only [PyData.weight, big]
      split <;> omega
  | .str x, h => by
    have h1 : tame (.str x) = true := by simpa only [fin, tame] using h
    exact ⟨rfl, tame_short _ h1, by simp only [PyData.weight, big]; omega⟩
  | .list xs, h => by
    have := fin_factsAll hB xs (by simpa only [fin] using h)
    simpa only [PyData.showable, PyData.leavesShort, PyData.weight, big] using this
  | .tuple xs, h => by
    have := fin_factsAll hB xs (by simpa only [fin] using h)
    simpa only [PyData.showable, PyData.leavesShort, PyData.weight, big] using this
  | .dict kvs, h => by
    have := fin_factsKv hB kvs (by simpa only [fin] using h)
    simpa only [PyData.showable, PyData.leavesShort, PyData.weight, big] using this
theorem fin_factsAll {B : Nat} (hB : B < 10 ^ 20) : ∀ ds : List PyData, finAll ds B = true → PyData.showableAll ds = true ∧ PyData.leavesShortAll 21 ds = true ∧ PyData.weightAll ds ≤ bigAll ds
  | [], _ => ⟨rfl, rfl, Nat.zero_le _⟩
  | x :: xs, h => by
    simp only [finAll, Bool.and_eq_true] at h
    obtain ⟨a1, a2, a3⟩ := fin_facts hB x h.1
    obtain ⟨b1, b2, b3⟩ := fin_factsAll hB xs h.2
    refine ⟨by simp only [PyData.showableAll, a1, b1, Bool.and_self], by simp only [PyData.leavesShortAll, a2, b2, Bool.and_self], ?_⟩
    simp only [PyData.weightAll, bigAll]
    omega
theorem fin_factsKv {B : Nat} (hB : B < 10 ^ 20) : ∀ kvs : List (PyData × PyData), finKv kvs B = true → PyData.showableKv kvs = true ∧ PyData.leavesShortKv 21 kvs = true ∧ PyData.weightKv kvs ≤ bigKv kvs
  | [], _ => ⟨rfl, rfl, Nat.zero_le _⟩
  | (k, v) :: r, h => by
    simp only [finKv, Bool.and_eq_true] at h
    obtain ⟨a1, a2, a3⟩ := fin_facts hB k h.1.1
    obtain ⟨c1, c2, c3⟩ := fin_facts hB v h.1.2
    obtain ⟨b1, b2, b3⟩ := fin_factsKv hB r h.2
    refine ⟨by simp only [PyData.showableKv, a1, b1, c1, Bool.and_self], by simp only [PyData.leavesShortKv, a2, b2, c2, Bool.and_self], ?_⟩
    simp only [PyData.weightKv, bigKv]
    omega
end
/-- data that may be shown, of any kind -/
structure Show (d : PyData) : Prop where
  a : d.showable = true
  c : d.depth ≤ 40
  e : d.shown.length ≤ sizeLine
theorem Show.of {d : PyData} {B : Nat} (hB : B < 10 ^ 20) (h : fin d B = true) (hd : d.depth ≤ 40) (hc : big d ≤ 500000) : Show d := by
  obtain ⟨a1, a2, a3⟩ := fin_facts hB d h
  refine ⟨a1, hd, ?_⟩
  have h1 := PyData.shown_le 21 (by decide) d a2
  have h3 : sizeLine = 16777216 := sizeLine_eq
  omega
theorem call_reprV {X : Cx} {k : Nat} (M : Addr → Prop) (hr : Room k X.A) (hg : X.A.guards = some []) : CallR X (.builtin "repr") (fun xs H Q => ∃ v d, xs = [v] ∧ Dv M X.K H v d ∧ Show d ∧ Q (.str d.shown) H) := by
  intro pins s σ H xs us Q I r h
  obtain ⟨v, d, rfl, hd, sh, q⟩ := h
  obtain ⟨u, rfl, ru⟩ := vals1 r
  have hun := hr.units
  have hc := sh.c
  obtain ⟨as, rd, na⟩ := Dv.reads I hd ru
  cases hd with
  | non =>
    cases ru
    exact PySem.P.repr_of_none ⟨.str _, H, I.tok _, ⟨_, rfl⟩, q⟩
  | bl b =>
    cases ru
    exact PySem.P.repr_of_bool ⟨.str _, H, I.tok _, ⟨_, rfl⟩, q⟩
  | int i =>
    obtain ⟨t, rfl⟩ := ru
    exact PySem.P.repr_of_int (of_decide_eq_true sh.a) ⟨.str _, H, I.tok _, ⟨_, rfl⟩, q⟩
  | str x =>
    obtain ⟨t, rfl⟩ := ru
    exact PySem.P.repr_of_str ⟨.str _, H, I.tok _, ⟨_, rfl⟩, q⟩ sh.e
  | lst _ _ _ _ =>
    cases ru
    exact repr_of_reads' rd sh.a (fun _ => na) hg (by omega) (fun _ _ e => e) (fun h' t tk hk => ⟨.str _, H, I.kept (t' := tk) hk, ⟨_, rfl⟩, q⟩) sh.e
  | tupK _ _ =>
    cases ru
    exact repr_of_reads' rd sh.a (fun _ => na) hg (by omega) (fun _ _ e => e) (fun h' t tk hk => ⟨.str _, H, I.kept (t' := tk) hk, ⟨_, rfl⟩, q⟩) sh.e
  | tup _ _ _ =>
    cases ru
    exact repr_of_reads' rd sh.a (fun _ => na) hg (by omega) (fun _ _ e => e) (fun h' t tk hk => ⟨.str _, H, I.kept (t' := tk) hk, ⟨_, rfl⟩, q⟩) sh.e
  | dct _ _ _ _ _ =>
    cases ru
    exact repr_of_reads' rd sh.a (fun _ => na) hg (by omega) (fun _ _ e => e) (fun h' t tk hk => ⟨.str _, H, I.kept (t' := tk) hk, ⟨_, rfl⟩, q⟩) sh.e
/-- a list of written items, its place told apart from the table of modules -/
def tLstN (t : TA) : TE := fun σ H Q => t σ H fun xs H1 => xs.length ≤ sizeLine ∧ ∀ p, H1 p = none → (p == sysModules) = false → Q (.ref p) (upd H1 p (.lst xs))
theorem not_modules {X : Cx} {pins : List (Addr × Obj)} {σ : L2.St} {H : Hp} {s : Shared} (I : Inv X pins σ H s) : (s.heap.objs.size == sysModules) = false := beq_eq_false_iff_ne.mpr (Nat.ne_of_gt I.big)
theorem pe_lstN {X : Cx} {es : List Expr} {t : TA} {pos : Pos} (h : PA X es t) : PE X (.List es pos) (tLstN t) :=
  ⟨fun pins s σ H Q I hq => wpAny_List_spliced (thn (h.run pos pins s σ H _ I hq) fun us s1 ⟨xs, H1, I1, r, z, q⟩ => ⟨by rw [← r.length]; exact z, .ref s1.heap.objs.size, upd H1 s1.heap.objs.size (.lst xs),
    I1.laid (t' := s1.toks) (fun b u e => Heap.get?_push_of_some _ e) (Nat.le_refl _) ⟨z, us, 0, r, Heap.get?_push_size _ rfl⟩, rfl, q _ (I1.hok.fresh (Nat.le_refl _)) (not_modules I1)⟩)⟩
/-- what isinstance says of such a value -/
def tyD : PyData → Value
  | .none => .type "NoneType"
  | .bool _ => .type "bool"
  | .int _ => .type "int"
  | .str _ => .type "str"
  | .list _ => .type "list"
  | .tuple _ => .type "tuple"
  | .dict _ => .type "dict"
theorem Dv.ty {M : Addr → Prop} {K : PySem.W.Frag} {H : Hp} {v : V} {d : PyData} (h : Dv M K H v d) : TyX K H v (tyD d) := by
  cases h with
  | non => exact .base .non
  | bl b => exact .base (.bl b)
  | int i => exact .base (.int i)
  | str x => exact .base (.str x)
  | lst h _ _ _ => exact .base (.lst h)
  | tup h _ _ =>
    rcases h with h | ⟨o, h⟩
    · exact .base (.tup h)
    · exact .fTuple h
  | tupK h _ =>
    obtain ⟨o, _, _, e, c, _⟩ := h
    exact .kTuple e c
  | dct h _ _ _ _ => exact .base (.dK h)
def isTup : PyData → Bool
  | .tuple _ => true
  | _ => false
def isIn : PyData → Bool
  | .int _ | .bool _ => true
  | _ => false
def isBo : PyData → Bool
  | .bool _ => true
  | _ => false
theorem kit_tup {K : PySem.W.Frag} (d : PyData) : PySem.W.kitOne K (tyD d) (.type "tuple") = some (isTup d) := by
  have t : ∀ x ∈ ["NoneType", "bool", "int", "str", "list", "dict"], kitB x "tuple" = some false := by decide +kernel
  cases d with
  | none => exact L2.kit_ty (t "NoneType" (by decide))
  | bool _ => exact L2.kit_ty (t "bool" (by decide))
  | int _ => exact L2.kit_ty (t "int" (by decide))
  | str _ => exact L2.kit_ty (t "str" (by decide))
  | list _ => exact L2.kit_ty (t "list" (by decide))
  | dict _ => exact L2.kit_ty (t "dict" (by decide))
  | tuple _ => exact L2.kit_ty (show kitB "tuple" "tuple" = some true by decide +kernel)
theorem kit_int {K : PySem.W.Frag} (d : PyData) : PySem.W.kitOne K (tyD d) (.type "int") = some (isIn d) := by
  have t : ∀ x ∈ ["NoneType", "str", "list", "tuple", "dict"], kitB x "int" = some false := by decide +kernel
  have u : ∀ x ∈ ["bool", "int"], kitB x "int" = some true := by decide +kernel
  cases d with
  | none => exact L2.kit_ty (t "NoneType" (by decide))
  | bool _ => exact L2.kit_ty (u "bool" (by decide))
  | int _ => exact L2.kit_ty (u "int" (by decide))
  | str _ => exact L2.kit_ty (t "str" (by decide))
  | list _ => exact L2.kit_ty (t "list" (by decide))
  | dict _ => exact L2.kit_ty (t "dict" (by decide))
  | tuple _ => exact L2.kit_ty (t "tuple" (by decide))
theorem kit_bool {K : PySem.W.Frag} (d : PyData) : PySem.W.kitOne K (tyD d) (.type "bool") = some (isBo d) := by
  have t : ∀ x ∈ ["NoneType", "int", "str", "list", "tuple", "dict"], kitB x "bool" = some false := by decide +kernel
  cases d with
  | none => exact L2.kit_ty (t "NoneType" (by decide))
  | int _ => exact L2.kit_ty (t "int" (by decide))
  | str _ => exact L2.kit_ty (t "str" (by decide))
  | list _ => exact L2.kit_ty (t "list" (by decide))
  | dict _ => exact L2.kit_ty (t "dict" (by decide))
  | tuple _ => exact L2.kit_ty (t "tuple" (by decide))
  | bool _ => exact L2.kit_ty (show kitB "bool" "bool" = some true by decide +kernel)
end Gk
namespace Gk
open PySem PySem.Spec PyProof.Rows L2
/-! ### expressions that make data -/
theorem same_new2 {H : Hp} {p : Addr} {o o' : HO} (h : H p = none) : Same H (upd (upd H p o) p o') := fun a u e => by
  rw [upd_ne (ne_of_none e h), upd_ne (ne_of_none e h)]; exact e
/-- what M speaks of stands on the heap -/
def Stands (M : Addr → Prop) (H : Hp) : Prop := ∀ a, M a → ∃ o, H a = some o
theorem Stands.same {M : Addr → Prop} {H H' : Hp} (h : Stands M H) (s : Same H H') : Stands M H' := fun a m => by
  obtain ⟨o, e⟩ := h a m
  exact ⟨o, s _ _ e⟩
theorem Stands.new {M : Addr → Prop} {H : Hp} {p : Addr} (h : Stands M H) (n : H p = none) : ¬ M p := fun m => by
  obtain ⟨o, e⟩ := h p m
  rw [n] at e; cases e
def Mk (M : Addr → Prop) (K : PySem.W.Frag) (t : TE) (σ : L2.St) (H0 : Hp) (d : PyData) : Prop :=
  ∀ (H : Hp) (M' : Addr → Prop) (Q : VK), Same H0 H → (∀ a, M a → M' a) → (∀ a, M' a → M a ∨ H0 a = none) → Stands M' H → (∀ v H', Same H H' → Dv M' K H' v d → Q v H') → t σ H Q
def MkA (M : Addr → Prop) (K : PySem.W.Frag) (t : TA) (σ : L2.St) (H0 : Hp) (ds : List PyData) : Prop :=
  ∀ (H : Hp) (M' : Addr → Prop) (Q : List V → Hp → Prop), Same H0 H → (∀ a, M a → M' a) → (∀ a, M' a → M a ∨ H0 a = none) → Stands M' H → (∀ vs H', Same H H' → DvAll M' K H' vs ds → Q vs H') → t σ H Q
theorem none_of {H H' : Hp} {p : Addr} (s : Same H H') (n : H' p = none) : H p = none := by
  cases e : H p with
  | none => rfl
  | some o => rw [s _ _ e] at n; cases n
section
variable {M : Addr → Prop} {K : PySem.W.Frag} {σ : L2.St} {H0 : Hp}
theorem mk_c {v : V} {d : PyData} (h : ∀ M H, Dv M K H v d) : Mk M K (tC v) σ H0 d := fun H M' Q s u w z q => q _ _ (Same.refl _) (h M' H)
theorem mk_int {i : Int} : Mk M K (tC (.int i)) σ H0 (.int i) := mk_c fun _ _ => .int i
theorem mk_str {x : Str} : Mk M K (tC (.str x)) σ H0 (.str x) := mk_c fun _ _ => .str x
theorem mk_non : Mk M K (tC .non) σ H0 .none := mk_c fun _ _ => .non
theorem mk_bl {b : Bool} : Mk M K (tC (.bl b)) σ H0 (.bool b) := mk_c fun _ _ => .bl b
theorem mk_neg {i : Int} : Mk M K (tUn (rU fun i => .int (-i)) (tC (.int i))) σ H0 (.int (-i)) := fun H M' Q s u w z q => ⟨_, rfl, q _ _ (Same.refl _) (.int _)⟩
theorem mk_pow {i j : Int} (c : CPow i j) : Mk M K (tOp (rI CPow fun i j => .int (i ^ j.toNat)) (tC (.int i)) (tC (.int j))) σ H0 (.int (i ^ j.toNat)) :=
  fun H M' Q s u w z q => ⟨_, _, rfl, rfl, c, q _ _ (Same.refl _) (.int _)⟩
theorem mk_var {i : Nat} {v : V} {d : PyData} (e : σ[i]? = some (some v)) (h : Dv M K H0 v d) : Mk M K (tVar i) σ H0 d := fun H M' Q s u w z q =>
  ⟨v, e, q _ _ (Same.refl _) (h.keep (Off.same s) fun a o ea na ma => (w a ma).elim na fun en => by rw [ea] at en; cases en)⟩
theorem mkA_nil : MkA M K tNil σ H0 [] := fun H M' Q s u w z q => q _ _ (Same.refl _) .nil
theorem mkA_cons {t : TE} {r : TA} {d : PyData} {ds : List PyData} (h : Mk M K t σ H0 d) (hr : MkA M K r σ H0 ds) : MkA M K (tCons t r) σ H0 (d :: ds) := fun H M' Q s u w z q =>
  h H M' _ s u w z fun v H1 s1 e1 => hr H1 M' _ (s.trans s1) u w (z.same s1) fun vs H2 s2 e2 => q _ _ (s1.trans s2) (.cons (e1.off (Off.same s2)) e2)
theorem mk_tup {t : TA} {ds : List PyData} (h : MkA M K t σ H0 ds) (l : ds.length ≤ 1000) : Mk M K (tTup t) σ H0 (.tuple ds) := fun H M' Q s u w z q =>
  h H M' _ s u w z fun vs H1 s1 e1 => ⟨by rw [e1.len, sizeLine_eq]; omega, fun p n => q _ _ (s1.trans (same_new n)) (.tup (.inl upd_same) ((z.same s1).new n) (e1.off (Off.same (same_new n))))⟩
theorem mk_lst {t : TA} {ds : List PyData} (h : MkA M K t σ H0 ds) (l : ds.length ≤ 1000) : Mk M K (tLstN t) σ H0 (.list ds) := fun H M' Q s u w z q =>
  h H M' _ s u w z fun vs H1 s1 e1 => ⟨by rw [e1.len, sizeLine_eq]; omega, fun p n y => q _ _ (s1.trans (same_new n)) (.lst upd_same ((z.same s1).new n) y (e1.off (Off.same (same_new n))))⟩
theorem mk_dct {t : TE} {k : Str} {d : PyData} (h : Mk M K t σ H0 d) : Mk M K (tDisp [(tC (.str k), t)]) σ H0 (.dict [(.str k, d)]) := fun H M' Q s u w z q => by
  intro p n
  show t σ _ _
  refine h _ (fun a => M' a ∨ a = p) _ (s.trans (same_new n)) (fun a ma => .inl (u a ma)) (fun a ma => ma.elim (w a) fun e => .inr (by rw [e]; exact none_of s n)) (fun a ma => ?_) fun v H1 s1 e1 => ?_
  · rcases ma with ma | rfl
    · obtain ⟨o, e⟩ := z a ma
      exact ⟨o, same_new n _ _ e⟩
    · exact ⟨_, upd_same⟩
  · have hp : H1 p = some (.dK []) := s1 _ _ upd_same
    have sm : Same H (upd H1 p (.dK [(Sum.inr k, v)])) := fun a o e => by
      rw [upd_ne (ne_of_none e n)]
      exact s1 _ _ (same_new n _ _ e)
    refine ⟨hp, [(Sum.inr k, v)], rfl, by show 1 ≤ 15; decide, q _ _ sm ?_⟩
    exact Dv.dct (ks := [k]) (xs := [v]) (ds := [d]) upd_same (z.new n) rfl rfl (.cons (e1.keep (Off.mut (.inr rfl)) fun a o _ na ma => na (.inl ma)) .nil)
theorem mk_dct0 : Mk M K tDNewK σ H0 (.dict []) := fun H M' Q s u w z q => by
  intro p n
  exact q _ _ (same_new n) (.dct (ks := []) (xs := []) (ds := []) upd_same (z.new n) rfl rfl .nil)
/-- a list of made things -/
theorem mk_some {t : TA} {ds : List PyData} {Q : VK} (h : MkA M K t σ H0 ds) (z : Stands M H0) (l : ds.length ≤ 1000) (q : ∀ p xs H', Same H0 H' → H0 p = none → H' p = some (.lst xs) → DvAll M K H' xs ds → xs.length = ds.length → Q (.ref p) H') : tLst t σ H0 Q :=
  h H0 M _ (Same.refl _) (fun _ m => m) (fun _ m => .inl m) z fun vs H1 s1 e1 => ⟨by rw [e1.len, sizeLine_eq]; omega, fun p n => q p vs _ (s1.trans (same_new n)) (none_of s1 n) upd_same (e1.off (Off.same (same_new n))) e1.len⟩
end
end Gk
namespace Gk
open PySem PySem.Spec PyProof.Rows L2
/-! ### sets of ints made by a comprehension -/
section
variable {X : Cx}
/-- {elt for target in iter}: D is the new set -/
def tSi (w : World) (src : TI) (g : TG) (te : TE) (own : List Nat) : TE := fun σ H Q => src σ H fun J G => ∀ D, G D = none → ∃ Stage : Nat → Nat → Hp → Prop,
  (∃ k, Stage 0 k (upd G D (L2.SetO w D (fun _ => false) 0))) ∧ ∀ i k G', Stage i k G' → (J.stop i G' ∧ Q (.ref D) G') ∨
    (J.go i G' ∧ ∃ After : Hp → Prop, (∀ G2, After G2 → ∃ j, j < k ∧ Stage (i + 1) j G2) ∧ ∀ x G2, J.yld i G' x G2 → g x (wipe σ own) G2 fun τ G3 => wipe τ own = wipe σ own ∧
      te τ G3 fun y G4 => ∃ (c : Int) (S : Int → Bool) (n : Nat), y = .int c ∧ G4 D = some (L2.SetO w D S n) ∧ n + 1 < scanBound ∧ After (upd G4 D (L2.SetO w D (fun j => S j || decide (j = c)) (if S c = true then n else n + 1))))
theorem pe_si {elt tg iter : Expr} {scope : Scope} {own : List (PySem.Str × Nat)} {pos : Pos} {src : TI} {g : TG} {te : TE} (calm : X.calm = true) (nd : X.N.Nodup) (walk : PI X tg iter src) (blk : BlkOk X.N X.env.scope scope own)
    (put : ∀ (s : Shared) (G : Hp) (C : Addr) (cl : List (PySem.Str × Addr)) (fp : List Addr), PG (X.blk s G scope (compEnvC scope cl C X.env) fp) tg g)
    (val : ∀ (s : Shared) (G : Hp) (C : Addr) (cl : List (PySem.Str × Addr)) (fp : List Addr), PE (X.blk s G scope (compEnvC scope cl C X.env) fp) elt te)
    (plain : ∀ x, foldedSetIterable iter X.env x = pure x := by intro _; rfl) : PE X (.SetComp elt [⟨tg, iter, [], 0⟩] scope pos) (tSi X.w src g te (own.map (·.2))) := by
  refine ⟨fun pins s σ H Q inv want => ?_⟩
  rw [PpSet.eval_SetComp]
  have free : ∀ y ∈ scope.names, y.2 = .free → ∃ c, X.env.cells.lookup y.1 = some c := fun y hy e =>
    (blk.free y hy e).elim (fun k => inv.ok.has _ (.inl k)) fun k => inv.ok.has _ (.inr k)
  refine wpAny_comprehension_free (use := none) rfl plain (closure_ok free) blk.kind (fun y hy e => by rw [blk.uniq y hy, e]) (thn (walk.run pins s σ H _ inv want) fun xv s1 got => thn got fun itv a have2 => ?_)
  obtain ⟨it, fp, tn, J, G, rfl, invA, T, stA, frA, go⟩ := have2
  refine PpSet.newSet_ok (newEnv_comp ?_)
  generalize eD : a.heap.objs.size = D
  have D0 : G D = none := invA.hok.fresh (Nat.le_of_eq eD)
  obtain ⟨Stage, ⟨k0, first⟩, turn⟩ := go D D0
  generalize eNew : ({ cls := .type "set", dict := none, data := .set #[] 0 (.fresh 0 0 (!X.w.params.followText "set-order")) } : Obj) = new
  generalize eB : ({ a with heap := a.heap.push new } : Shared) = b
  have hB : b.heap = a.heap.push new := by rw [← eB]
  have keepB : ∀ (c : Addr) (o : Obj), a.heap.get? c = some o → b.heap.get? c = some o := fun c o e => by rw [hB]; exact Heap.get?_push_of_some _ e
  have made : SetR X.w b.heap D (fun _ => false) 0 := by
    rw [hB, ← eNew, ← eD]
    exact setR_fresh X.w
  have invB : L2.Inv X pins σ (upd G D (L2.SetO X.w D (fun _ => false) 0)) b := by
    rw [← eB]
    refine invA.laid (t' := a.toks) (fun c o e => Heap.get?_push_of_some _ e) (Nat.le_of_eq eD) ?_
    have := L2.setO_new (P := X.prog) (H := upd G D (L2.SetO X.w D (fun _ => false) 0)) made
    rwa [hB] at this
  have small : ∀ c ∈ fp, c < a.heap.objs.size := fun c hc => let ⟨o, e, _⟩ := T.obj _ _ stA c hc; Heap.lt_size e
  have frB : ∀ c ∈ fp, FpOk X pins (upd G D (L2.SetO X.w D (fun _ => false) 0)) c ∧ c < b.heap.objs.size := fun c hc => by
    have lt := small c hc
    refine ⟨⟨?_, (frA c hc).2⟩, by rw [hB, Heap.size_push]; exact Nat.lt_succ_of_lt lt⟩
    rw [upd_ne (show c ≠ D by rw [← eD]; exact Nat.ne_of_lt lt)]
    exact (frA c hc).1
  have stB : tn 0 b.heap := T.keep _ _ _ stA fun c _ o e => keepB c o e
  generalize eG : upd G D (L2.SetO X.w D (fun _ => false) 0) = GB at first invB frB
  have invC := block_start invB blk nd frB
  have free0 : ∀ c ∈ fp, GB c = none := fun c hc => (frB c hc).1.1
  generalize eCl : cellsFrom (b.heap.objs.size + 1) scope.names (cloFrom X.env.cells scope.names []) = cl at invC
  have aim := put b GB b.heap.objs.size cl fp
  have made2 := val b GB b.heap.objs.size cl fp
  show codeAny (model X.prog X.w) X.A (.compStart (.SetComp elt [⟨tg, iter, [], 0⟩] scope pos) 0 (.ref it) (.ref D) (compEnvC scope cl b.heap.objs.size X.env)) (compPost (model X.prog X.w) X.A X.xe none (EP X pins σ Q) (.ref D) b.heap.objs.size) { b with heap := pushCells (b.heap.push { cls := .type "dict", data := .dict #[] }) scope.names }
  generalize eCe : compEnvC scope cl b.heap.objs.size X.env = ce at invC aim made2 ⊢
  have place : ce.locals = b.heap.objs.size := by rw [← eCe]; rfl
  generalize eC : ({ b with heap := pushCells (b.heap.push { cls := .type "dict", data := .dict #[] }) scope.names } : Shared) = c0 at invC ⊢
  have stC : tn 0 c0.heap := T.keep _ _ _ stB fun c _ o e => by
    rw [← eC]
    exact pushCells_keeps _ _ _ _ (Heap.get?_push_of_some _ e)
  have inside : ∀ {τ : L2.St} {G' : Hp} {s' : Shared}, L2.Inv (X.blk b GB scope ce fp) [] τ G' s' → (∀ c ∈ fp, G' c = none) → ∀ c ∈ fp, FpOk (X.blk b GB scope ce fp) [] G' c := fun {τ G' s'} inv' no c hc =>
    ⟨no c hc, (inv'.ok.exf c hc).1, inv'.ok.exfs c hc, .inl hc, fun x d e => (inv'.ok.exf c hc).2 x d e, fun p hp => absurd (show p ∈ ([] : List (Addr × Obj)) ++ [] from hp) (by simp)⟩
  have whole : codeAny (model X.prog X.w) X.A (.compLoop (.SetComp elt [⟨tg, iter, [], 0⟩] scope pos) 0 (.ref it) (.ref D) ce) (compPost (model X.prog X.w) X.A X.xe none (EP X pins σ Q) (.ref D) b.heap.objs.size) c0 := by
    refine PpSet.compLoopS_any (fun k s' => ∃ i G', L2.Inv (X.blk b GB scope ce fp) [] (wipe σ (own.map (·.2))) G' s' ∧ tn i s'.heap ∧ (∀ c ∈ fp, G' c = none) ∧ Stage i k G') (fun k s5 now => ?_) k0 ⟨0, GB, invC, stC, free0, first⟩
    obtain ⟨i, G5, inv5, st5, no5, stage⟩ := now
    rcases turn i k G5 stage with ⟨stop, fin⟩ | ⟨more, After, less, step⟩
    · refine thnF (T.done (X.blk b GB scope ce fp) rfl rfl rfl calm i [] s5 _ G5 (fun _ _ => False) inv5 (inside inv5 no5) st5 stop) fun r s6 ⟨hr, inv6⟩ => ?_
      subst hr
      have out := invB.call' (ch := fp) inv6.os inv6.base inv6.hok inv6.bare fun c hc => ⟨(frB c hc).1.2.2.2.1, (frB c hc).1.2.1, (frB c hc).1.2.2.2.2.1, (frB c hc).1.2.2.2.2.2⟩
      have nC : G5 b.heap.objs.size = none := by
        have z : G5 ce.locals = none := inv6.free
        rwa [place] at z
      obtain ⟨names, hm, _⟩ := inv6.loc
      have hm : s6.heap.Ns ce.locals names := hm
      rw [place] at hm
      obtain ⟨f0, f1, _, f3, f4, f5⟩ := invB.fpOk (Nat.le_refl _) nC
      exact ⟨names, hm, fun h2 sb => ⟨.ref D, G5, out.turned (t' := s6.toks) (fun c o hc e => (sb.2 c hc).trans e) f0 f1 f3 f4 f5, rfl, fin⟩⟩
    · refine thnF (T.item (X.blk b GB scope ce fp) rfl rfl rfl calm i [] s5 _ G5 (fun _ _ => False) inv5 (inside inv5 no5) st5 more) fun r s6 ⟨u, hr, h6⟩ => ?_
      subst hr
      refine thnF h6 fun _ s7 ⟨x, G7, inv7, rx, y7, st7, no7⟩ => ?_
      refine thnF (aim.run _ s7 _ G7 x u _ (inv7.pinned (inside inv7 no7) (T.obj _ _ st7)) rx (step x G7 y7)) fun _ s8 ⟨τ, G8, inv8, same8, q8⟩ => ?_
      show wpAny _ _ (pure true) _ _ s8
      refine wpAny_pure ?_
      simp only [if_true]
      refine thnF (made2.run _ s8 τ G8 _ inv8 q8) fun z s9 ⟨yv, G9, inv9, rz, c, S, n, ey, hD9, room, aft⟩ => ?_
      subst ey
      refine thnF (L2.mt_sadd (X := X.blk b GB scope ce fp) _ s9 τ G9 (.ref D) [.int c] (.ref D) [z] (fun _ G10 => After G10) inv9 rfl (.cons rz .nil) ⟨D, c, S, n, rfl, rfl, hD9, room, aft⟩) fun _ s10 ⟨_, G10, inv10, _, aft10⟩ => ?_
      obtain ⟨j, lt, stage2⟩ := less G10 aft10
      have pin : ∀ c ∈ fp, ∀ o, s7.heap.get? c = some o → s10.heap.get? c = some o ∧ G10 c = none := fun c hc o e =>
        let held := inv10.pin (c, o) (List.mem_append_right _ (List.mem_append_right _ (mem_pinsAt hc e)))
        ⟨held.1, held.2.1⟩
      refine ⟨j, lt, i + 1, G10, (inv10.unpinned (pins := [])).weak (by rw [← same8, wipe_length]) (fun q v e => ?_), T.keep _ _ _ st7 fun c hc o e => (pin c hc o e).1, fun c hc => ?_, stage2⟩
      · rw [← same8] at e
        exact (wipe_some e).1
      · obtain ⟨o, e, _⟩ := T.obj _ _ st7 c hc
        exact (pin c hc o e).2
  exact PpSet.codeAny_compStart_set whole (T.self X.A 0 _ _ _ stC whole)
end
end Gk
namespace Pf
open PySem PySem.Spec PyProof.Rows L2 Gk
theorem ps_dead {X : Cx} {st : Stmt} : PS X st (fun _ _ _ => False) := ⟨fun _ _ _ _ _ _ h => h.elim⟩
theorem bool_is : bootBuiltins "bool" = some (.type "bool") := by decide +kernel
theorem isi_is : PySem.bootBuiltins "isinstance" = some (.builtin "isinstance") := by decide +kernel
theorem pe_isi {X : Cx} {e : Expr} {te : TE} {T : Str} {n : String} {p p2 pos : Pos} (hg : Gl X "isinstance") (hm : X.mg "isinstance" = none) (he : PE X e te) (hT : Gl X T) (mT : X.mg T = none) (bT : bootBuiltins T = some (.type n)) (nT : T ≠ "__name__" := by decide) (dT : (T == ("__debug__" : Str)) = false := by decide)
    (h1 : starEach [e, .Name T p2] X.env = (false, eval e X.env) :: starEach [.Name T p2] X.env := by rfl) (h2 : starEach [.Name T p2] X.env = (false, eval (.Name T p2) X.env) :: starEach [] X.env := by rfl) (hpl : (backTo pos (starEach [.Name T p2] X.env)).any (·.1) = false := by rfl) :
    PE X (.Call (.Name "isinstance" p) [e, .Name T p2] [] pos) (tCB (rIsi X.K) (tCons te (tCons (tC (.ty n)) tNil))) :=
  pe_callB call_isi hg hm isi_is (pa_cons he (pa_cons (pe_bltn hT mT bT rfl nT dT) pa_nil h2) h1) (he := h1) (hpl := hpl)
/-- a set that a comprehension makes -/
theorem si_walk {w : World} {J : It} {n : Nat} {Gd : Hp → Prop} {Y : Nat → Hp → V → Hp → Prop} {g : TG} {te : TE} {vs : List Nat} {σ : L2.St} {H1 : Hp} {D : Addr} {Qd : Hp → Prop} (wk : Walk J n Gd Y) (Pv : Nat → Hp → Prop) (h0 : Pv 0 (upd H1 D (SetO w D (fun _ => false) 0))) (hg : ∀ i H, Pv i H → Gd H)
    (hs : ∀ i x H H', i < n → Pv i H → Y i H x H' → g x (wipe σ vs) H' fun τ G3 => wipe τ vs = wipe σ vs ∧ te τ G3 fun y G4 => ∃ (c : Int) (S : Int → Bool) (m : Nat), y = .int c ∧ G4 D = some (SetO w D S m) ∧ m + 1 < scanBound ∧ Pv (i + 1) (upd G4 D (SetO w D (fun j => S j || decide (j = c)) (if S c = true then m else m + 1))))
    (hd : ∀ H, Pv n H → Qd H) : ∃ Stage : Nat → Nat → Hp → Prop, (∃ k, Stage 0 k (upd H1 D (SetO w D (fun _ => false) 0))) ∧ ∀ i k G', Stage i k G' → (J.stop i G' ∧ Qd G') ∨
    (J.go i G' ∧ ∃ After : Hp → Prop, (∀ G2, After G2 → ∃ j, j < k ∧ Stage (i + 1) j G2) ∧ ∀ x G2, J.yld i G' x G2 → g x (wipe σ vs) G2 fun τ G3 => wipe τ vs = wipe σ vs ∧
      te τ G3 fun y G4 => ∃ (c : Int) (S : Int → Bool) (m : Nat), y = .int c ∧ G4 D = some (SetO w D S m) ∧ m + 1 < scanBound ∧ After (upd G4 D (SetO w D (fun j => S j || decide (j = c)) (if S c = true then m else m + 1)))) := by
  refine ⟨fun i k G => k = n - i ∧ i ≤ n ∧ Pv i G, ⟨n, by simp, Nat.zero_le _, h0⟩, ?_⟩
  rintro i k G ⟨rfl, hi, p⟩
  by_cases lt : i < n
  · exact .inr ⟨wk.goes i G lt (hg i G p), Pv (i + 1), fun G2 p2 => ⟨n - (i + 1), by omega, rfl, lt, p2⟩, fun x G2 y => hs i x G G2 lt p (wk.yields i G x G2 lt (hg i G p) y)⟩
  · have e : i = n := by omega
    subst e
    exact .inl ⟨wk.stops G (hg i G p), hd G p⟩
end Pf
namespace Pf
open PySem PySem.Spec PyProof.Rows L2 Gk
abbrev sBrs : Stmt := topS 6
abbrev sOuts : Stmt := topS 7
abbrev sAll : Stmt := topS 8
abbrev sTimes : Stmt := topS 17
abbrev nBrs : List Str := ["trace", "branch", "outcome"]
abbrev nOuts : List Str := ["trace", "branch", "outcome", "other"]
abbrev nAll : List Str := ["trace", "outcome", "branch"]
abbrev nTimes : List Str := ["pairs", "branch", "other", "outcome"]
theorem scBrs : FnScope nBrs ["trace"] (defScope sBrs) := ⟨rfl, rfl, rfl, by decide +kernel, rfl, by decide +kernel, by decide +kernel⟩
theorem scOuts : FnScope nOuts ["trace", "branch"] (defScope sOuts) := ⟨rfl, rfl, rfl, by decide +kernel, rfl, by decide +kernel, by decide +kernel⟩
theorem scAll : FnScope nAll ["trace"] (defScope sAll) := ⟨rfl, rfl, rfl, by decide +kernel, rfl, by decide +kernel, by decide +kernel⟩
theorem scTimes : FnScope nTimes ["pairs", "branch"] (defScope sTimes) := ⟨rfl, rfl, rfl, by decide +kernel, rfl, by decide +kernel, by decide +kernel⟩
/-- how many of the branches from 0 to 7 are in the set -/
def eight (S : Int → Bool) : Nat := (S 0).toNat + (S 1).toNat + (S 2).toNat + (S 3).toNat + (S 4).toNat + (S 5).toNat + (S 6).toNat + (S 7).toNat
theorem eight_le (S : Int → Bool) : eight S ≤ 8 := by
  have h : ∀ b : Bool, b.toNat ≤ 1 := fun b => by cases b <;> decide
  unfold eight
  have := h (S 0); have := h (S 1); have := h (S 2); have := h (S 3); have := h (S 4); have := h (S 5); have := h (S 6); have := h (S 7)
  omega
theorem eight_add {S : Int → Bool} {c : Int} (h0 : 0 ≤ c) (h1 : c ≤ 7) : eight (fun j => S j || decide (j = c)) = if S c = true then eight S else eight S + 1 := by
  have : c = 0 ∨ c = 1 ∨ c = 2 ∨ c = 3 ∨ c = 4 ∨ c = 5 ∨ c = 6 ∨ c = 7 := by omega
  rcases this with rfl | rfl | rfl | rfl | rfl | rfl | rfl | rfl
  · cases e : S 0 <;> simp [eight, e]; omega
  · cases e : S 1 <;> simp [eight, e]; omega
  · cases e : S 2 <;> simp [eight, e]; omega
  · cases e : S 3 <;> simp [eight, e]; omega
  · cases e : S 4 <;> simp [eight, e]; omega
  · cases e : S 5 <;> simp [eight, e]; omega
  · cases e : S 6 <;> simp [eight, e]; omega
  · cases e : S 7 <;> simp [eight, e]
/-- the outcomes of a branch -/
def outs (b : Int) (l : List (Int × Int)) : List Int := (l.filter fun x => decide (x.1 = b)).map (·.2)
theorem outs_take {b : Int} {l : List (Int × Int)} {i : Nat} {x : Int × Int} (h : l[i]? = some x) : outs b (l.take (i + 1)) = outs b (l.take i) ++ (if x.1 = b then [x.2] else []) := by
  unfold outs
  rw [List.take_add_one, h, List.filter_append, List.map_append]
  congr 1
  by_cases e : x.1 = b
  · simp [e]
  · simp [e]
theorem outs_len (b : Int) (l : List (Int × Int)) : (outs b l).length ≤ l.length := by
  unfold outs
  rw [List.length_map]
  exact List.length_filter_le _ _
theorem outs_bits {b : Int} {l : List (Int × Int)} (h : Fair l) : Bits (outs b l) := fun o ho => by
  unfold outs at ho
  obtain ⟨x, hx, rfl⟩ := List.mem_map.mp ho
  exact (h x (List.mem_filter.mp hx).1).2
theorem pd_at {K : PySem.W.Frag} {H : Hp} {xs : List V} {l : List (Int × Int)} (hA : DpAll K H xs (l.map pd)) {i : Nat} {v : V} (hv : xs[i]? = some v) : ∃ x a, l[i]? = some x ∧ v = .ref a ∧ SqT K H a [.int x.1, .int x.2] := by
  have hi : i < l.length := by
    have := (List.getElem?_eq_some_iff.mp hv).1
    rwa [lc_len hA] at this
  have g : (l.map pd)[i]? = some (pd l[i]) := by rw [List.getElem?_map, List.getElem?_eq_getElem hi]; rfl
  obtain ⟨a, rfl, s⟩ := pair_at (DpAll.at hA hv g)
  exact ⟨l[i], a, List.getElem?_eq_getElem hi, rfl, s⟩
theorem PairsAt.out {K : PySem.W.Frag} {H : Hp} {t : Addr} {l : List (Int × Int)} (h : PairsAt K H t l) : ∃ xs, SqT K H t xs ∧ DpAll K H xs (l.map pd) ∧ xs.length = l.length := by
  obtain ⟨xs, a, b, c⟩ := ItsAt.out h
  exact ⟨xs, a, b, by rw [c, List.length_map]⟩
section
variable {P : Program} {w : World} {K : PySem.W.Frag} {mg : Str → Option Value} {base : Heap}
def spBrs (K : PySem.W.Frag) : Sp := fun vs H Q _ => ∃ (t : Addr) (l : List (Int × Int)), vs = [.ref t] ∧ PairsAt K H t l ∧ Fair l ∧
  ∀ H' p (bs : List Int), Same H H' → SqT K H' p (bs.map V.int) → bs.Pairwise (· < ·) → (∀ k, k ∈ bs ↔ ∃ x ∈ l, x.1 = k) → Q (.ref p) H'
theorem ok_brs {f : Addr} {fd : FuncData} {k : Nat} (mt : mg "tuple" = none) (ms : mg "sorted" = none) (F : L2.Fun K "branches" "branches" sBrs f fd) : FnOk P w K mg base L2.CX0 (k + 1) f fd ["trace"] (spBrs K) := by
  refine F.ok scBrs (fun vs H Q E h => ?_) (fun cdv A outer s H vs Q E hr h => ?_)
  · obtain ⟨t, l, rfl, _⟩ := h
    rfl
  · obtain ⟨t, l, rfl, hl, fair, q⟩ := h
    obtain ⟨xs, sq, hA, len⟩ := PairsAt.out hl
    refine ⟨_, pss_one (ps_ret (pe_callTy call_tuple_of (by rfl) mt (by decide +kernel) (pa_cons (pe_callB (cr_sortedSet (by rfl)) (by rfl) ms (by decide +kernel) (pa_cons (pe_si (own := [("branch", 1), ("outcome", 2)]) (g := gTup K 2 (gCons (gName 1) (gCons (gName 2) gNil))) (by rfl) scBrs.nd (pi_tup (pv 0))
        (blkOk_by (N := nBrs) (sc := defScope sBrs) (by decide +kernel)) (fun _ _ _ _ _ => pg_tup rfl (pgs_cons (pg_name (i := 1) scBrs.nd rfl (.inl rfl)) (pgs_cons (pg_name (i := 2) scBrs.nd rfl (.inl rfl)) pgs_nil))) (fun _ _ _ _ _ => pv 1)) pa_nil)) pa_nil))), ?_⟩
    refine ⟨.ref t, rfl, t, rfl, ⟨_, sq⟩, fun D nD => si_walk (walk_tup (K := K) (a := t) (xs := xs)) (fun i H' => Same H H' ∧ ∃ S, H' D = some (SetO w D S (eight S)) ∧ ∀ k, S k = true ↔ ∃ x ∈ l.take i, x.1 = k) ⟨same_new nD, _, upd_same, fun k => by simp⟩
      (fun i H' hp => Same.seqT hp.1 sq) (fun i x G G' hi hp hy => ?_) (fun G hp => ?_)⟩
    · obtain ⟨sm, S, hD, hS⟩ := hp
      obtain ⟨rfl, hx⟩ := hy
      obtain ⟨y, a, hy, rfl, sa⟩ := pd_at hA hx
      have fy := fair y (List.mem_of_getElem? hy)
      have e8 := eight_le S
      refine ⟨a, _, rfl, Same.seqT sm sa, rfl, _, _, rfl, _, _, rfl, rfl, rfl, .int y.1, rfl, y.1, S, eight S, rfl, hD, Nat.lt_of_le_of_lt (show eight S + 1 ≤ 9 by omega) (by decide), ?_, (fun j => S j || decide (j = y.1)), ?_, fun k => ?_⟩
      · intro c o h
        rw [upd_ne (ne_of_none h nD)]
        exact sm c o h
      · rw [upd_same, ← eight_add fy.1.1 fy.1.2]
        rfl
      · rw [List.take_add_one, hy]
        simp only [Bool.or_eq_true, decide_eq_true_eq, hS k, Option.toList_some, List.mem_append, List.mem_singleton]
        constructor
        · rintro (⟨x, hx, e⟩ | e)
          · exact ⟨x, .inl hx, e⟩
          · exact ⟨y, .inr rfl, e.symm⟩
        · rintro ⟨x, hx | rfl, e⟩
          · exact .inl ⟨x, hx, e⟩
          · exact .inr e.symm
    · obtain ⟨sm, S, hD, hS⟩ := hp
      rw [len, List.take_length] at hS
      refine ⟨D, S, eight S, rfl, hD, Nat.lt_of_le_of_lt (eight_le S) (by decide), fun ns p pw mem _ np => ⟨p, _, rfl, .inl ⟨.inl (.inl upd_same), fun p2 np2 => ?_⟩⟩⟩
      exact q _ p2 ns ((sm.trans (same_new np)).trans (same_new np2)) (.inl (.inl upd_same)) pw fun k => (mem k).trans (hS k)
/-- the outcomes of a branch of the trace -/
def spOuts (K : PySem.W.Frag) : Sp := fun vs H Q _ => ∃ (t : Addr) (l : List (Int × Int)) (b : Int), vs = [.ref t, .int b] ∧ PairsAt K H t l ∧ Fair l ∧ l.length ≤ 64 ∧ (∃ x ∈ l, x.1 = b) ∧ ∀ H' p, Same H H' → SqT K H' p ((outs b l).map V.int) → Q (.ref p) H'
theorem ok_outs {f : Addr} {fd : FuncData} (DB : Dfn P w K mg base 1 "branches" ["trace"] (spBrs K)) (mi : mg "isinstance" = none) (mb : mg "bool" = none) (mt : mg "tuple" = none) (F : L2.Fun K "outcomes_of" "outcomes_of" sOuts f fd) : FnOk P w K mg base L2.CX0 2 f fd ["trace", "branch"] (spOuts K) := by
  refine F.ok scOuts (fun vs H Q E h => ?_) (fun cdv A outer s H vs Q E hr h => ?_)
  · obtain ⟨t, l, b, rfl, _⟩ := h
    rfl
  · obtain ⟨t, l, b, rfl, hl, fair, l64, has, q⟩ := h
    obtain ⟨xs, sq, hA, len⟩ := PairsAt.out hl
    refine ⟨_, pss_cons (ps_if (PW.pt (pw_or (pt_val (pe_isi (by rfl) mi (pv 1) (by rfl) mb bool_is)) (pw_or1 (pt_cmpR op_notIn_seq (pv 1) (pe_d DB hr (by decide) (by rfl) (pa_cons (pv 0) pa_nil)) (by rfl))))) (pss_one ps_dead) pss_nil)
      (pss_one (ps_ret (pe_callTy call_tuple_of (by rfl) mt (by decide +kernel) (pa_cons (pe_lc (own := [("other", 3), ("outcome", 2)]) (g := gTup K 2 (gCons (gName 3) (gCons (gName 2) gNil))) (by rfl) scOuts.nd (pi_tup (pv 0))
        (blkOk_by (N := nOuts) (sc := defScope sOuts) (by decide +kernel)) (fun _ _ _ _ _ => pg_tup rfl (pgs_cons (pg_name (i := 3) scOuts.nd rfl (.inl rfl)) (pgs_cons (pg_name (i := 2) scOuts.nd rfl (.inl rfl)) pgs_nil)))
        (fun _ _ _ _ _ => pts_one (pt_cmpR op_eq (pv 3) (pv 1) (nomark _))) (fun _ _ _ _ _ => pv 2)) pa_nil)))), ?_⟩
    refine ⟨.int b, rfl, .int b, .ty "bool", tyD (.int b), .type "bool", _, rfl, .ty "bool", (Dv.int (M := fun _ => False) (K := K) (H := H) b).ty, kit_bool (.int b), _, rfl, ?_⟩
    refine ⟨.int b, rfl, .ref t, rfl, t, l, rfl, hl, fair, fun H1 p bs s1 t1 pw mem => ⟨p, _, rfl, .inr t1, rfl, ?_, _, rfl, ?_⟩⟩
    · rw [List.all_eq_true]
      intro v hv
      obtain ⟨k, _, rfl⟩ := List.mem_map.mp hv
      rfl
    · have isin : inV (.int b) (bs.map V.int) = true := by
        refine List.any_eq_true.mpr ⟨.int b, List.mem_map.mpr ⟨b, (mem b).mpr has, rfl⟩, ?_⟩
        show decide (b = b) = true
        simp
      rw [isin]
      have sq1 := Same.seqT s1 sq
      have hA1 := pairs_keep hA (Same.keep s1)
      refine ⟨.ref t, rfl, t, rfl, ⟨_, sq1⟩, fun D nD => lc_tup (K := K) (a := t) (xs := xs) (fun i H' => Same H1 H' ∧ H' D = some (.lst ((outs b (l.take i)).map V.int))) ⟨same_new nD, upd_same⟩ (fun i H' _ hp => Same.seqT hp.1 sq1) (fun i x H4 hx hp => ?_) (fun H4 hp => ?_)⟩
      · obtain ⟨sm, hD⟩ := hp
        obtain ⟨y, a, hy, rfl, sa⟩ := pd_at hA1 hx
        have et := outs_take (b := b) hy
        refine ⟨a, _, rfl, Same.seqT sm sa, rfl, _, _, rfl, _, _, rfl, rfl, rfl, .int y.1, rfl, .int b, rfl, rfl, _, rfl, ite2 (fun e => ?_) (fun e => ?_)⟩
        · have e1 : V.int y.1 = V.int b := of_decide_eq_true e
          injection e1 with e1
          refine ⟨.int y.2, rfl, _, hD, ?_, ?_, ?_⟩
          · have h1 := outs_len b (l.take i)
            rw [List.length_take] at h1
            rw [List.length_map]
            exact small1000 (by omega)
          · intro c o h
            rw [upd_ne (ne_of_none h nD)]
            exact sm c o h
          · rw [upd_same, et, if_pos e1, List.map_append]
            rfl
        · have e1 : y.1 ≠ b := fun z => e (decide_eq_true (by rw [z]))
          refine ⟨sm, ?_⟩
          rw [hD, et, if_neg e1, List.append_nil]
      · obtain ⟨sm, hD⟩ := hp
        rw [len, List.take_length] at hD
        exact ⟨D, _, rfl, .inl ⟨.inl (.inl hD), fun p2 np2 => q _ p2 ((s1.trans sm).trans (same_new np2)) (.inl (.inl upd_same))⟩⟩
def spAll (K : PySem.W.Frag) : Sp := fun vs H Q _ => ∃ (t : Addr) (l : List (Int × Int)), vs = [.ref t] ∧ PairsAt K H t l ∧ l.length ≤ 64 ∧ ∀ H' p, Same H H' → SqT K H' p ((l.map (·.2)).map V.int) → Q (.ref p) H'
theorem ok_all {f : Addr} {fd : FuncData} {k : Nat} (mt : mg "tuple" = none) (F : L2.Fun K "all_outcomes" "all_outcomes" sAll f fd) : FnOk P w K mg base L2.CX0 (k + 1) f fd ["trace"] (spAll K) := by
  refine F.ok scAll (fun vs H Q E h => ?_) (fun cdv A outer s H vs Q E hr h => ?_)
  · obtain ⟨t, l, rfl, _⟩ := h
    rfl
  · obtain ⟨t, l, rfl, hl, l64, q⟩ := h
    obtain ⟨xs, sq, hA, len⟩ := PairsAt.out hl
    refine ⟨_, pss_one (ps_ret (pe_callTy call_tuple_of (by rfl) mt (by decide +kernel) (pa_cons (pe_lc (own := [("branch", 2), ("outcome", 1)]) (g := gTup K 2 (gCons (gName 2) (gCons (gName 1) gNil))) (by rfl) scAll.nd (pi_tup (pv 0))
        (blkOk_by (N := nAll) (sc := defScope sAll) (by decide +kernel)) (fun _ _ _ _ _ => pg_tup rfl (pgs_cons (pg_name (i := 2) scAll.nd rfl (.inl rfl)) (pgs_cons (pg_name (i := 1) scAll.nd rfl (.inl rfl)) pgs_nil)))
        (fun _ _ _ _ _ => pts_nil) (fun _ _ _ _ _ => pv 1)) pa_nil))), ?_⟩
    refine ⟨.ref t, rfl, t, rfl, ⟨_, sq⟩, fun D nD => lc_tup (K := K) (a := t) (xs := xs) (fun i H' => Same H H' ∧ H' D = some (.lst (((l.take i).map (·.2)).map V.int))) ⟨same_new nD, upd_same⟩ (fun i H' _ hp => Same.seqT hp.1 sq) (fun i x H4 hx hp => ?_) (fun H4 hp => ?_)⟩
    · obtain ⟨sm, hD⟩ := hp
      obtain ⟨y, a, hy, rfl, sa⟩ := pd_at hA hx
      refine ⟨a, _, rfl, Same.seqT sm sa, rfl, _, _, rfl, _, _, rfl, rfl, rfl, .int y.2, rfl, _, hD, ?_, ?_, ?_⟩
      · rw [List.length_map, List.length_map, List.length_take]
        exact small1000 (by omega)
      · intro c o h
        rw [upd_ne (ne_of_none h nD)]
        exact sm c o h
      · rw [upd_same, List.take_add_one, hy, List.map_append, List.map_append]
        rfl
    · obtain ⟨sm, hD⟩ := hp
      rw [len, List.take_length] at hD
      exact ⟨D, _, rfl, .inl ⟨.inl (.inl hD), fun p2 np2 => q _ p2 (sm.trans (same_new np2)) (.inl (.inl upd_same))⟩⟩
def spTimes (K : PySem.W.Frag) : Sp := fun vs H Q _ => ∃ (t : Addr) (l : List (Int × Int)) (b : Int), vs = [.ref t, .int b] ∧ PairsAt K H t l ∧ l.length ≤ 64 ∧ ∀ H', Same H H' → Q (.int (outs b l).length) H'
theorem ok_times {f : Addr} {fd : FuncData} {k : Nat} (ml : mg "len" = none) (F : L2.Fun K "_times" "_times" sTimes f fd) : FnOk P w K mg base L2.CX0 (k + 1) f fd ["pairs", "branch"] (spTimes K) := by
  refine F.ok scTimes (fun vs H Q E h => ?_) (fun cdv A outer s H vs Q E hr h => ?_)
  · obtain ⟨t, l, b, rfl, _⟩ := h
    rfl
  · obtain ⟨t, l, b, rfl, hl, l64, q⟩ := h
    obtain ⟨xs, sq, hA, len⟩ := PairsAt.out hl
    refine ⟨_, pss_one (ps_ret (pe_callB call_len_seq (by rfl) ml PySem.boot_len (pa_cons (pe_lc (own := [("other", 2), ("outcome", 3)]) (g := gTup K 2 (gCons (gName 2) (gCons (gName 3) gNil))) (by rfl) scTimes.nd (pi_tup (pv 0))
        (blkOk_by (N := nTimes) (sc := defScope sTimes) (by decide +kernel)) (fun _ _ _ _ _ => pg_tup rfl (pgs_cons (pg_name (i := 2) scTimes.nd rfl (.inl rfl)) (pgs_cons (pg_name (i := 3) scTimes.nd rfl (.inl rfl)) pgs_nil)))
        (fun _ _ _ _ _ => pts_one (pt_cmpR op_eq (pv 2) (pv 1) (nomark _))) (fun _ _ _ _ _ => pv 2)) pa_nil))), ?_⟩
    refine ⟨.ref t, rfl, t, rfl, ⟨_, sq⟩, fun D nD => lc_tup (K := K) (a := t) (xs := xs) (fun i H' => Same H H' ∧ ∃ zs : List V, H' D = some (.lst zs) ∧ zs.length = (outs b (l.take i)).length) ⟨same_new nD, [], upd_same, rfl⟩ (fun i H' _ hp => Same.seqT hp.1 sq) (fun i x H4 hx hp => ?_) (fun H4 hp => ?_)⟩
    · obtain ⟨sm, zs, hD, lz⟩ := hp
      obtain ⟨y, a, hy, rfl, sa⟩ := pd_at hA hx
      have et := outs_take (b := b) hy
      have h1 := outs_len b (l.take i)
      rw [List.length_take] at h1
      refine ⟨a, _, rfl, Same.seqT sm sa, rfl, _, _, rfl, _, _, rfl, rfl, rfl, .int y.1, rfl, .int b, rfl, rfl, _, rfl, ite2 (fun e => ?_) (fun e => ?_)⟩
      · have e1 : V.int y.1 = V.int b := of_decide_eq_true e
        injection e1 with e1
        refine ⟨.int y.1, rfl, _, hD, small1000 (by omega), ?_, _, upd_same, ?_⟩
        · intro c o h
          rw [upd_ne (ne_of_none h nD)]
          exact sm c o h
        · rw [et, if_pos e1, List.length_append, List.length_append, lz]
          rfl
      · have e1 : y.1 ≠ b := fun z => e (decide_eq_true (by rw [z]))
        exact ⟨sm, zs, hD, by rw [et, if_neg e1, List.append_nil, lz]⟩
    · obtain ⟨sm, zs, hD, lz⟩ := hp
      rw [len, List.take_length] at lz
      refine ⟨D, zs, rfl, .inl (.inl (.inl hD)), ?_⟩
      rw [lz]
      exact q _ sm
end
end Pf
namespace Fold
/-- a number by its digits, the lowest one first -/
def num : List Bool → Nat
  | [] => 0
  | b :: r => b.toNat + 2 * num r
/-- the digits at their places, modulo w -/
def zig (w : Nat) : Nat → List Bool → Nat
  | _, [] => 0
  | k, b :: r => (if b then 2 ^ (k % w) else 0) ^^^ zig w (k + 1) r
/-- the pieces of a number -/
def pie (w : Nat) : Nat → Nat → Nat
  | 0, _ => 0
  | f + 1, n => (n % 2 ^ w) ^^^ pie w f (n / 2 ^ w)

theorem num_lt : ∀ l : List Bool, num l < 2 ^ l.length
  | [] => by decide
  | b :: r => by
    have h := num_lt r
    have hb : b.toNat ≤ 1 := by cases b <;> decide
    rw [List.length_cons, Nat.pow_succ]
    show b.toNat + 2 * num r < _
    omega
theorem zig_app (w : Nat) : ∀ (a b : List Bool) (k : Nat), zig w k (a ++ b) = zig w k a ^^^ zig w (k + a.length) b
  | [], b, k => by simp [zig]
  | c :: a, b, k => by
    show (if c then 2 ^ (k % w) else 0) ^^^ zig w (k + 1) (a ++ b) = ((if c then 2 ^ (k % w) else 0) ^^^ zig w (k + 1) a) ^^^ zig w (k + (a.length + 1)) b
    rw [zig_app w a b (k + 1), Nat.xor_assoc, show k + 1 + a.length = k + (a.length + 1) by omega]
theorem zig_shift (w : Nat) (hw : 0 < w) : ∀ (l : List Bool) (k : Nat), zig w (k + w) l = zig w k l
  | [], _ => rfl
  | b :: r, k => by
    show (if b then 2 ^ ((k + w) % w) else 0) ^^^ zig w (k + w + 1) r = (if b then 2 ^ (k % w) else 0) ^^^ zig w (k + 1) r
    rw [Nat.add_mod_right, show k + w + 1 = (k + 1) + w by omega, zig_shift w hw r (k + 1)]
/-- few digits: the number itself -/
theorem zig_few (w : Nat) : ∀ (l : List Bool) (k : Nat), k + l.length ≤ w → zig w k l = 2 ^ k * num l
  | [], k, _ => by simp [zig, num]
  | b :: r, k, h => by
    rw [List.length_cons] at h
    have ih := zig_few w r (k + 1) (by omega)
    show (if b then 2 ^ (k % w) else 0) ^^^ zig w (k + 1) r = 2 ^ k * (b.toNat + 2 * num r)
    rw [ih, Nat.mod_eq_of_lt (show k < w by omega)]
    cases b with
    | false =>
      show 0 ^^^ 2 ^ (k + 1) * num r = 2 ^ k * (0 + 2 * num r)
      rw [Nat.zero_xor, Nat.zero_add, Nat.pow_succ, Nat.mul_assoc]
    | true =>
      show 2 ^ k ^^^ 2 ^ (k + 1) * num r = 2 ^ k * (1 + 2 * num r)
      have e1 : 2 ^ (k + 1) * num r = 2 ^ k * (2 * num r) := by rw [Nat.pow_succ, Nat.mul_assoc]
      rw [e1, Nat.mul_add, Nat.mul_one]
      apply Nat.eq_of_testBit_eq
      intro j
      have e2 : 2 ^ k + 2 ^ k * (2 * num r) = 2 ^ k * (1 + 2 * num r) + 0 := by rw [Nat.mul_add, Nat.mul_one, Nat.add_zero]
      rw [e2, Nat.testBit_xor, Nat.testBit_two_pow_mul_add _ (Nat.two_pow_pos k)]
      have e3 : 2 ^ k * (2 * num r) = 2 ^ k * (2 * num r) + 0 := (Nat.add_zero _).symm
      rw [e3, Nat.testBit_two_pow_mul_add _ (Nat.two_pow_pos k)]
      by_cases hj : j < k
      · rw [if_pos hj, if_pos hj, Nat.testBit_two_pow]
        have : ¬ k = j := by omega
        simp [this]
      · rw [if_neg hj, if_neg hj, Nat.testBit_two_pow]
        by_cases e : k = j
        · subst e
          rw [Nat.sub_self]
          simp [Nat.testBit_zero, Nat.add_mod]
        · obtain ⟨m, hm⟩ : ∃ m, j - k = m + 1 := ⟨j - k - 1, by omega⟩
          rw [hm, Nat.testBit_succ, Nat.testBit_succ]
          have a1 : (2 * num r) / 2 = num r := by omega
          have a2 : (1 + 2 * num r) / 2 = num r := by omega
          rw [a1, a2]
          simp [e]
theorem num_app : ∀ a b : List Bool, num (a ++ b) = num a + 2 ^ a.length * num b
  | [], b => by simp [num]
  | c :: a, b => by
    show c.toNat + 2 * num (a ++ b) = c.toNat + 2 * num a + 2 ^ (a.length + 1) * num b
    rw [num_app a b, Nat.pow_succ, Nat.mul_add, Nat.add_assoc, Nat.mul_comm (2 ^ a.length) 2, Nat.mul_assoc]
theorem pie_zig (w : Nat) (hw : 0 < w) : ∀ (f : Nat) (l : List Bool), l.length ≤ f → pie w f (num l) = zig w 0 l
  | 0, l, h => by
    cases l with
    | nil => rfl
    | cons b r => simp at h
  | f + 1, l, h => by
    show (num l % 2 ^ w) ^^^ pie w f (num l / 2 ^ w) = _
    by_cases hl : l.length ≤ w
    · have h1 : num l < 2 ^ w := Nat.lt_of_lt_of_le (num_lt l) (Nat.pow_le_pow_right (by decide) hl)
      rw [Nat.mod_eq_of_lt h1, Nat.div_eq_of_lt h1, zig_few w l 0 (by omega), Nat.pow_zero, Nat.one_mul]
      have := pie_zig w hw f [] (Nat.zero_le _)
      rw [show pie w f 0 = 0 from this, Nat.xor_zero]
    · have e : l = l.take w ++ l.drop w := (List.take_append_drop w l).symm
      have ht : (l.take w).length = w := by rw [List.length_take]; omega
      have hn : num l = num (l.take w) + 2 ^ w * num (l.drop w) := by
        conv => lhs; rw [e, num_app, ht]
      have h1 : num (l.take w) < 2 ^ w := by have := num_lt (l.take w); rwa [ht] at this
      have hm : num l % 2 ^ w = num (l.take w) := by rw [hn, Nat.add_mul_mod_self_left, Nat.mod_eq_of_lt h1]
      have hd : num l / 2 ^ w = num (l.drop w) := by rw [hn, Nat.add_mul_div_left _ _ (Nat.two_pow_pos w), Nat.div_eq_of_lt h1, Nat.zero_add]
      rw [hm, hd, pie_zig w hw f (l.drop w) (by rw [List.length_drop]; omega)]
      conv => rhs; rw [e, zig_app, ht, zig_shift w hw (l.drop w) 0, zig_few w (l.take w) 0 (by omega), Nat.pow_zero, Nat.one_mul]
theorem pie_zero (w : Nat) : ∀ f, pie w f 0 = 0
  | 0 => rfl
  | f + 1 => by
    show 0 % 2 ^ w ^^^ pie w f (0 / 2 ^ w) = 0
    rw [Nat.zero_mod, Nat.zero_div, pie_zero w f]
    rfl
theorem pie_lt (w : Nat) : ∀ f n, pie w f n < 2 ^ w
  | 0, _ => Nat.two_pow_pos w
  | f + 1, n => Nat.xor_lt_two_pow (Nat.mod_lt _ (Nat.two_pow_pos w)) (pie_lt w f _)
theorem zig_lt (w : Nat) (hw : 0 < w) : ∀ (l : List Bool) k, zig w k l < 2 ^ w
  | [], _ => Nat.two_pow_pos w
  | b :: r, k => Nat.xor_lt_two_pow (by
      cases b with
      | false => exact Nat.two_pow_pos w
      | true => exact Nat.pow_lt_pow_right (by decide) (Nat.mod_lt _ hw)) (zig_lt w hw r (k + 1))
/-- the sum of the powers at the places where a number below 2 ^ w has a digit 1 -/
def ones (x : Nat) : Nat → Nat
  | 0 => 0
  | w + 1 => ones x w + (if x.testBit w then 2 ^ w else 0)
theorem ones_eq (x : Nat) : ∀ w, ones x w = x % 2 ^ w
  | 0 => by simp [ones, Nat.mod_one]
  | w + 1 => by
    show ones x w + (if x.testBit w then 2 ^ w else 0) = _
    rw [ones_eq x w, Nat.mod_pow_succ, Nat.testBit_eq_decide_div_mod_eq]
    have h : x / 2 ^ w % 2 = 0 ∨ x / 2 ^ w % 2 = 1 := by omega
    rcases h with h | h <;> simp [h]
end Fold
namespace Pf
open PySem PySem.Spec PyProof.Rows L2 Gk Fold
abbrev sFold : Stmt := topS 15
abbrev sBin : Stmt := topS 20
theorem scFold : FnScope ["history", "bits", "branch", "size", "number", "cell", "piece"] ["history", "bits", "branch"] (defScope sFold) := ⟨rfl, rfl, rfl, by decide +kernel, rfl, by decide +kernel, by decide +kernel⟩
theorem scBin : FnScope ["history", "number", "digit"] ["history"] (defScope sBin) := ⟨rfl, rfl, rfl, by decide +kernel, rfl, by decide +kernel, by decide +kernel⟩
/-- a history: its digits, the oldest one first -/
def sgn (b : Bool) : Nat := if b then 49 else 48
def txt (l : List Bool) : Str := ⟨(l.map sgn).toArray⟩
theorem txt_size (l : List Bool) : (txt l).cps.size = l.length := by
  show (l.map sgn).toArray.size = _
  rw [List.size_toArray, List.length_map]
theorem txt_at {l : List Bool} {i c : Nat} (h : (txt l).cps[i]? = some c) : ∃ b, l[i]? = some b ∧ c = sgn b := by
  have h' : (l.map sgn).toArray[i]? = some c := h
  rw [List.getElem?_toArray, List.getElem?_map] at h'
  cases e : l[i]? with
  | none => rw [e] at h'; cases h'
  | some b => rw [e] at h'; exact ⟨b, rfl, (Option.some.inj h').symm⟩
theorem int_sgn (b : Bool) : PySem.intText? ⟨#[sgn b]⟩ = some ((b.toNat : Nat) : Int) := by
  cases b <;> decide +kernel
section
variable {P : Program} {w : World} {K : PySem.W.Frag} {mg : Str → Option Value} {base : Heap}
def spBin : Sp := fun vs H Q _ => ∃ l : List Bool, vs = [.str (txt l)] ∧ Q (.int ((num l.reverse : Nat) : Int)) H
theorem ok_bin {f : Addr} {fd : FuncData} (mi : mg "int" = none) (F : L2.Fun K "_binary" "_binary" sBin f fd) : FnOk P w K mg base L2.CX0 1 f fd ["history"] spBin := by
  refine F.ok scBin (fun vs H Q E h => ?_) (fun cdv A outer s H vs Q E hr h => ?_)
  · obtain ⟨l, rfl, _⟩ := h
    rfl
  · obtain ⟨l, rfl, q⟩ := h
    refine ⟨_, pss_cons (ps_set (i := 1) scBin.nd rfl (.inl rfl) pe_int)
      (pss_cons (ps_for PassesOwn.never rfl (pi_str (pv 0)) (pg_name (i := 2) scBin.nd rfl (.inl rfl))
        (pss_one (ps_set (i := 1) scBin.nd rfl (.inl rfl) (pe_op op_add (pe_op op_mul pe_int (pv 1)) (pe_callTy call_int_str (by rfl) mi (by decide +kernel) (pa_cons (pv 2) pa_nil))))))
      (pss_one (ps_ret (pv 1)))), ?_⟩
    refine ⟨_, rfl, txt l, rfl, for_it walk_str (fun i σ H' => H' = H ∧ ∃ y, σ = [some (.str (txt l)), some (.int ((num (l.take i).reverse : Nat) : Int)), y]) ⟨rfl, none, rfl⟩ (fun _ _ _ _ _ => trivial) (fun i x σ H1 H2 hi hp hy => ?_) (fun σ H1 hp => ?_)⟩
    · obtain ⟨rfl, y, rfl⟩ := hp
      obtain ⟨rfl, c, hc, rfl⟩ := hy
      obtain ⟨b, hb, rfl⟩ := txt_at hc
      refine ⟨_, rfl, _, _, rfl, rfl, .inl ⟨by decide, by decide⟩, _, rfl, ⟨#[sgn b]⟩, ((b.toNat : Nat) : Int), rfl, int_sgn b, by show 1 ≤ 640; decide, _, _, rfl, rfl, rfl, some (.str ⟨#[sgn b]⟩), ?_⟩
      rw [List.take_add_one, hb]
      show _ = [some (V.str (txt l)), some (V.int ((num (l.take i ++ [b]).reverse : Nat) : Int)), some (V.str ⟨#[sgn b]⟩)]
      rw [List.reverse_append]
      have e : num ([b].reverse ++ (l.take i).reverse) = b.toNat + 2 * num (l.take i).reverse := rfl
      rw [e]
      have e2 : 2 * ((num (l.take i).reverse : Nat) : Int) + ((b.toNat : Nat) : Int) = ((b.toNat + 2 * num (l.take i).reverse : Nat) : Int) := by omega
      rw [← e2]
      rfl
    · obtain ⟨rfl, y, rfl⟩ := hp
      rw [txt_size, List.take_length]
      exact ⟨_, rfl, q⟩
/-- what a folded history is -/
def fol (l : List Bool) (n b : Nat) : Nat := if n = 0 then 0 else (b % 2 ^ n) ^^^ zig n 0 l.reverse
def spFold : Sp := fun vs H Q _ => ∃ (l : List Bool) (n b : Nat), vs = [.str (txt l), .int (n : Int), .int (b : Int)] ∧ l.length ≤ 64 ∧ n ≤ 16 ∧ b < 8 ∧ ∀ H', Same H H' → Q (.int ((fol l n b : Nat) : Int)) H'
theorem ok_fold {f : Addr} {fd : FuncData} (D : Dfn P w K mg base 1 "_binary" ["history"] spBin) (md : mg "divmod" = none) (F : L2.Fun K "fold" "fold" sFold f fd) : FnOk P w K mg base L2.CX0 2 f fd ["history", "bits", "branch"] spFold := by
  refine F.ok scFold (fun vs H Q E h => ?_) (fun cdv A outer s H vs Q E hr h => ?_)
  · obtain ⟨l, n, b, rfl, _⟩ := h
    rfl
  · obtain ⟨l, n, b, rfl, hl, hn, hb, q⟩ := h
    refine ⟨_, pss_cons (ps_if (pt_cmpR op_lt (pv 1) pe_int (nomark _)) (pss_one (ps_ret pe_int)) pss_nil)
      (pss_cons (ps_set (i := 3) scFold.nd rfl (.inl rfl) (pe_op op_oneShl pe_int (pv 1)))
      (pss_cons (ps_set (i := 4) scFold.nd rfl (.inl rfl) (pe_d D hr (by decide) (by rfl) (pa_cons (pv 0) pa_nil)))
      (pss_cons (ps_set (i := 5) scFold.nd rfl (.inl rfl) (pe_op op_mod (pv 2) (pv 3)))
      (pss_cons (ps_while PassesOwn.never (pt_cmpR op_gt (pv 4) pe_int (nomark _))
        (pss_cons (ps_asg (pe_callB call_divmod (by rfl) md (by decide +kernel) (pa_cons (pv 4) (pa_cons (pv 3) pa_nil))) (pg_tup (by rfl) (pgs_cons (pg_name (i := 4) scFold.nd rfl (.inl rfl)) (pgs_cons (pg_name (i := 6) scFold.nd rfl (.inl rfl)) pgs_nil))))
        (pss_one (ps_set (i := 5) scFold.nd rfl (.inl rfl) (pe_op op_xor (pv 5) (pv 6))))))
      (pss_one (ps_ret (pv 5))))))), ?_⟩
    refine ⟨.int n, rfl, _, _, rfl, rfl, _, rfl, ite2 (fun e => ?_) (fun e => ?_)⟩
    · have h0 : (n : Int) < 1 := of_decide_eq_true e
      have : n = 0 := by omega
      subst this
      exact q H (Same.refl H)
    · have h1 : 0 < n := by
        have := mt decide_eq_true e
        omega
      have hp : (0 : Int) < 2 ^ n := Int.pow_pos (by decide)
      have hs : (2 : Int) ^ n ≤ 65536 := by
        have h2 := Nat.pow_le_pow_right (show 0 < 2 by decide) hn
        have h3 : (2 : Int) ^ n = ((2 ^ n : Nat) : Int) := by
          rw [Int.natCast_pow]
          rfl
        omega
      refine ⟨.int n, rfl, n, rfl, rfl, by omega, .str (txt l), rfl, l, rfl, .int b, rfl, .int (2 ^ n), rfl, _, _, rfl, rfl, hp, ?_⟩
      refine while_by (fun σ H' => Same H H' ∧ ∃ (f x c : Nat) (y : Option V), σ = [some (.str (txt l)), some (.int n), some (.int b), some (.int (2 ^ n)), some (.int (x : Int)), some (.int (c : Int)), y] ∧ x < 2 ^ f ∧ c ^^^ pie n f x = fol l n b)
        (fun σ _ => match σ[4]? with
          | some (some (V.int x)) => x.toNat
          | _ => 0) ⟨Same.refl H, 64, num l.reverse, b % 2 ^ n, none, ?_, ?_, ?_⟩ (fun σ H1 hpv => ?_) (fun σ H Q Q' hq ⟨v, h1, i, j, h2, h3, k, h4, h5⟩ => ⟨v, h1, i, j, h2, h3, k, h4, hq _ _ h5⟩)
      · have e : ((b : Int) % 2 ^ n) = ((b % 2 ^ n : Nat) : Int) := by
          rw [Int.natCast_emod, Int.natCast_pow]
          rfl
        rw [← e]
        rfl
      · have := num_lt l.reverse
        rw [List.length_reverse] at this
        exact Nat.lt_of_lt_of_le this (Nat.pow_le_pow_right (by decide) hl)
      · unfold fol
        rw [if_neg (by omega), pie_zig n h1 64 l.reverse (by rw [List.length_reverse]; exact hl)]
      · obtain ⟨sm, f, x, c, y, rfl, hx, hc⟩ := hpv
        refine ⟨.int x, rfl, _, _, rfl, rfl, _, rfl, ite2 (fun e => ?_) (fun e => ?_)⟩
        · have x0 : (0 : Int) < x := of_decide_eq_true e
          obtain ⟨f', rfl⟩ : ∃ f', f = f' + 1 := by
            cases f with
            | zero => simp at hx; omega
            | succ f' => exact ⟨f', rfl⟩
          refine ⟨.int x, rfl, .int (2 ^ n), rfl, x, 2 ^ n, rfl, ⟨hp, by omega⟩, fun p np => ⟨p, _, rfl, .inl (.inl upd_same), rfl, _, _, rfl, _, _, rfl, rfl, .int c, rfl, _, rfl, _, _, rfl, rfl, ?_⟩⟩
          have ex : ((x : Int) / 2 ^ n) = ((x / 2 ^ n : Nat) : Int) := by
            rw [Int.natCast_ediv, Int.natCast_pow]
            rfl
          have em : ((x : Int) % 2 ^ n) = ((x % 2 ^ n : Nat) : Int) := by
            rw [Int.natCast_emod, Int.natCast_pow]
            rfl
          refine ⟨⟨sm.trans (same_new np), f', x / 2 ^ n, c ^^^ (x % 2 ^ n), some (.int ((x : Int) % 2 ^ n)), ?_, ?_, ?_⟩, ?_⟩
          · have eb : Builtin.bitXor (c : Int) ((x : Int) % 2 ^ n) = ((c ^^^ (x % 2 ^ n) : Nat) : Int) := by
              rw [em, Bits.bitXor_pp (Int.natCast_nonneg _) (Int.natCast_nonneg _), Int.toNat_natCast, Int.toNat_natCast]
            show [some (V.str (txt l)), some (V.int n), some (V.int b), some (V.int (2 ^ n)), some (V.int ((x : Int) / 2 ^ n)), some (V.int (Builtin.bitXor (c : Int) ((x : Int) % 2 ^ n))), some (V.int ((x : Int) % 2 ^ n))] = _
            rw [eb, ex]
          · have h2 : 2 ≤ 2 ^ n := by
              have := Nat.pow_le_pow_right (show 0 < 2 by decide) h1
              simpa using this
            have : x / 2 ^ n ≤ x / 2 := Nat.div_le_div_left h2 (by decide)
            rw [Nat.pow_succ] at hx
            omega
          · rw [Nat.xor_assoc]
            exact hc
          · show ((x : Int) / 2 ^ n).toNat < (x : Int).toNat
            rw [ex, Int.toNat_natCast, Int.toNat_natCast]
            exact Nat.div_lt_self (by omega) (by
              have := Nat.pow_le_pow_right (show 0 < 2 by decide) h1
              simp at this
              omega)
        · have x0 : x = 0 := by
            have := mt decide_eq_true e
            omega
          subst x0
          rw [pie_zero, Nat.xor_zero] at hc
          subst hc
          exact ⟨_, rfl, q _ sm⟩
end
end Pf
namespace Pf
open PySem PySem.Spec PyProof.Rows L2 Gk Fold
/-! ### texts of digits -/
theorem txt_app (a b : List Bool) : txt a ++ txt b = txt (a ++ b) := by
  show (⟨(a.map sgn).toArray ++ (b.map sgn).toArray⟩ : Str) = ⟨((a ++ b).map sgn).toArray⟩
  rw [List.map_append]
  simp
theorem txt_length (l : List Bool) : (txt l).length = l.length := txt_size l
theorem fold_rep (l : List Nat) : ∀ (n : Nat) (acc : List Nat), (List.replicate n l.toArray).foldl (· ++ ·) acc.toArray = (acc ++ (List.replicate n l).flatten).toArray
  | 0, acc => by simp
  | n + 1, acc => by
    rw [List.replicate_succ, List.foldl_cons, show acc.toArray ++ l.toArray = (acc ++ l).toArray by simp, fold_rep l n, List.replicate_succ, List.flatten_cons, List.append_assoc]
theorem txt_mul (l : List Bool) (n : Nat) : Txt.mul (txt l) (n : Int) = txt (List.replicate n l).flatten := by
  unfold Txt.mul
  by_cases h0 : (n : Int) < 1
  · have : n = 0 := by omega
    subst this
    rw [if_pos h0]
    rfl
  · rw [if_neg h0]
    by_cases h1 : n = 1
    · subst h1
      rw [if_pos (by simp)]
      simp
    · by_cases h2 : l = []
      · subst h2
        rw [if_pos (by rw [txt_length]; simp)]
        have : (List.replicate n ([] : List Bool)).flatten = [] := by
          rw [List.flatten_eq_nil_iff]
          intro x hx
          exact (List.mem_replicate.mp hx).2
        rw [this]
      · have h3 : ¬ (((n : Int) == 1 || (txt l).length == 0) = true) := by
          rw [txt_length]
          simp only [Bool.or_eq_true, beq_iff_eq, not_or]
          exact ⟨by omega, fun z => h2 (List.length_eq_zero_iff.mp z)⟩
        rw [if_neg h3]
        have := fold_rep (l.map sgn) n []
        show (⟨(List.replicate (n : Int).toNat (l.map sgn).toArray).foldl (· ++ ·) #[]⟩ : Str) = _
        rw [Int.toNat_natCast]
        refine congrArg Str.mk (this.trans ?_)
        rw [List.nil_append]
        congr 1
        rw [List.map_flatten, List.map_replicate]
theorem mulOk_txt {l : List Bool} {n : Nat} (hl : l.length ≤ 100) (hn : n ≤ 1000) : MulOk (txt l) (n : Int) := by
  refine ⟨by simp; omega, fun h0 _ => ?_, fun _ _ => ?_⟩
  · rw [txt_length]
    have h1 : (0 : Int) < n := by omega
    have : (1000 : Int) ≤ (2 ^ 63 - 1) / n := by
      refine Int.le_ediv_of_mul_le h1 ?_
      omega
    omega
  · rw [txt_length]
    show decide (_ > sizeLine) = false
    refine decide_eq_false ?_
    rw [sizeLine_eq, Int.toNat_natCast]
    have := Nat.mul_le_mul hl hn
    omega
theorem txt_cut (l : List Bool) (a b : Nat) (h : a ≤ b) (hb : b ≤ l.length) : cutS (txt l) (some (a : Int)) (some (b : Int)) = txt ((l.drop a).take (b - a)) := by
  unfold cutS
  rw [HT.sIx_nat, HT.sIx_nat, txt_length, Nat.min_eq_left (show a ≤ l.length by omega), Nat.min_eq_left (show b ≤ l.length from hb)]
  show (⟨((((l.map sgn).toArray).toList.drop a).take (b - a)).toArray⟩ : Str) = ⟨(((l.drop a).take (b - a)).map sgn).toArray⟩
  rw [List.map_take, List.map_drop]
theorem glue_txt : ∀ (bs acc : List Bool), (bs.map fun b => txt [b]).foldl (fun (z : Array Nat) (p : Str) => z ++ (Str.empty).cps ++ p.cps) (txt acc).cps = (txt (acc ++ bs)).cps
  | [], acc => by simp
  | b :: bs, acc => by
    rw [List.map_cons, List.foldl_cons]
    have : (txt acc).cps ++ (Str.empty).cps ++ (txt [b]).cps = (txt (acc ++ [b])).cps := by
      have := congrArg Str.cps (txt_app acc [b])
      rw [← this]
      show (txt acc).cps ++ #[] ++ (txt [b]).cps = (txt acc).cps ++ (txt [b]).cps
      simp
    rw [this, glue_txt bs (acc ++ [b]), List.append_assoc]
    rfl
theorem join_txt (bs : List Bool) : Txt.join ("" : Str) (bs.map fun b => txt [b]) = txt bs := by
  show Builtin.Str.glued ("" : Str) (bs.map fun b => txt [b]) = _
  unfold Builtin.Str.glued
  cases bs with
  | nil => rfl
  | cons b bs =>
    have := glue_txt bs [b]
    exact congrArg Str.mk this
theorem str_bit (b : Bool) : (Str.ofString (toString (if b then (1 : Int) else 0))) = txt [b] := by cases b <;> decide +kernel
theorem int_at {os : List Int} {i : Nat} {x : V} (hx : (os.map V.int)[i]? = some x) : ∃ o, os[i]? = some o ∧ x = .int o := by
  rw [List.getElem?_map] at hx
  cases e : os[i]? with
  | none => rw [e] at hx; cases hx
  | some o =>
    rw [e] at hx
    exact ⟨o, rfl, (Option.some.inj hx).symm⟩
/-- outcomes as digits -/
def bo (os : List Int) : List Bool := os.map fun o => decide (o = 1)
theorem bo_len (os : List Int) : (bo os).length = os.length := List.length_map ..
/-- so many digits from a place on, round and round -/
def run (bs : List Bool) (a k : Nat) : List Bool := (List.range k).map fun j => bs.getD ((a + j) % bs.length) false
/-- the last digits of so many that passed, zeros ahead -/
def past (bs : List Bool) (p L : Nat) : List Bool := List.replicate (L - min p L) false ++ run bs (p - min p L) (min p L)
theorem run_len (bs : List Bool) (a k : Nat) : (run bs a k).length = k := by
  unfold run
  rw [List.length_map, List.length_range]
theorem past_len (bs : List Bool) (p L : Nat) : (past bs p L).length = L := by
  unfold past
  rw [List.length_append, List.length_replicate, run_len]
  omega
theorem rep_at {α : Type} (l : List α) (h : 0 < l.length) : ∀ (m i : Nat), i < m * l.length → ((List.replicate m l).flatten)[i]? = l[i % l.length]?
  | 0, i, hi => by simp at hi
  | m + 1, i, hi => by
    rw [List.replicate_succ, List.flatten_cons]
    by_cases g : i < l.length
    · rw [List.getElem?_append_left g, Nat.mod_eq_of_lt g]
    · rw [List.getElem?_append_right (by omega), rep_at l h m (i - l.length) (by rw [Nat.succ_mul] at hi; omega)]
      congr 1
      exact (Nat.mod_eq_sub_mod (by omega)).symm
theorem run_cut {bs : List Bool} (h : 0 < bs.length) (a k m : Nat) (hm : a % bs.length + k ≤ m * bs.length) : (((List.replicate m bs).flatten).drop (a % bs.length)).take k = run bs a k := by
  refine List.ext_getElem? fun i => ?_
  by_cases hi : i < k
  · rw [List.getElem?_take_of_lt hi, List.getElem?_drop, rep_at bs h m _ (by omega)]
    unfold run
    rw [List.getElem?_map, List.getElem?_range hi]
    have hlt : (a + i) % bs.length < bs.length := Nat.mod_lt _ h
    have e : (a % bs.length + i) % bs.length = (a + i) % bs.length := by rw [Nat.mod_add_mod]
    rw [e, List.getElem?_eq_getElem hlt]
    show _ = some (bs.getD ((a + i) % bs.length) false)
    rw [List.getD_eq_getElem?_getD, List.getElem?_eq_getElem hlt]
    rfl
  · rw [List.getElem?_eq_none (by rw [List.length_take]; omega), List.getElem?_eq_none (by rw [run_len]; omega)]
theorem rep_length (n : Nat) (l : List Bool) : ((List.replicate n l).flatten).length = n * l.length := by
  induction n with
  | zero => simp
  | succ n ih => rw [List.replicate_succ, List.flatten_cons, List.length_append, ih, Nat.succ_mul, Nat.add_comm]
theorem enough (n k a : Nat) (h : 0 < n) : a % n + k ≤ (k / n + 2) * n := by
  have h1 := Nat.div_add_mod k n
  have h2 := Nat.mod_lt k h
  have h3 := Nat.mod_lt a h
  rw [Nat.add_mul, Nat.mul_comm (k / n) n]
  omega
abbrev sNew : Stmt := topS 18
abbrev nNew : List Str := ["outcomes", "passed", "length", "known", "start", "outcome", "digits", "enough"]
theorem scNew : FnScope nNew ["outcomes", "passed", "length"] (defScope sNew) := ⟨rfl, rfl, rfl, by decide +kernel, rfl, by decide +kernel, by decide +kernel⟩
section
variable {P : Program} {w : World} {K : PySem.W.Frag} {mg : Str → Option Value} {base : Heap}
def spNew (K : PySem.W.Frag) : Sp := fun vs H Q _ => ∃ (t : Addr) (os : List Int) (p L : Nat), vs = [.ref t, .int (p : Int), .int (L : Int)] ∧ SqT K H t (os.map V.int) ∧ Bits os ∧ 1 ≤ os.length ∧ os.length ≤ 64 ∧ L ≤ 65 ∧ ∀ H', Same H H' → Q (.str (txt (past (bo os) p L))) H'
theorem ok_new {f : Addr} {fd : FuncData} {k : Nat} (mx : mg "max" = none) (mn : mg "min" = none) (ml : mg "len" = none) (ms : mg "str" = none) (F : L2.Fun K "_newest" "_newest" sNew f fd) : FnOk P w K mg base L2.CX0 (k + 1) f fd ["outcomes", "passed", "length"] (spNew K) := by
  refine F.ok scNew (fun vs H Q E h => ?_) (fun cdv A outer s H vs Q E hr h => ?_)
  · obtain ⟨t, os, p, L, rfl, _⟩ := h
    rfl
  · obtain ⟨t, os, p, L, rfl, ht, hb, o1, o64, hL, q⟩ := h
    refine ⟨_, pss_cons (ps_set (i := 3) scNew.nd rfl (.inl rfl) (pe_mid (pe_callB (call_max2 rfl) (by rfl) mx (by decide +kernel) (pa_cons pe_int (pa_cons (pe_callB (call_min2 rfl) (by rfl) mn (by decide +kernel) (pa_cons (pv 1) (pa_cons (pv 2) pa_nil))) pa_nil)))))
      (pss_cons (ps_set (i := 4) scNew.nd rfl (.inl rfl) (pe_mid (pe_op op_mod (pe_op op_sub (pv 1) (pv 3)) (pe_callB call_len_seq (by rfl) ml PySem.boot_len (pa_cons (pv 0) pa_nil)))))
      (pss_cons (ps_set (i := 6) scNew.nd rfl (.inl rfl) (pe_join pe_str (pe_lc (own := [("outcome", 5)]) (g := gName 5) (by rfl) scNew.nd (pi_tup (pv 0)) (blkOk_by (N := nNew) (sc := defScope sNew) (by decide +kernel)) (fun _ _ _ _ _ => pg_name (i := 5) scNew.nd rfl (.inl rfl)) (fun _ _ _ _ _ => pts_nil)
          (fun _ _ _ _ _ => pe_callTy call_str_int (by rfl) ms (by decide +kernel) (pa_cons (pv 5) pa_nil)))))
      (pss_cons (ps_set (i := 7) scNew.nd rfl (.inl rfl) (pe_mid (pe_op op_mulS (pv 6) (pe_mid (pe_op op_add (pe_op op_fdiv (pv 3) (pe_callB call_len_str (by rfl) ml PySem.boot_len (pa_cons (pv 6) pa_nil))) pe_int)))))
      (pss_one (ps_ret (pe_op op_add_str (pe_mid (pe_op op_mulS pe_str (pe_mid (pe_op op_sub (pv 2) (pv 3))))) (pe_slice sl_str (pv 7) (po_some (pv 4)) (po_some (pe_mid (pe_op op_add (pv 4) (pv 3))))))))))), ?_⟩
    refine ⟨fun v H' => H' = H ∧ v = .int ((min p L : Nat) : Int), ⟨.int p, rfl, .int L, rfl, _, _, rfl, _, _, rfl, rfl, ?_⟩, fun v H' hv => ?_⟩
    · congr 1
      split <;> split <;> omega
    obtain ⟨rfl, rfl⟩ := hv
    have blen := bo_len os
    have lenV : (os.map V.int).length = os.length := List.length_map ..
    have hn : (0 : Int) < ((os.map V.int).length : Nat) := by omega
    have hk : min p L ≤ 65 := by omega
    have hkL : min p L ≤ L := Nat.min_le_right _ _
    have hkp : min p L ≤ p := Nat.min_le_left _ _
    have qq : ∀ G, Same H' G → Q (.str (txt (List.replicate (L - min p L) false ++ run (bo os) (p - min p L) (min p L)))) G := q
    generalize min p L = k at *
    refine ⟨fun v G => G = H' ∧ v = .int (((p - k) % os.length : Nat) : Int), ⟨.int p, rfl, .int k, rfl, _, _, rfl, rfl, .ref t, rfl, t, _, rfl, .inr ht, _, _, rfl, rfl, hn, rfl, ?_⟩, fun v G hv => ?_⟩
    · show V.int (((p : Int) - (k : Int)) % ((os.map V.int).length : Nat)) = _
      rw [lenV, show (p : Int) - (k : Int) = ((p - k : Nat) : Int) by omega]
      rfl
    obtain ⟨rfl, rfl⟩ := hv
    refine ⟨⟨_, rfl⟩, .ref t, rfl, t, rfl, ⟨_, ht⟩, fun D nD => lc_tup (K := K) (a := t) (xs := os.map V.int) (fun i G' => Same G G' ∧ G' D = some (.lst ((((bo os).take i).map fun b => txt [b]).map V.str))) ⟨same_new nD, upd_same⟩ (fun i G' _ hp => Same.seqT hp.1 ht) (fun i x G' hx hp => ?_) (fun G' hp => ?_)⟩
    · obtain ⟨sm, hD⟩ := hp
      obtain ⟨o, ho, rfl⟩ := int_at hx
      have hi : i < os.length := (List.getElem?_eq_some_iff.mp ho).1
      have o2 := hb o (List.mem_of_getElem? ho)
      have gb : (bo os)[i]? = some (decide (o = 1)) := by
        unfold bo
        rw [List.getElem?_map, ho]
        rfl
      have es : (Str.ofString (toString o)) = txt [decide (o = 1)] := by
        rcases o2 with rfl | rfl
        · exact str_bit false
        · exact str_bit true
      refine ⟨rfl, .int o, rfl, o, rfl, ?_, _, hD, ?_, ?_, ?_⟩
      · rcases o2 with rfl | rfl <;> decide
      · rw [List.length_map, List.length_map, List.length_take]
        exact small1000 (by omega)
      · intro c u h
        rw [upd_ne (ne_of_none h nD)]
        exact sm c u h
      · rw [upd_same, List.take_add_one, gb]
        show some (HO.lst (_ ++ [V.str (Str.ofString (toString o))])) = _
        rw [es, List.map_append, List.map_append]
        rfl
    · obtain ⟨sm, hD⟩ := hp
      rw [lenV, ← blen, List.take_length] at hD
      have sums : ∀ bs : List Bool, ((bs.map fun b => txt [b]).map (·.length)).sum = bs.length := fun bs => by
        induction bs with
        | nil => rfl
        | cons b bs ih =>
          simp only [List.map_cons, List.sum_cons, List.length_cons, ih, txt_length, List.length_nil]
          omega
      refine ⟨_, D, _, rfl, rfl, .inl (.inl (.inl hD)), ?_, ?_⟩
      · rw [sums, List.length_map]
        show (bo os).length + (bo os).length * 0 ≤ 16777216
        omega
      rw [join_txt]
      have hn2 : (0 : Int) < ((bo os).length : Nat) := by omega
      have hs := Nat.mod_lt (p - k) (show 0 < os.length by omega)
      have hen : ((List.replicate (k / (bo os).length + 2) (bo os)).flatten).length ≤ 100000 := by
        rw [rep_length]
        have h1 : k / (bo os).length ≤ k := Nat.div_le_self _ _
        have := Nat.mul_le_mul (show k / (bo os).length + 2 ≤ 67 by omega) (show (bo os).length ≤ 64 by omega)
        omega
      refine ⟨fun v G2 => G2 = G' ∧ v = .str (txt (List.replicate (k / (bo os).length + 2) (bo os)).flatten), ⟨.str (txt (bo os)), rfl, fun v G2 => G2 = G' ∧ v = .int ((k / (bo os).length + 2 : Nat) : Int), ⟨.int k, rfl, .str (txt (bo os)), rfl, txt (bo os), rfl, ?_, _, _, rfl, rfl, ?_, _, _, rfl, rfl, rfl, ?_⟩, fun v G2 hv => ?_⟩, fun v G2 hv => ?_⟩
      · rw [txt_length, sizeLine_eq]
        omega
      · rw [txt_length]
        exact ⟨hn2, by omega⟩
      · show V.int ((k : Int) / ((txt (bo os)).length : Nat) + 2) = _
        rw [txt_length]
        rfl
      · obtain ⟨rfl, rfl⟩ := hv
        refine ⟨txt (bo os), _, rfl, rfl, mulOk_txt (by omega) ?_, rfl, ?_⟩
        · have h1 : k / (bo os).length ≤ k := Nat.div_le_self _ _
          omega
        · show V.str (Txt.mul (txt (bo os)) ((k / (bo os).length + 2 : Nat) : Int)) = _
          rw [txt_mul]
      obtain ⟨rfl, rfl⟩ := hv
      have ez : ("0" : Str) = txt [false] := by decide +kernel
      refine ⟨fun v G => G = G2 ∧ v = .str (txt (List.replicate (L - k) false)), ⟨fun v G => G = G2 ∧ v = .int ((L - k : Nat) : Int), ⟨.int L, rfl, .int k, rfl, _, _, rfl, rfl, rfl, ?_⟩, fun v G hv => ?_⟩, fun v G hv => ?_⟩
      · show V.int ((L : Int) - (k : Int)) = _
        congr 1
        omega
      · obtain ⟨rfl, rfl⟩ := hv
        refine ⟨("0" : Str), _, rfl, rfl, ?_, rfl, ?_⟩
        · rw [ez]
          exact mulOk_txt (by decide) (by omega)
        · show V.str (Txt.mul ("0" : Str) ((L - k : Nat) : Int)) = _
          rw [ez, txt_mul]
          congr 2
          exact List.flatten_replicate_singleton
      obtain ⟨rfl, rfl⟩ := hv
      refine ⟨.str (txt (List.replicate (k / (bo os).length + 2) (bo os)).flatten), rfl, .int (((p - k) % os.length : Nat) : Int), rfl, _, rfl, fun v G3 => G3 = G ∧ v = .int (((p - k) % os.length + k : Nat) : Int), ⟨.int _, rfl, .int k, rfl, _, _, rfl, rfl, rfl, rfl⟩, fun v G3 hv => ?_⟩
      obtain ⟨rfl, rfl⟩ := hv
      have e2 : cutS (txt (List.replicate (k / (bo os).length + 2) (bo os)).flatten) (some (((p - k) % os.length : Nat) : Int)) (some (((p - k) % os.length + k : Nat) : Int)) = txt (run (bo os) (p - k) k) := by
        have en := enough (bo os).length k (p - k) (by omega)
        rw [txt_cut _ _ _ (by omega) (by rw [rep_length, ← blen]; exact en), Nat.add_sub_cancel_left, ← blen, run_cut (by omega) _ _ _ en]
      refine ⟨_, rfl, _, rfl, ?_, _, _, rfl, rfl, ?_, ?_⟩
      · rw [txt_length, sizeLine_eq]
        omega
      · have h1 : (txt (List.replicate (L - k) false)).length + (cutS (txt (List.replicate (k / (bo os).length + 2) (bo os)).flatten) (some (((p - k) % os.length : Nat) : Int)) (some (((p - k) % os.length + k : Nat) : Int))).length ≤ sizeLine := by
          rw [e2, txt_length, txt_length, List.length_replicate, run_len, sizeLine_eq]
          omega
        exact h1
      · have h2 := qq G3 (sm)
        rw [← txt_app, ← e2] at h2
        exact h2
end
end Pf
namespace Pf
open PySem PySem.Spec PyProof.Rows L2 Gk
abbrev sPlan : Stmt := topS 33
abbrev nPlan : List Str := ["_law_box_here", "_law_most", "_law_size", "_law_kind"]
theorem scPlan : FnScope nPlan ["_law_box_here", "_law_most"] (defScope sPlan) := ⟨rfl, rfl, rfl, by decide +kernel, rfl, by decide +kernel, by decide +kernel⟩
/-- a scheme: its word, its length, its bits -/
def planV (w : Str) (z : Int) : Option Int → List V
  | none => [.str w, .int z]
  | some t => [.str w, .int z, .int t]
def PlanOk (w : Str) (z : Int) (x : Option Int) : Prop := 0 ≤ z ∧ z ≤ 64 ∧ ((w = "folded" ∧ ∃ t, x = some t ∧ 0 ≤ t ∧ t ≤ 16) ∨ ((w = "own" ∨ w = "split" ∨ w = "shared") ∧ x = none))
section
variable {P : Program} {w : World} {K : PySem.W.Frag} {mg : Str → Option Value} {base : Heap}
def spPlan (K : PySem.W.Frag) : Sp := fun vs H Q _ => ∃ (b : Addr) (most : Int) (m : Nat), vs = [.ref b, .int most] ∧ 0 ≤ most ∧ most ≤ 64 ∧ Box m H b ∧ m ≤ 990000 ∧
  ∀ H' p w z x, But b H H' → Box (m + 10) H' b → p ≠ b → H p = none → H' p = some (.tup (planV w z x)) → PlanOk w z x → Q (.ref p) H'
theorem ok_plan {f : Addr} {fd : FuncData} (DT : Dfn P w K mg base 1 "_law_take" ["_law_box_here", "_law_many"] spTake) (DO : Dfn P w K mg base 2 "_law_of" ["_law_box_here", "_law_some"] (spOf K)) (mn : mg "min" = none)
    (F : L2.Fun K "_law_plan" "_law_plan" sPlan f fd) : FnOk P w K mg base L2.CX0 3 f fd ["_law_box_here", "_law_most"] (spPlan K) := by
  refine F.ok scPlan (fun vs H Q E h => ?_) (fun cdv A outer s H vs Q E hr h => ?_)
  · obtain ⟨b, most, m, rfl, _⟩ := h
    rfl
  · obtain ⟨b, most, m, rfl, m0, m1, hb, hm, q⟩ := h
    refine ⟨_, C8.pss_cut (ps_set (i := 2) scPlan.nd rfl (.inl rfl) (pe_d DO hr (by decide) (by rfl) (pa_cons (pv 0) (pa_cons (pe_lst (pa_cons (pe_d DT hr (by decide) (by rfl) (pa_cons (pv 0) (pa_cons pe_int pa_nil))) (pa_cons (pe_d DT hr (by decide) (by rfl) (pa_cons (pv 0) (pa_cons (pe_op op_add (pv 1) pe_int) pa_nil)))
          (pa_cons (pe_callB (call_min2 rfl) (by rfl) mn (by decide +kernel) (pa_cons pe_int (pa_cons (pv 1) pa_nil))) pa_nil)))) pa_nil))))
      (C8.pss_cut (ps_set (i := 3) scPlan.nd rfl (.inl rfl) (pe_d DO hr (by decide) (by rfl) (pa_cons (pv 0) (pa_cons (pe_lst (pa_cons pe_str (pa_cons pe_str (pa_cons pe_str (pa_cons pe_str (pa_cons pe_str pa_nil)))))) pa_nil))))
      (pss_one (ps_ret (pe_ifExp (pt_cmpR op_eq (pv 3) pe_str (nomark _)) (pe_tup (pa_cons (pv 3) (pa_cons (pv 2) (pa_cons (pe_d DT hr (by decide) (by rfl) (pa_cons (pv 0) (pa_cons pe_int pa_nil))) pa_nil)))) (pe_tup (pa_cons (pv 3) (pa_cons (pv 2) pa_nil))))))), ?_⟩
    refine ⟨fun σ H' => ∃ z : Int, σ = [some (.ref b), some (.int most), some (.int z), none] ∧ 0 ≤ z ∧ z ≤ 64 ∧ But b H H' ∧ Box (m + 3) H' b, ?_, fun σ H1 hM => ?_⟩
    · refine ⟨.ref b, rfl, .ref b, rfl, b, 4, m, rfl, by decide, by decide, hb, by omega, fun d1 H1 a1 a2 bt1 bx1 sm1 => ⟨.ref b, rfl, .int most, rfl, _, _, rfl, rfl, b, most + 1, m + 1, rfl, by omega, by omega, bx1, by omega, fun d2 H2 c1 c2 bt2 bx2 sm2 => ⟨.int most, rfl, _, _, rfl, by show 3 ≤ sizeLine; decide, fun p np => ?_⟩⟩⟩
      have bx3 := bx2.same (same_new (o := .lst [.int d1, .int d2, .int (if most < 2 then most else 2)]) np)
      refine ⟨b, p, _, m + 1 + 1, rfl, SqL.of upd_same, (bx2.ne np).symm, by show 0 < 3; decide, by show 3 ≤ 1000; decide, bx3, by omega, fun i v H4 g bt4 bx4 sm4 => ?_⟩
      have btE : But b H H4 := ((bt1.trans bt2).trans (But.new np)).trans bt4
      match i, g with
      | 0, g => exact ⟨d1, by rw [← Option.some.inj g]; rfl, a1, by omega, btE, bx4⟩
      | 1, g => exact ⟨d2, by rw [← Option.some.inj g]; rfl, c1, by omega, btE, bx4⟩
      | 2, g => exact ⟨_, by rw [← Option.some.inj g]; rfl, by split <;> omega, by split <;> omega, btE, bx4⟩
    · obtain ⟨z, rfl, z0, z1, bt1, bx1⟩ := hM
      refine ⟨fun σ H' => ∃ k : Str, σ = [some (.ref b), some (.int most), some (.int z), some (.str k)] ∧ (k = "folded" ∨ (k = "own" ∨ k = "split" ∨ k = "shared")) ∧ But b H H' ∧ Box (m + 4) H' b, ?_, fun σ H2 hM => ?_⟩
      · refine ⟨.ref b, rfl, by show 5 ≤ sizeLine; decide, fun p np => ?_⟩
        have bx3 := bx1.same (same_new (o := .lst [.str "own", .str "split", .str "shared", .str "shared", .str "folded"]) np)
        refine ⟨b, p, _, m + 3, rfl, SqL.of upd_same, (bx1.ne np).symm, by show 0 < 5; decide, by show 5 ≤ 1000; decide, bx3, by omega, fun i v H4 g bt4 bx4 sm4 => ?_⟩
        have btE : But b H H4 := (bt1.trans (But.new np)).trans bt4
        match i, g with
        | 0, g => exact ⟨"own", by rw [← Option.some.inj g]; rfl, .inr (.inl rfl), btE, bx4⟩
        | 1, g => exact ⟨"split", by rw [← Option.some.inj g]; rfl, .inr (.inr (.inl rfl)), btE, bx4⟩
        | 2, g => exact ⟨"shared", by rw [← Option.some.inj g]; rfl, .inr (.inr (.inr rfl)), btE, bx4⟩
        | 3, g => exact ⟨"shared", by rw [← Option.some.inj g]; rfl, .inr (.inr (.inr rfl)), btE, bx4⟩
        | 4, g => exact ⟨"folded", by rw [← Option.some.inj g]; rfl, .inl rfl, btE, bx4⟩
      · obtain ⟨k, rfl, hk, bt2, bx2⟩ := hM
        have gone : ∀ {H3 : Hp} {p : Addr}, But b H H3 → Box (m + 10) H3 b → H3 p = none → H p = none := fun {H3 p} bt bx np => by
          cases e : H p with
          | none => rfl
          | some o =>
            have := bt p o (bx.ne np).symm e
            rw [np] at this
            cases this
        refine ⟨.str k, rfl, rfl, _, rfl, ite2 (fun e => ?_) (fun e => ?_)⟩
        · have e1 : V.str k = V.str "folded" := of_decide_eq_true e
          injection e1 with e2
          refine ⟨.str k, rfl, .int z, rfl, .ref b, rfl, b, 17, m + 4, rfl, by decide, by decide, bx2, by omega, fun t H3 t0 t1 bt3 bx3 sm3 => ⟨by show 3 ≤ sizeLine; decide, fun p np => ?_⟩⟩
          have bxu : Box (m + 10) H3 b := bx3.up (by omega)
          exact q _ p k z (some t) ((bt2.trans bt3).trans (But.new np)) (bxu.same (same_new np)) (bxu.ne np).symm (gone (bt2.trans bt3) bxu np) upd_same ⟨z0, z1, .inl ⟨e2, t, rfl, t0, by omega⟩⟩
        · have ne : k ≠ "folded" := fun h => e (decide_eq_true (by rw [h]))
          refine ⟨.str k, rfl, .int z, rfl, by show 2 ≤ sizeLine; decide, fun p np => ?_⟩
          have bxu : Box (m + 10) H2 b := bx2.up (by omega)
          exact q _ p k z none (bt2.trans (But.new np)) (bxu.same (same_new np)) (bxu.ne np).symm (gone bt2 bxu np) upd_same ⟨z0, z1, .inr ⟨hk.elim (fun h => absurd h ne) id, rfl⟩⟩
end
end Pf
namespace Pf
open PySem PySem.Spec PyProof.Rows L2 Gk Fold
/-! ### histories and cells -/
def brAt (l : List (Int × Int)) (m : Nat) : Int := (l.getD (m % l.length) (0, 0)).1
def hOs (l : List (Int × Int)) (w : Str) (m : Nat) : List Int := if w = "own" then outs (brAt l m) l else l.map (·.2)
def hN (l : List (Int × Int)) (w : Str) (m : Nat) : Nat := if w = "own" then m / l.length * (outs (brAt l m) l).length + (outs (brAt l m) (l.take (m % l.length))).length else m
def hist (l : List (Int × Int)) (w : Str) (m L : Nat) : List Bool := past (bo (hOs l w m)) (hN l w m) L
def cellD (w : Str) (x : Option Int) (b : Nat) (h : List Bool) : PyData := if w = "folded" then .int ((fol h (x.getD 0).toNat b : Nat) : Int) else if w = "shared" then .str (txt h) else .tuple [.int (b : Int), .str (txt h)]
theorem hist_len (l : List (Int × Int)) (w : Str) (m L : Nat) : (hist l w m L).length = L := past_len _ _ _
theorem at_mod {l : List (Int × Int)} (h : 1 ≤ l.length) (m : Nat) : l[m % l.length]? = some (l.getD (m % l.length) (0, 0)) := by
  have : m % l.length < l.length := Nat.mod_lt _ h
  rw [List.getD_eq_getElem?_getD, List.getElem?_eq_getElem this]
  rfl
theorem brAt_in {l : List (Int × Int)} (h : 1 ≤ l.length) (m : Nat) : ∃ x ∈ l, x.1 = brAt l m := ⟨_, List.mem_of_getElem? (at_mod h m), rfl⟩
theorem outs_pos {l : List (Int × Int)} {b : Int} (h : ∃ x ∈ l, x.1 = b) : 1 ≤ (outs b l).length := by
  obtain ⟨x, hx, e⟩ := h
  unfold outs
  rw [List.length_map]
  exact List.length_pos_of_mem (List.mem_filter.mpr ⟨hx, decide_eq_true e⟩)
theorem hOs_ok {l : List (Int × Int)} (fair : Fair l) (h : 1 ≤ l.length) (h2 : l.length ≤ 64) (w : Str) (m : Nat) : Bits (hOs l w m) ∧ 1 ≤ (hOs l w m).length ∧ (hOs l w m).length ≤ 64 := by
  unfold hOs
  split
  · have := outs_len (brAt l m) l
    exact ⟨outs_bits fair, outs_pos (brAt_in h m), by omega⟩
  · refine ⟨fun o ho => ?_, by rw [List.length_map]; exact h, by rw [List.length_map]; exact h2⟩
    obtain ⟨x, hx, rfl⟩ := List.mem_map.mp ho
    exact (fair x hx).2
theorem planV0 (w : Str) (z : Int) (x : Option Int) : atI (planV w z x) 0 = some (.str w) := by cases x <;> rfl
theorem planV1 (w : Str) (z : Int) (x : Option Int) : atI (planV w z x) 1 = some (.int z) := by cases x <;> rfl
abbrev sHist : Stmt := topS 12
abbrev sCellOf : Stmt := topS 16
abbrev sCellAt : Stmt := topS 13
abbrev nHist : List Str := ["trace", "scheme", "moment", "rounds", "position", "branch", "outcomes", "passed"]
abbrev nCellAt : List Str := ["trace", "scheme", "moment", "branch"]
theorem scHist : FnScope nHist ["trace", "scheme", "moment"] (defScope sHist) := ⟨rfl, rfl, rfl, by decide +kernel, rfl, by decide +kernel, by decide +kernel⟩
theorem scCellOf : FnScope ["scheme", "branch", "history"] ["scheme", "branch", "history"] (defScope sCellOf) := ⟨rfl, rfl, rfl, by decide +kernel, rfl, by decide +kernel, by decide +kernel⟩
theorem scCellAt : FnScope nCellAt ["trace", "scheme", "moment"] (defScope sCellAt) := ⟨rfl, rfl, rfl, by decide +kernel, rfl, by decide +kernel, by decide +kernel⟩
section
variable {P : Program} {w : World} {K : PySem.W.Frag} {mg : Str → Option Value} {base : Heap}
def spHist (K : PySem.W.Frag) : Sp := fun vs H Q _ => ∃ (t c : Addr) (l : List (Int × Int)) (k : Str) (z : Int) (x : Option Int) (m : Nat), vs = [.ref t, .ref c, .int (m : Int)] ∧ PairsAt K H t l ∧ Fair l ∧ 1 ≤ l.length ∧ l.length ≤ 64 ∧ SqT K H c (planV k z x) ∧ 0 ≤ z ∧ z ≤ 65 ∧ m ≤ 10 ^ 19 ∧
  ∀ H', Same H H' → Q (.str (txt (hist l k m z.toNat))) H'
theorem ok_hist {f : Addr} {fd : FuncData} (DO : Dfn P w K mg base 2 "outcomes_of" ["trace", "branch"] (spOuts K)) (DA : Dfn P w K mg base 1 "all_outcomes" ["trace"] (spAll K)) (DT : Dfn P w K mg base 1 "_times" ["pairs", "branch"] (spTimes K)) (DN : Dfn P w K mg base 1 "_newest" ["outcomes", "passed", "length"] (spNew K))
    (ml : mg "len" = none) (md : mg "divmod" = none) (F : L2.Fun K "history_at" "history_at" sHist f fd) : FnOk P w K mg base L2.CX0 3 f fd ["trace", "scheme", "moment"] (spHist K) := by
  refine F.ok scHist (fun vs H Q E h => ?_) (fun cdv A outer s H vs Q E hr h => ?_)
  · obtain ⟨t, c, l, k, z, x, m, rfl, _⟩ := h
    rfl
  · obtain ⟨t, c, l, k, z, x, m, rfl, hl, fair, l1, l64, hc, z0, z1, hm, q⟩ := h
    obtain ⟨xs, sq, hA, len⟩ := PairsAt.out hl
    refine ⟨_, pss_cons (ps_asg (pe_callB call_divmod (by rfl) md (by decide +kernel) (pa_cons (pv 2) (pa_cons (pe_callB call_len_seq (by rfl) ml PySem.boot_len (pa_cons (pv 0) pa_nil)) pa_nil))) (pg_tup (by rfl) (pgs_cons (pg_name (i := 3) scHist.nd rfl (.inl rfl)) (pgs_cons (pg_name (i := 4) scHist.nd rfl (.inl rfl)) pgs_nil))))
      (C8.pss_cut (ps_if (pt_cmpR op_eq (pe_ix ix_tup (pv 1) pe_int (fun _ _ => rfl)) pe_str (nomark _))
          (pss_cons (ps_set (i := 5) scHist.nd rfl (.inl rfl) (pe_ix ix_tup (pe_ix ix_tup (pv 0) (pv 4) (fun _ _ => rfl)) pe_int (fun _ _ => rfl)))
          (pss_cons (ps_set (i := 6) scHist.nd rfl (.inl rfl) (pe_d DO hr (by decide) (by rfl) (pa_cons (pv 0) (pa_cons (pv 5) pa_nil))))
          (pss_one (ps_set (i := 7) scHist.nd rfl (.inl rfl) (pe_op op_add (pe_op op_mul (pv 3) (pe_callB call_len_seq (by rfl) ml PySem.boot_len (pa_cons (pv 6) pa_nil))) (pe_d DT hr (by decide) (by rfl) (pa_cons (pe_slice sl_tupU (pv 0) po_none (po_some (pv 4))) (pa_cons (pv 5) pa_nil))))))))
          (pss_cons (ps_set (i := 6) scHist.nd rfl (.inl rfl) (pe_d DA hr (by decide) (by rfl) (pa_cons (pv 0) pa_nil)))
          (pss_one (ps_set (i := 7) scHist.nd rfl (.inl rfl) (pv 2)))))
      (pss_one (ps_ret (pe_d DN hr (by decide) (by rfl) (pa_cons (pv 6) (pa_cons (pv 7) (pa_cons (pe_ix ix_tup (pv 1) pe_int (fun _ _ => rfl)) pa_nil))))))), ?_⟩
    have lpos : (0 : Int) < (xs.length : Nat) := by omega
    have hpm : m % l.length < l.length := Nat.mod_lt _ (by omega)
    refine ⟨.int m, rfl, .ref t, rfl, t, _, rfl, .inr sq, _, _, rfl, ⟨lpos, by omega⟩, fun d nd => ⟨d, _, rfl, .inl (.inl upd_same), rfl, _, _, rfl, _, _, rfl, rfl, ?_⟩⟩
    have s1 : Same H (upd H d (.tup [.int ((m : Int) / (xs.length : Nat)), .int ((m : Int) % (xs.length : Nat))])) := same_new nd
    generalize upd H d (.tup [.int ((m : Int) / (xs.length : Nat)), .int ((m : Int) % (xs.length : Nat))]) = H1 at s1
    refine ⟨fun σ H' => ∃ (p : Addr) (y3 y4 y5 : Option V), σ = [some (.ref t), some (.ref c), some (.int m), y3, y4, y5, some (.ref p), some (.int (hN l k m : Nat))] ∧ SqT K H' p ((hOs l k m).map V.int) ∧ Same H H', ?_, fun σ H' hM => ?_⟩
    · have sq1 := Same.seqT s1 sq
      have ed : ((m : Int) / (xs.length : Nat)) = ((m / l.length : Nat) : Int) := by rw [len]; rfl
      have em : ((m : Int) % (xs.length : Nat)) = ((m % l.length : Nat) : Int) := by rw [len]; rfl
      rw [ed, em]
      refine ⟨.ref c, rfl, c, _, 0, .str k, rfl, rfl, Same.seqT s1 hc, planV0 _ _ _, rfl, _, rfl, ite2 (fun e => ?_) (fun e => ?_)⟩
      · have e1 : V.str k = V.str "own" := of_decide_eq_true e
        injection e1 with e1
        have gx : xs[m % l.length]? = some (xs[m % l.length]'(by omega)) := List.getElem?_eq_getElem (by omega)
        obtain ⟨y, a, hy, ea, sa⟩ := pd_at hA gx
        have ey : y = l.getD (m % l.length) (0, 0) := Option.some.inj (hy.symm.trans (at_mod l1 m))
        have eb : y.1 = brAt l m := by rw [ey]; rfl
        have gat : atI xs ((m % l.length : Nat) : Int) = some (.ref a) := by rw [atI_nat gx, ea]
        refine ⟨.ref t, rfl, .int ((m % l.length : Nat) : Int), rfl, t, xs, _, .ref a, rfl, rfl, sq1, gat, a, _, 0, .int y.1, rfl, rfl, Same.seqT s1 sa, rfl, ?_⟩
        rw [eb]
        refine ⟨.ref t, rfl, .int (brAt l m), rfl, t, l, brAt l m, rfl, hl.keep (Same.keep s1), fair, l64, brAt_in l1 m, fun H2 p s2 t2 => ?_⟩
        have lo := outs_len (brAt l m) l
        refine ⟨.int ((m / l.length : Nat) : Int), rfl, .ref p, rfl, p, _, rfl, .inr t2, _, _, rfl, rfl, .inr ⟨by rw [List.length_map]; omega, by rw [List.length_map]; omega⟩, .ref t, rfl, .int ((m % l.length : Nat) : Int), rfl, _, rfl, t, xs, rfl, Same.seqT s2 sq1, fun r H3 s3 t3 => ?_⟩
        have ec : cutV xs none (some ((m % l.length : Nat) : Int)) = xs.take (m % l.length) := cut_to _
        rw [ec] at t3
        have s13 := (s1.trans s2).trans s3
        have pr : PairsAt K H3 r (l.take (m % l.length)) := .tup t3 (by rw [List.map_take]; exact DpAll.take _ (pairs_keep hA (Same.keep s13)))
        refine ⟨.int (brAt l m), rfl, r, l.take (m % l.length), brAt l m, rfl, pr, by rw [List.length_take]; omega, fun H4 s4 => ⟨_, _, rfl, rfl, p, some (.int ((m / l.length : Nat) : Int)), some (.int ((m % l.length : Nat) : Int)), some (.int (brAt l m)), ?_, ?_, s13.trans s4⟩⟩
        · have : hN l k m = m / l.length * (outs (brAt l m) l).length + (outs (brAt l m) (l.take (m % l.length))).length := by
            unfold hN
            rw [if_pos e1]
          rw [this, List.length_map]
          rfl
        · have : hOs l k m = outs (brAt l m) l := by
            unfold hOs
            rw [if_pos e1]
          rw [this]
          exact Same.seqT (s3.trans s4) t2
      · have ne : k ≠ "own" := fun z => e (decide_eq_true (by rw [z]))
        refine ⟨.ref t, rfl, t, l, rfl, hl.keep (Same.keep s1), l64, fun H2 p s2 t2 => ⟨.int m, rfl, p, some (.int ((m / l.length : Nat) : Int)), some (.int ((m % l.length : Nat) : Int)), none, ?_, ?_, s1.trans s2⟩⟩
        · have : hN l k m = m := by
            unfold hN
            rw [if_neg ne]
          rw [this]
          rfl
        · have : hOs l k m = l.map (·.2) := by
            unfold hOs
            rw [if_neg ne]
          rw [this]
          exact t2
    · obtain ⟨p, y3, y4, y5, rfl, tp, sm⟩ := hM
      obtain ⟨b1, b2, b3⟩ := hOs_ok fair l1 l64 k m
      refine ⟨.ref p, rfl, .int (hN l k m : Nat), rfl, .ref c, rfl, c, _, 1, .int z, rfl, rfl, Same.seqT sm hc, planV1 _ _ _, p, hOs l k m, hN l k m, z.toNat, ?_, tp, b1, b2, b3, by omega, fun H2 s2 => q H2 (sm.trans s2)⟩
      rw [Int.toNat_of_nonneg z0]
      rfl
def spCell (K : PySem.W.Frag) : Sp := fun vs H Q _ => ∃ (c : Addr) (k : Str) (z : Int) (x : Option Int) (b : Nat) (h : List Bool), vs = [.ref c, .int (b : Int), .str (txt h)] ∧ SqT K H c (planV k z x) ∧ PlanOk k z x ∧ b < 8 ∧ h.length ≤ 64 ∧ ∀ H' v, Same H H' → Dp K H' v (cellD k x b h) → Q v H'
theorem ok_cell {f : Addr} {fd : FuncData} (DF : Dfn P w K mg base 2 "fold" ["history", "bits", "branch"] spFold) (F : L2.Fun K "cell_of" "cell_of" sCellOf f fd) : FnOk P w K mg base L2.CX0 3 f fd ["scheme", "branch", "history"] (spCell K) := by
  refine F.ok scCellOf (fun vs H Q E h => ?_) (fun cdv A outer s H vs Q E hr h => ?_)
  · obtain ⟨c, k, z, x, b, h, rfl, _⟩ := h
    rfl
  · obtain ⟨c, k, z, x, b, h, rfl, hc, ok, hb, hh, q⟩ := h
    refine ⟨_, pss_cons (ps_if (pt_cmpR op_eq (pe_ix ix_tup (pv 0) pe_int (fun _ _ => rfl)) pe_str (nomark _)) (pss_one (ps_ret (pe_d DF hr (by decide) (by rfl) (pa_cons (pv 2) (pa_cons (pe_ix ix_tup (pv 0) pe_int (fun _ _ => rfl)) (pa_cons (pv 1) pa_nil)))))) pss_nil)
      (pss_cons (ps_if (pt_cmpR op_eq (pe_ix ix_tup (pv 0) pe_int (fun _ _ => rfl)) pe_str (nomark _)) (pss_one (ps_ret (pv 2))) pss_nil)
      (pss_one (ps_ret (pe_tup (pa_cons (pv 1) (pa_cons (pv 2) pa_nil)))))), ?_⟩
    refine ⟨.ref c, rfl, c, _, 0, .str k, rfl, rfl, hc, planV0 _ _ _, rfl, _, rfl, ite2 (fun e => ?_) (fun e => ?_)⟩
    · have e1 : V.str k = V.str "folded" := of_decide_eq_true e
      injection e1 with e1
      obtain ⟨_, _, ⟨_, t, rfl, t0, t1⟩ | ⟨h2, _⟩⟩ := ok
      · refine ⟨.str (txt h), rfl, .ref c, rfl, c, _, 2, .int t, rfl, rfl, hc, rfl, .int b, rfl, h, t.toNat, b, ?_, hh, by omega, hb, fun H' s' => q H' _ s' ?_⟩
        · rw [Int.toNat_of_nonneg t0]
          rfl
        · unfold cellD
          rw [if_pos e1]
          exact .int _
      · rw [e1] at h2
        exact absurd h2 (by decide +kernel)
    · have ne : k ≠ "folded" := fun z => e (decide_eq_true (by rw [z]))
      refine ⟨.ref c, rfl, c, _, 0, .str k, rfl, rfl, hc, planV0 _ _ _, rfl, _, rfl, ite2 (fun g => ?_) (fun g => ?_)⟩
      · have g1 : V.str k = V.str "shared" := of_decide_eq_true g
        injection g1 with g1
        refine ⟨.str (txt h), rfl, q H _ (Same.refl H) ?_⟩
        unfold cellD
        rw [if_neg ne, if_pos g1]
        exact .str _
      · have ng : k ≠ "shared" := fun z => g (decide_eq_true (by rw [z]))
        refine ⟨.int b, rfl, .str (txt h), rfl, by show 2 ≤ sizeLine; decide, fun p np => q _ _ (same_new np) ?_⟩
        unfold cellD
        rw [if_neg ne, if_neg ng]
        exact .tup (.inl (.inl upd_same)) (.cons (.int _) (.cons (.str _) .nil))
def cellA (l : List (Int × Int)) (k : Str) (z : Int) (x : Option Int) (m : Nat) : PyData := cellD k x (brAt l m).toNat (hist l k m z.toNat)
def spCellAt (K : PySem.W.Frag) : Sp := fun vs H Q _ => ∃ (t c : Addr) (l : List (Int × Int)) (k : Str) (z : Int) (x : Option Int) (m : Nat), vs = [.ref t, .ref c, .int (m : Int)] ∧ PairsAt K H t l ∧ Fair l ∧ 1 ≤ l.length ∧ l.length ≤ 64 ∧ SqT K H c (planV k z x) ∧ PlanOk k z x ∧ m ≤ 10 ^ 19 ∧
  ∀ H' v, Same H H' → Dp K H' v (cellA l k z x m) → Q v H'
theorem ok_cellAt {f : Addr} {fd : FuncData} (DH : Dfn P w K mg base 3 "history_at" ["trace", "scheme", "moment"] (spHist K)) (DC : Dfn P w K mg base 3 "cell_of" ["scheme", "branch", "history"] (spCell K)) (ml : mg "len" = none)
    (F : L2.Fun K "cell_at" "cell_at" sCellAt f fd) : FnOk P w K mg base L2.CX0 4 f fd ["trace", "scheme", "moment"] (spCellAt K) := by
  refine F.ok scCellAt (fun vs H Q E h => ?_) (fun cdv A outer s H vs Q E hr h => ?_)
  · obtain ⟨t, c, l, k, z, x, m, rfl, _⟩ := h
    rfl
  · obtain ⟨t, c, l, k, z, x, m, rfl, hl, fair, l1, l64, hc, ok, hm, q⟩ := h
    obtain ⟨xs, sq, hA, len⟩ := PairsAt.out hl
    refine ⟨_, pss_cons (ps_set (i := 3) scCellAt.nd rfl (.inl rfl) (pe_ix ix_tup (pe_ix ix_tup (pv 0) (pe_mid (pe_op op_mod (pv 2) (pe_callB call_len_seq (by rfl) ml PySem.boot_len (pa_cons (pv 0) pa_nil)))) (fun _ _ => rfl)) pe_int (fun _ _ => rfl)))
      (pss_one (ps_ret (pe_d DC hr (by decide) (by rfl) (pa_cons (pv 1) (pa_cons (pv 3) (pa_cons (pe_d DH hr (by decide) (by rfl) (pa_cons (pv 0) (pa_cons (pv 1) (pa_cons (pv 2) pa_nil)))) pa_nil)))))), ?_⟩
    have lpos : (0 : Int) < (xs.length : Nat) := by omega
    have hpm : m % l.length < l.length := Nat.mod_lt _ (by omega)
    refine ⟨.ref t, rfl, fun v H' => H' = H ∧ v = .int ((m % l.length : Nat) : Int), ⟨.int m, rfl, .ref t, rfl, t, _, rfl, .inr sq, _, _, rfl, rfl, lpos, rfl, ?_⟩, fun v H' hv => ?_⟩
    · show V.int ((m : Int) % (xs.length : Nat)) = _
      rw [len]
      rfl
    obtain ⟨rfl, rfl⟩ := hv
    have gx : xs[m % l.length]? = some (xs[m % l.length]'(by omega)) := List.getElem?_eq_getElem (by omega)
    obtain ⟨y, a, hy, ea, sa⟩ := pd_at hA gx
    have ey : y = l.getD (m % l.length) (0, 0) := Option.some.inj (hy.symm.trans (at_mod l1 m))
    have eb : y.1 = brAt l m := by rw [ey]; rfl
    have fy := fair y (List.mem_of_getElem? hy)
    rw [eb] at fy
    have gat : atI xs ((m % l.length : Nat) : Int) = some (.ref a) := by rw [atI_nat gx, ea]
    refine ⟨t, xs, _, .ref a, rfl, rfl, sq, gat, a, _, 0, .int y.1, rfl, rfl, sa, rfl, ?_⟩
    rw [eb]
    refine ⟨.ref c, rfl, .int (brAt l m), rfl, .ref t, rfl, .ref c, rfl, .int m, rfl, t, c, l, k, z, x, m, rfl, hl, fair, l1, l64, hc, ok.1, by have := ok.2.1; omega, hm, fun H2 s2 => ?_⟩
    refine ⟨c, k, z, x, (brAt l m).toNat, hist l k m z.toNat, ?_, Same.seqT s2 hc, ok, by omega, by rw [hist_len]; have := ok.2.1; omega, fun H3 v s3 d3 => q H3 v (s2.trans s3) d3⟩
    rw [Int.toNat_of_nonneg fy.1.1]
    rfl
end
end Pf
namespace Pf
open PySem PySem.Spec PyProof.Rows L2 Gk Fold
theorem pt_mid {X : Cx} {e : Expr} {t : TT} (h : PT X e t) : PT X e (tMidT t) :=
  ⟨fun pins s σ H Q I ⟨M, h1, h2⟩ => thn (h.run pins s σ H M I h1) fun u s1 ⟨H1, I1, q⟩ => ⟨H1, I1, h2 u H1 q⟩⟩
/-! ### backward from a moment -/
/-- how many outcomes that count came ahead of a moment -/
def cj (l : List (Int × Int)) (k : Str) (b : Int) (j : Nat) : Nat := if k = "own" then j / l.length * (outs b l).length + (outs b (l.take (j % l.length))).length else j
/-- whether the outcome of a moment counts -/
def counts (l : List (Int × Int)) (k : Str) (b : Int) (j : Nat) : Prop := k ≠ "own" ∨ brAt l j = b
theorem cj_zero (l : List (Int × Int)) (k : Str) (b : Int) : cj l k b 0 = 0 := by
  unfold cj
  split
  · simp [outs]
  · rfl
theorem cj_step {l : List (Int × Int)} (h : 1 ≤ l.length) (k : Str) (b : Int) (j : Nat) [Decidable (counts l k b j)] : cj l k b (j + 1) = cj l k b j + (if counts l k b j then 1 else 0) := by
  by_cases e : k = "own"
  · unfold cj
    rw [if_pos e, if_pos e]
    have hj := at_mod h j
    have ot := outs_take (b := b) hj
    have one : (outs b (l.take (j % l.length + 1))).length = (outs b (l.take (j % l.length))).length + (if counts l k b j then 1 else 0) := by
      rw [ot, List.length_append]
      congr 1
      by_cases g : brAt l j = b
      · rw [if_pos (show counts l k b j from .inr g), if_pos (show (l.getD (j % l.length) (0, 0)).1 = b from g)]
        rfl
      · rw [if_neg (fun z : counts l k b j => z.elim (fun z => z e) g), if_neg (show ¬ (l.getD (j % l.length) (0, 0)).1 = b from g)]
        rfl
    have lt : j % l.length < l.length := Nat.mod_lt _ h
    by_cases g : j % l.length + 1 < l.length
    · have em : (j + 1) % l.length = j % l.length + 1 := by
        rw [Nat.add_mod, Nat.mod_eq_of_lt (show 1 < l.length by omega), Nat.mod_eq_of_lt g]
      have ed : (j + 1) / l.length = j / l.length := by
        have h1 := Nat.div_add_mod (j + 1) l.length
        have h2 := Nat.div_add_mod j l.length
        rw [em] at h1
        have h3 : l.length * ((j + 1) / l.length) = l.length * (j / l.length) := by omega
        exact Nat.eq_of_mul_eq_mul_left h h3
      rw [em, ed, one]
      omega
    · have g2 : j % l.length + 1 = l.length := by omega
      have h2 := Nat.div_add_mod j l.length
      have ej : j + 1 = l.length * (j / l.length + 1) := by rw [Nat.mul_add]; omega
      have em : (j + 1) % l.length = 0 := by rw [ej, Nat.mul_mod_right]
      have ed : (j + 1) / l.length = j / l.length + 1 := by rw [ej, Nat.mul_div_cancel_left _ h]
      rw [em, ed]
      rw [g2, List.take_length] at one
      rw [List.take_zero, show (outs b ([] : List (Int × Int))).length = 0 from rfl, Nat.add_mul, one]
      omega
  · unfold cj
    rw [if_neg e, if_neg e, if_pos (show counts l k b j from .inl e)]
theorem outs_at {b : Int} {l : List (Int × Int)} {i : Nat} {x : Int × Int} (h : l[i]? = some x) (e : x.1 = b) : (outs b l)[(outs b (l.take i)).length]? = some x.2 := by
  have hi : i < l.length := (List.getElem?_eq_some_iff.mp h).1
  have sp : l = l.take (i + 1) ++ l.drop (i + 1) := (List.take_append_drop _ _).symm
  have os : outs b l = outs b (l.take (i + 1)) ++ outs b (l.drop (i + 1)) := by
    conv => lhs; rw [sp]
    unfold outs
    rw [List.filter_append, List.map_append]
  rw [os, outs_take h, if_pos e, List.append_assoc, List.getElem?_append_right (Nat.le_refl _), Nat.sub_self]
  rfl
/-- the digits that are gone round -/
def hB (l : List (Int × Int)) (k : Str) (b : Int) : List Bool := bo (if k = "own" then outs b l else l.map (·.2))
theorem cj_dig {l : List (Int × Int)} (h : 1 ≤ l.length) {k : Str} {b : Int} {j : Nat} (c : counts l k b j) : (hB l k b).getD (cj l k b j % (hB l k b).length) false = decide ((l.getD (j % l.length) (0, 0)).2 = 1) := by
  have hj := at_mod h j
  have lt : j % l.length < l.length := Nat.mod_lt _ h
  unfold hB
  rw [bo_len]
  by_cases e : k = "own"
  · rw [if_pos e]
    have eb : brAt l j = b := c.resolve_left fun z => z e
    have oa := outs_at hj eb
    have lq : (outs b (l.take (j % l.length))).length < (outs b l).length := (List.getElem?_eq_some_iff.mp oa).1
    have ec : cj l k b j % (outs b l).length = (outs b (l.take (j % l.length))).length := by
      unfold cj
      rw [if_pos e, Nat.mul_comm, Nat.mul_add_mod, Nat.mod_eq_of_lt lq]
    rw [ec, List.getD_eq_getElem?_getD]
    unfold bo
    rw [List.getElem?_map, oa]
    rfl
  · rw [if_neg e, List.length_map]
    have ec : cj l k b j = j := by
      unfold cj
      rw [if_neg e]
    rw [ec, List.getD_eq_getElem?_getD]
    unfold bo
    rw [List.getElem?_map, List.getElem?_map, hj]
    rfl
theorem run_succ (bs : List Bool) (a k : Nat) : run bs a (k + 1) = bs.getD (a % bs.length) false :: run bs (a + 1) k := by
  unfold run
  rw [List.range_succ_eq_map, List.map_cons, List.map_map]
  congr 1
  refine List.map_congr_left fun j _ => ?_
  show bs.getD ((a + (j + 1)) % bs.length) false = _
  rw [show a + (j + 1) = a + 1 + j by omega]
theorem hist_cj (l : List (Int × Int)) (k : Str) (m L : Nat) : hist l k m L = past (hB l k (brAt l m)) (cj l k (brAt l m) m) L := rfl
end Pf
namespace Pf
open PySem PySem.Spec PyProof.Rows L2 Gk Fold
/-! ### what is shown of histories, cells and schemes -/
theorem tame_txt (h : List Bool) : Gk.tame (.str (txt h)) = true := by
  show (txt h).cps.all (· < 0x110000) = true
  rw [Array.all_eq_true]
  intro i hi
  obtain ⟨b, _, e⟩ := txt_at (l := h) (i := i) (Array.getElem?_eq_getElem hi)
  rw [e]
  cases b <;> decide
theorem cost_txt (h : List Bool) : cost (.str (txt h)) = h.length + 1 := by
  show (txt h).cps.size + 1 = _
  rw [txt_size]
/-- the data of a scheme -/
def planD (w : Str) (z : Int) : Option Int → PyData
  | none => .tuple [.str w, .int z]
  | some t => .tuple [.str w, .int z, .int t]
theorem plan_dp {K : PySem.W.Frag} {H : Hp} {p : Addr} {w : Str} {z : Int} : ∀ {x : Option Int}, SqT K H p (planV w z x) → Dp K H (.ref p) (planD w z x)
  | none, h => .tup h (.cons (.str w) (.cons (.int z) .nil))
  | some t, h => .tup h (.cons (.str w) (.cons (.int z) (.cons (.int t) .nil)))
theorem word_ok {w : Str} (h : w = "folded" ∨ w = "own" ∨ w = "split" ∨ w = "shared") : w.cps.all (· < 0x110000) = true ∧ w.cps.size ≤ 6 := by
  rcases h with rfl | rfl | rfl | rfl <;> decide +kernel
theorem plan_tame {w : Str} {z : Int} {x : Option Int} (h : PlanOk w z x) : Gk.tame (planD w z x) = true ∧ cost (planD w z x) ≤ 300 ∧ (planD w z x).depth ≤ 2 := by
  obtain ⟨z0, z1, h⟩ := h
  rcases h with ⟨hw, t, rfl, t0, t1⟩ | ⟨hw, rfl⟩
  · obtain ⟨a, b⟩ := word_ok (.inl hw)
    refine ⟨?_, ?_, ?_⟩
    · simp only [planD, Gk.tame, tameAll, a, Bool.true_and, Bool.and_true, Bool.and_eq_true, decide_eq_true_eq]
      omega
    · simp only [planD, Gk.cost, costAll]
      omega
    · simp only [planD, PyData.depth, PyData.depthAll]
      omega
  · obtain ⟨a, b⟩ := word_ok (.inr hw)
    refine ⟨?_, ?_, ?_⟩
    · simp only [planD, Gk.tame, tameAll, a, Bool.true_and, Bool.and_true, Bool.and_eq_true, decide_eq_true_eq]
      omega
    · simp only [planD, Gk.cost, costAll]
      omega
    · simp only [planD, PyData.depth, PyData.depthAll]
      omega
theorem fol_lt {l : List Bool} {n b : Nat} (hn : n ≤ 16) : fol l n b < 65536 := by
  have h2 := Nat.pow_le_pow_right (show 0 < 2 by decide) hn
  unfold fol
  split
  · decide
  · exact Nat.lt_of_lt_of_le (Nat.xor_lt_two_pow (Nat.mod_lt _ (Nat.two_pow_pos n)) (zig_lt n (by omega) _ _)) h2
theorem cell_tame {k : Str} {z : Int} {x : Option Int} {b : Nat} {h : List Bool} (ok : PlanOk k z x) (hb : b < 8) (hh : h.length ≤ 64) : Gk.tame (cellD k x b h) = true ∧ cost (cellD k x b h) ≤ 200 ∧ (cellD k x b h).depth ≤ 2 := by
  have th := tame_txt h
  have ch := cost_txt h
  unfold cellD
  split
  · have hx : (x.getD 0).toNat ≤ 16 := by
      obtain ⟨_, _, ⟨_, t, rfl, t0, t1⟩ | ⟨_, rfl⟩⟩ := ok
      · show t.toNat ≤ 16
        omega
      · show (0 : Int).toNat ≤ 16
        decide
    have lt := fol_lt (l := h) (b := b) hx
    refine ⟨?_, ?_, ?_⟩
    · simp only [Gk.tame, decide_eq_true_eq]
      omega
    · simp only [Gk.cost]
      omega
    · simp only [PyData.depth]
      omega
  · split
    · refine ⟨th, by omega, ?_⟩
      simp only [PyData.depth]
      omega
    · refine ⟨?_, ?_, ?_⟩
      · simp only [Gk.tame, tameAll, th, Bool.true_and, Bool.and_true, Bool.and_eq_true, decide_eq_true_eq]
        simp only [Gk.tame] at th
        first | exact ⟨by omega, th⟩ | omega
      · simp only [Gk.cost, costAll] at ch ⊢
        omega
      · simp only [PyData.depth, PyData.depthAll]
        omega
theorem fine_two {k : Str} {z : Int} {x : Option Int} {b : Nat} {h : List Bool} (ok : PlanOk k z x) (hb : b < 8) (hh : h.length ≤ 64) : Fine (.list [.str (txt h), cellD k x b h]) := by
  obtain ⟨a1, a2, a3⟩ := cell_tame ok hb hh
  have th := tame_txt h
  have ch := cost_txt h
  refine Fine.tame ?_ ?_ ?_
  · rw [show Gk.tame (.list [.str (txt h), cellD k x b h]) = (Gk.tame (.str (txt h)) && (Gk.tame (cellD k x b h) && true)) by simp only [Gk.tame, tameAll], th, a1]
    rfl
  · simp only [PyData.depth, PyData.depthAll]
    omega
  · rw [show cost (.list [.str (txt h), cellD k x b h]) = cost (.str (txt h)) + 1 + (cost (cellD k x b h) + 1 + 1) by simp only [Gk.cost, costAll], ch]
    omega
theorem fine_lp {l : List (Int × Int)} {k : Str} {z : Int} {x : Option Int} (fair : Fair l) (l2 : l.length ≤ 64) (ok : PlanOk k z x) : Fine (.tuple [.tuple (l.map pd), planD k z x]) := by
  obtain ⟨a1, a2, a3⟩ := plan_tame ok
  have p := plain_pd fair
  have c := p.cost
  have d := p.depth
  rw [List.length_map] at c
  refine Fine.tame ?_ ?_ ?_
  · simp only [Gk.tame, tameAll, p.tame, a1, Bool.and_self]
  · simp only [PyData.depth, PyData.depthAll]
    omega
  · simp only [Gk.cost, costAll]
    omega
end Pf
namespace Pf
open PySem PySem.Spec PyProof.Rows L2 Gk Fold
/-! ### histories at late moments -/
theorem run_period (bs : List Bool) (a k : Nat) : run bs (a + bs.length) k = run bs a k := by
  unfold run
  refine List.map_congr_left fun j _ => ?_
  rw [show a + bs.length + j = a + j + bs.length by omega, Nat.add_mod_right]
theorem past_late {bs : List Bool} {p L : Nat} (h : L ≤ p) : past bs p L = run bs (p - L) L := by
  unfold past
  rw [Nat.min_eq_right h, Nat.sub_self]
  rfl
theorem past_period {bs : List Bool} {p L : Nat} (h : L ≤ p) : past bs (p + bs.length) L = past bs p L := by
  rw [past_late h, past_late (by omega), show p + bs.length - L = p - L + bs.length by omega, run_period]
theorem past_periods {bs : List Bool} {p L : Nat} (h : L ≤ p) : ∀ n : Nat, past bs (p + n * bs.length) L = past bs p L
  | 0 => by rw [Nat.zero_mul, Nat.add_zero]
  | n + 1 => by
    rw [Nat.succ_mul, ← Nat.add_assoc, past_period (by omega), past_periods h n]
theorem run_at {bs : List Bool} {a k i : Nat} (h : i < k) : (run bs a k)[i]? = some (bs.getD ((a + i) % bs.length) false) := by
  unfold run
  rw [List.getElem?_map, List.getElem?_range h]
  rfl
/-- the digit at a place of a history -/
def dig (bs : List Bool) (p L i : Nat) : Bool := if L ≤ p + i then bs.getD ((p + i - L) % bs.length) false else false
theorem past_at {bs : List Bool} {p L i : Nat} (h : i < L) : (past bs p L)[i]? = some (dig bs p L i) := by
  unfold past dig
  by_cases g : i < L - min p L
  · rw [List.getElem?_append_left (by rw [List.length_replicate]; exact g), List.getElem?_replicate, if_pos g, if_neg (by omega)]
  · rw [List.getElem?_append_right (by rw [List.length_replicate]; omega), List.length_replicate, run_at (by omega), if_pos (by omega), show p - min p L + (i - (L - min p L)) = p + i - L by omega]
theorem past_ext {bs : List Bool} {p L : Nat} {xs : List Bool} (hl : xs.length = L) (h : ∀ i, i < L → xs[i]? = some (dig bs p L i)) : xs = past bs p L := by
  refine List.ext_getElem? fun i => ?_
  by_cases g : i < L
  · rw [h i g, past_at g]
  · rw [List.getElem?_eq_none (by omega), List.getElem?_eq_none (by rw [past_len]; omega)]
theorem past_tail (bs : List Bool) (p L : Nat) : (past bs p (L + 1)).drop 1 = past bs p L := by
  refine past_ext (by rw [List.length_drop, past_len]; omega) fun i hi => ?_
  rw [List.getElem?_drop, Nat.add_comm 1 i, past_at (by omega)]
  unfold dig
  by_cases g : L ≤ p + i
  · rw [if_pos g, if_pos (by omega), show p + (i + 1) - (L + 1) = p + i - L by omega]
  · rw [if_neg g, if_neg (by omega)]
theorem past_last {bs : List Bool} {p L : Nat} (h : 1 ≤ p) : (past bs p (L + 1))[L]? = some (bs.getD ((p - 1) % bs.length) false) := by
  rw [past_at (by omega)]
  unfold dig
  rw [if_pos (by omega), show p + L - (L + 1) = p - 1 by omega]
/-- one outcome more -/
theorem past_push (bs : List Bool) (p L : Nat) : past bs (p + 1) L = (past bs p L ++ [bs.getD (p % bs.length) false]).drop 1 := by
  refine (past_ext ?_ fun i hi => ?_).symm
  · rw [List.length_drop, List.length_append, past_len]
    show L + 1 - 1 = L
    omega
  · rw [List.getElem?_drop, Nat.add_comm 1 i]
    unfold dig
    by_cases g : i + 1 < L
    · rw [List.getElem?_append_left (by rw [past_len]; exact g), past_at g]
      unfold dig
      by_cases e : L ≤ p + 1 + i
      · rw [if_pos e, if_pos (by omega), show p + (i + 1) = p + 1 + i by omega]
      · rw [if_neg e, if_neg (by omega)]
    · have : i + 1 = L := by omega
      rw [List.getElem?_append_right (by rw [past_len]; omega), past_len, if_pos (by omega), show i + 1 - L = 0 by omega, show p + 1 + i - L = p by omega]
      rfl
theorem past_stays {bs : List Bool} {p L M : Nat} (h : past bs p L = past bs (p + M * bs.length) L) : ∀ j : Nat, past bs (p + j) L = past bs (p + j + M * bs.length) L
  | 0 => h
  | j + 1 => by
    rw [← Nat.add_assoc, show p + j + 1 + M * bs.length = p + j + M * bs.length + 1 by omega, past_push, past_push, past_stays h j, Nat.add_mul_mod_self_right]
theorem sgn_inj {a b : Bool} (h : sgn a = sgn b) : a = b := by
  revert h
  cases a <;> cases b <;> decide
theorem sgns_inj : ∀ {a b : List Bool}, a.map sgn = b.map sgn → a = b
  | [], [], _ => rfl
  | x :: xs, y :: ys, h => by
    rw [List.map_cons, List.map_cons] at h
    injection h with h1 h2
    rw [sgn_inj h1, sgns_inj h2]
  | [], _ :: _, h => by simp at h
  | _ :: _, [], h => by simp at h
theorem txt_inj {a b : List Bool} (h : txt a = txt b) : a = b := by
  have h1 : (a.map sgn).toArray = (b.map sgn).toArray := congrArg Str.cps h
  exact sgns_inj (by simpa using h1)
/-! ### moments of rounds -/
theorem brAt_round (l : List (Int × Int)) (N i : Nat) : brAt l (N * l.length + i) = brAt l i := by
  unfold brAt
  rw [Nat.add_comm, Nat.add_mul_mod_self_right]
theorem cj_round {l : List (Int × Int)} (h : 1 ≤ l.length) (k : Str) (b : Int) (N i : Nat) : cj l k b (N * l.length + i) = cj l k b i + N * (hB l k b).length := by
  unfold cj hB
  rw [bo_len]
  by_cases e : k = "own"
  · rw [if_pos e, if_pos e, if_pos e, Nat.add_comm (N * l.length) i, Nat.add_mul_div_right _ _ h, Nat.add_mul_mod_self_right, Nat.add_mul]
    omega
  · rw [if_neg e, if_neg e, if_neg e, List.length_map]
    omega
theorem hB_pos {l : List (Int × Int)} (fair : Fair l) (h : 1 ≤ l.length) (h2 : l.length ≤ 64) (k : Str) (m : Nat) : 1 ≤ (hB l k (brAt l m)).length := by
  have e : hB l k (brAt l m) = bo (hOs l k m) := rfl
  rw [e, bo_len]
  exact (hOs_ok fair h h2 k m).2.1
/-- the history of a round at a position -/
def hR (l : List (Int × Int)) (k : Str) (L N i : Nat) : List Bool := hist l k (N * l.length + i) L
theorem hR_past {l : List (Int × Int)} (h : 1 ≤ l.length) (k : Str) (L N i : Nat) : hR l k L N i = past (hB l k (brAt l i)) (cj l k (brAt l i) i + N * (hB l k (brAt l i)).length) L := by
  show hist l k (N * l.length + i) L = _
  rw [hist_cj, brAt_round, cj_round h]
theorem hR_late {l : List (Int × Int)} (fair : Fair l) (h : 1 ≤ l.length) (h2 : l.length ≤ 64) (k : Str) {L N : Nat} (hN : L ≤ N) (i : Nat) : hR l k L N i = hR l k L L i := by
  have pos := hB_pos fair h h2 k i
  rw [hR_past h, hR_past h]
  have e : cj l k (brAt l i) i + N * (hB l k (brAt l i)).length = cj l k (brAt l i) i + L * (hB l k (brAt l i)).length + (N - L) * (hB l k (brAt l i)).length := by
    rw [Nat.add_assoc, ← Nat.add_mul, show L + (N - L) = N by omega]
  rw [e, past_periods]
  have := Nat.le_mul_of_pos_right L pos
  omega
theorem hR_stays {l : List (Int × Int)} (fair : Fair l) (h : 1 ≤ l.length) (h2 : l.length ≤ 64) (k : Str) {L N N' i : Nat} (hs : hR l k L N i = hR l k L L i) (hN : N ≤ N') : hR l k L N' i = hR l k L L i := by
  have pos := hB_pos fair h h2 k i
  have lateN := hR_late fair h h2 k (L := L) (N := N + L) (by omega) i
  have lateM := hR_late fair h h2 k (L := L) (N := N' + L) (by omega) i
  rw [← lateM]
  rw [← lateN] at hs
  rw [hR_past h, hR_past h] at hs ⊢
  generalize hB l k (brAt l i) = bs at *
  generalize cj l k (brAt l i) i = c at *
  have e1 : c + (N + L) * bs.length = c + N * bs.length + L * bs.length := by rw [Nat.add_mul, Nat.add_assoc]
  rw [e1] at hs
  have st := past_stays hs ((N' - N) * bs.length)
  have e2 : c + N * bs.length + (N' - N) * bs.length = c + N' * bs.length := by rw [Nat.add_assoc, ← Nat.add_mul, show N + (N' - N) = N' by omega]
  rw [e2] at st
  rw [st, Nat.add_mul, Nat.add_assoc]
/-! ### the steady ones, as the program finds them -/
abbrev sMom : Stmt := topS 19
abbrev sSCells : Stmt := topS 14
abbrev nSCells : List Str := ["trace", "scheme", "moments", "position", "moment"]
theorem scMom : FnScope ["trace", "scheme", "position"] ["trace", "scheme", "position"] (defScope sMom) := ⟨rfl, rfl, rfl, by decide +kernel, rfl, by decide +kernel, by decide +kernel⟩
theorem scSCells : FnScope nSCells ["trace", "scheme"] (defScope sSCells) := ⟨rfl, rfl, rfl, by decide +kernel, rfl, by decide +kernel, by decide +kernel⟩
section
variable {P : Program} {w : World} {K : PySem.W.Frag} {mg : Str → Option Value} {base : Heap}
def spMom (K : PySem.W.Frag) : Sp := fun vs H Q _ => ∃ (t c : Addr) (xs : List V) (k : Str) (z : Int) (x : Option Int) (p : Int), vs = [.ref t, .ref c, .int p] ∧ SqT K H t xs ∧ SqT K H c (planV k z x) ∧ 0 ≤ z ∧ z ≤ 65 ∧ ∀ H', Same H H' → Q (.int (p + z * (xs.length : Nat))) H'
theorem ok_mom {f : Addr} {fd : FuncData} {k : Nat} (ml : mg "len" = none) (F : L2.Fun K "_steady_moment" "_steady_moment" sMom f fd) : FnOk P w K mg base L2.CX0 (k + 1) f fd ["trace", "scheme", "position"] (spMom K) := by
  refine F.ok scMom (fun vs H Q E h => ?_) (fun cdv A outer s H vs Q E hr h => ?_)
  · obtain ⟨t, c, xs, k, z, x, p, rfl, _⟩ := h
    rfl
  · obtain ⟨t, c, xs, k, z, x, p, rfl, sq, hc, z0, z1, q⟩ := h
    refine ⟨_, pss_one (ps_ret (pe_op op_add (pv 2) (pe_op op_mul (pe_ix ix_tup (pv 1) pe_int (fun _ _ => rfl)) (pe_callB call_len_seq (by rfl) ml PySem.boot_len (pa_cons (pv 0) pa_nil))))), ?_⟩
    exact ⟨.int p, rfl, .ref c, rfl, c, _, 1, .int z, rfl, rfl, hc, planV1 _ _ _, .ref t, rfl, t, xs, rfl, .inr sq, _, _, rfl, rfl, .inl ⟨by omega, by omega⟩, _, _, rfl, rfl, q H (Same.refl H)⟩
theorem mom_nat {l : List (Int × Int)} {z : Int} {p n : Nat} (z0 : 0 ≤ z) (len : n = l.length) : (p : Int) + z * (n : Nat) = ((z.toNat * l.length + p : Nat) : Int) := by
  have : ((z.toNat : Nat) : Int) = z := Int.toNat_of_nonneg z0
  rw [len, Int.natCast_add, Int.natCast_mul, this]
  omega
theorem mom_le {l : List (Int × Int)} {z : Int} {p : Nat} (z1 : z ≤ 65) (l64 : l.length ≤ 64) (hp : p ≤ 10 ^ 18) : z.toNat * l.length + p ≤ 10 ^ 19 := by
  have := Nat.mul_le_mul (show z.toNat ≤ 65 by omega) l64
  omega
/-- the steady cells -/
def cellsD (l : List (Int × Int)) (k : Str) (z : Int) (x : Option Int) (n : Nat) : List PyData := (List.range n).map fun i => cellD k x (brAt l i).toNat (hR l k z.toNat z.toNat i)
theorem cellA_round (l : List (Int × Int)) (k : Str) (z : Int) (x : Option Int) (N i : Nat) : cellA l k z x (N * l.length + i) = cellD k x (brAt l i).toNat (hR l k z.toNat N i) := by
  unfold cellA
  rw [brAt_round]
  rfl
theorem cell_tups (k : Str) (x : Option Int) (b : Nat) (h : List Bool) : tups (cellD k x b h) = true := by
  unfold cellD
  split
  · rfl
  · split <;> rfl
theorem tups_all {ds : List PyData} (h : ∀ d ∈ ds, tups d = true) : tupsAll ds = true := by
  induction ds with
  | nil => rfl
  | cons d r ih =>
    simp only [tupsAll, h d List.mem_cons_self, ih fun e he => h e (List.mem_cons_of_mem _ he), Bool.and_self]
theorem cells_tups (l : List (Int × Int)) (k : Str) (z : Int) (x : Option Int) (n : Nat) : tupsAll (cellsD l k z x n) = true := tups_all fun d hd => by
  obtain ⟨i, _, rfl⟩ := List.mem_map.mp hd
  exact cell_tups _ _ _ _
theorem DpAll.keepT {K : PySem.W.Frag} {H H' : Hp} (k : Keep K H H') : ∀ {vs : List V} {ds : List PyData}, tupsAll ds = true → DpAll K H vs ds → DpAll K H' vs ds
  | _, _, _, .nil => .nil
  | _, _, h, .cons a t => by
    simp only [tupsAll, Bool.and_eq_true] at h
    exact .cons (Dp.keep k _ _ h.1 a) (DpAll.keepT k h.2 t)
def spSCells (K : PySem.W.Frag) : Sp := fun vs H Q _ => ∃ (t c : Addr) (l : List (Int × Int)) (k : Str) (z : Int) (x : Option Int), vs = [.ref t, .ref c] ∧ PairsAt K H t l ∧ Fair l ∧ 1 ≤ l.length ∧ l.length ≤ 64 ∧ SqT K H c (planV k z x) ∧ PlanOk k z x ∧
  ∀ H' r as, Same H H' → SqT K H' r as → DpAll K H' as (cellsD l k z x l.length) → Q (.ref r) H'
theorem ok_scells {f : Addr} {fd : FuncData} (DM : Dfn P w K mg base 1 "_steady_moment" ["trace", "scheme", "position"] (spMom K)) (DE : Dfn P w K mg base 4 "cell_at" ["trace", "scheme", "moment"] (spCellAt K)) (ml : mg "len" = none) (mr : mg "range" = none) (mt : mg "tuple" = none)
    (F : L2.Fun K "steady_cells" "steady_cells" sSCells f fd) : FnOk P w K mg base L2.CX0 5 f fd ["trace", "scheme"] (spSCells K) := by
  refine F.ok scSCells (fun vs H Q E h => ?_) (fun cdv A outer s H vs Q E hr h => ?_)
  · obtain ⟨t, c, l, k, z, x, rfl, _⟩ := h
    rfl
  · obtain ⟨t, c, l, k, z, x, rfl, hl, fair, l1, l64, hc, ok, q⟩ := h
    obtain ⟨xs, sq, hA, len⟩ := PairsAt.out hl
    refine ⟨_, pss_cons (ps_setLc (i := 2) (own := [("position", 3)]) (g := gName 3) (by rfl) scSCells.nd rfl rfl (sw_true rfl rfl rfl (by decide +kernel)) (pi_range1 rfl mr (pa_cons (pe_callB call_len_seq (by rfl) ml PySem.boot_len (pa_cons (pv 0) pa_nil)) pa_nil)) (blkOk_by (N := nSCells) (sc := defScope sSCells) (by decide +kernel))
          (fun _ _ _ _ _ => pg_name (i := 3) scSCells.nd rfl (.inl rfl)) (fun _ _ _ _ _ => pts_nil) (fun _ _ _ _ _ => pe_d DM hr (by decide) (by rfl) (pa_cons (pv 0) (pa_cons (pv 1) (pa_cons (pv 3) pa_nil)))))
      (pss_one (ps_ret (pe_callTy call_tuple_of (by rfl) mt (by decide +kernel) (pa_cons (pe_lc (own := [("moment", 4)]) (g := gName 4) (by rfl) scSCells.nd (pi_list (pv 2)) (blkOk_by (N := nSCells) (sc := defScope sSCells) (by decide +kernel))
          (fun _ _ _ _ _ => pg_name (i := 4) scSCells.nd rfl (.inl rfl)) (fun _ _ _ _ _ => pts_nil) (fun _ _ _ _ _ => pe_d DE hr (by decide) (by rfl) (pa_cons (pv 0) (pa_cons (pv 1) (pa_cons (pv 4) pa_nil))))) pa_nil)))), ?_⟩
    obtain ⟨z0, z64, okr⟩ := id ok
    refine ⟨.ref t, rfl, t, xs, rfl, .inr sq, _, rfl, by omega, by omega, fun D nD => lc_range (lo := 0) (n := ((xs.length : Nat) : Int).toNat)
      (fun j H' => Same H H' ∧ H' D = some (.lst ((List.range j).map fun i => V.int ((z.toNat * l.length + i : Nat) : Int)))) ⟨same_new nD, upd_same⟩ (fun j H1 hj hp => ?_) (fun H1 hp => ?_)⟩
    · obtain ⟨sm, hD⟩ := hp
      refine ⟨rfl, .ref t, rfl, .ref c, rfl, .int (0 + (j : Nat)), rfl, t, c, xs, k, z, x, 0 + (j : Nat), rfl, Same.seqT sm sq, Same.seqT sm hc, z0, by omega, fun H2 s2 => ⟨_, s2 _ _ hD, ?_, ?_, ?_⟩⟩
      · rw [List.length_map, List.length_range]
        exact small1000 (by omega)
      · intro a u h
        rw [upd_ne (ne_of_none h nD)]
        exact s2 _ _ (sm a u h)
      · rw [upd_same, List.range_succ, List.map_append, Int.zero_add, mom_nat z0 len]
        rfl
    · obtain ⟨sm, hD⟩ := hp
      have en : ((xs.length : Nat) : Int).toNat = l.length := by omega
      rw [en] at hD
      refine ⟨.ref D, rfl, D, rfl, ⟨_, SqL.of hD⟩, fun D2 nD2 => lc_list (K := K) (a := D) (xs := (List.range l.length).map fun i => V.int ((z.toNat * l.length + i : Nat) : Int))
        (fun j H' => Same H1 H' ∧ ∃ as, H' D2 = some (.lst as) ∧ DpAll K H' as (cellsD l k z x j)) ⟨same_new nD2, [], upd_same, .nil⟩ (fun j H' _ hp => SqL.of (hp.1 _ _ hD)) (fun j y H2 hy hp => ?_) (fun H2 hp => ?_)⟩
      · obtain ⟨sm2, as, hD2, hAs⟩ := hp
        have hj : j < l.length := by
          have := (List.getElem?_eq_some_iff.mp hy).1
          rwa [List.length_map, List.length_range] at this
        obtain rfl : V.int ((z.toNat * l.length + j : Nat) : Int) = y := by
          rw [List.getElem?_map, List.getElem?_range hj] at hy
          exact Option.some.inj hy
        have s02 : Same H H2 := sm.trans sm2
        have z1 : z ≤ 65 := by omega
        refine ⟨rfl, .ref t, rfl, .ref c, rfl, .int _, rfl, t, c, l, k, z, x, z.toNat * l.length + j, rfl, hl.keep (Same.keep s02), fair, l1, l64, Same.seqT s02 hc, ok, mom_le z1 l64 (by omega), fun H3 v s3 d3 => ⟨as, s3 _ _ hD2, ?_, ?_, as ++ [v], upd_same, ?_⟩⟩
        · have := DpAll.len hAs
          unfold cellsD at this
          rw [List.length_map, List.length_range] at this
          exact small1000 (by omega)
        · intro a u h
          rw [upd_ne (ne_of_none h nD2)]
          exact s3 _ _ (sm2 a u h)
        · have kk : Keep K H3 (upd H3 D2 (.lst (as ++ [v]))) := keep_lst (s3 _ _ hD2)
          rw [cellA_round] at d3
          have e : cellsD l k z x (j + 1) = cellsD l k z x j ++ [cellD k x (brAt l j).toNat (hR l k z.toNat z.toNat j)] := by
            unfold cellsD
            rw [List.range_succ, List.map_append]
            rfl
          rw [e]
          exact DpAll.app (DpAll.keepT ((Same.keep s3).trans kk) (cells_tups _ _ _ _ _) hAs) (.cons (Dp.keep kk _ _ (cell_tups _ _ _ _) d3) .nil)
      · obtain ⟨sm2, as, hD2, hAs⟩ := hp
        rw [List.length_map, List.length_range] at hAs
        refine ⟨D2, as, rfl, .inl ⟨.inl (.inl hD2), fun p np => q _ p as ((sm.trans sm2).trans (same_new np)) (.inl (.inl upd_same)) (DpAll.keepT (Same.keep (same_new np)) (cells_tups _ _ _ _ _) hAs)⟩⟩
end
end Pf
namespace Pf
open PySem PySem.Spec PyProof.Rows L2 Gk
/-! ### cells whose tuples are told as such: keys of dicts -/
/-- a cell that is a tuple stands as one -/
def TupHere (H : Hp) (v : V) (d : PyData) : Prop := ∀ b t, d = .tuple [.int b, .str t] → ∃ p, v = .ref p ∧ H p = some (.tup [.int b, .str t])
def Ck (K : PySem.W.Frag) (H : Hp) (v : V) (d : PyData) : Prop := Dp K H v d ∧ TupHere H v d
theorem Ck.int {K : PySem.W.Frag} {H : Hp} (i : Int) : Ck K H (.int i) (.int i) := ⟨.int _, fun _ _ e => nomatch e⟩
theorem Ck.str {K : PySem.W.Frag} {H : Hp} (s : Str) : Ck K H (.str s) (.str s) := ⟨.str _, fun _ _ e => nomatch e⟩
theorem Ck.tup {K : PySem.W.Frag} {H : Hp} {p : Addr} {b : Int} {t : Str} (h : H p = some (.tup [.int b, .str t])) : Ck K H (.ref p) (.tuple [.int b, .str t]) :=
  ⟨.tup (.inl (.inl h)) (.cons (.int _) (.cons (.str _) .nil)), fun b' t' e => by
    injection e with e
    injection e with e1 e2
    injection e2 with e2 _
    injection e1 with e1
    injection e2 with e2
    subst e1 e2
    exact ⟨p, rfl, h⟩⟩
theorem TupHere.same {H H' : Hp} {v : V} {d : PyData} (h : TupHere H v d) (s : ∀ b ts, H b = some (.tup ts) → H' b = some (.tup ts)) : TupHere H' v d := fun b t e => by
  obtain ⟨p, e1, e2⟩ := h b t e
  exact ⟨p, e1, s _ _ e2⟩
/-- so all of a list -/
def TupsHere (H : Hp) (vs : List V) (ds : List PyData) : Prop := ∀ (i : Nat) (v : V) (d : PyData), vs[i]? = some v → ds[i]? = some d → TupHere H v d
theorem TupsHere.same {H H' : Hp} {vs : List V} {ds : List PyData} (h : TupsHere H vs ds) (s : ∀ b ts, H b = some (.tup ts) → H' b = some (.tup ts)) : TupsHere H' vs ds := fun i v d e1 e2 => (h i v d e1 e2).same s
theorem TupsHere.nil {H : Hp} : TupsHere H [] [] := fun i v d e => by simp at e
theorem TupsHere.snoc {H : Hp} {vs : List V} {ds : List PyData} {v : V} {d : PyData} (h : TupsHere H vs ds) (hl : vs.length = ds.length) (hv : TupHere H v d) : TupsHere H (vs ++ [v]) (ds ++ [d]) := fun i v' d' e1 e2 => by
  rcases Nat.lt_trichotomy i vs.length with g | g | g
  · rw [List.getElem?_append_left g] at e1
    rw [List.getElem?_append_left (by omega)] at e2
    exact h i v' d' e1 e2
  · rw [List.getElem?_append_right (by omega), show i - vs.length = 0 by omega] at e1
    rw [List.getElem?_append_right (by omega), show i - ds.length = 0 by omega] at e2
    obtain rfl := Option.some.inj e1
    obtain rfl := Option.some.inj e2
    exact hv
  · rw [List.getElem?_append_right (by omega), List.getElem?_eq_none (by show 1 ≤ _; omega)] at e1
    cases e1
theorem tup_keep {H : Hp} {D : Addr} {xs : List V} {o : HO} (h : H D = some (.lst xs)) (b : Addr) (ts : List V) (e : H b = some (.tup ts)) : (upd H D o) b = some (.tup ts) := by
  rw [upd_ne (fun z => by rw [z, h] at e; cases e)]
  exact e
section
variable {P : Program} {w : World} {K : PySem.W.Frag} {mg : Str → Option Value} {base : Heap}
def spCellC (K : PySem.W.Frag) : Sp := fun vs H Q _ => ∃ (c : Addr) (k : Str) (z : Int) (x : Option Int) (b : Nat) (h : List Bool), vs = [.ref c, .int (b : Int), .str (txt h)] ∧ SqT K H c (planV k z x) ∧ PlanOk k z x ∧ b < 8 ∧ h.length ≤ 64 ∧ ∀ H' v, Same H H' → Ck K H' v (cellD k x b h) → Q v H'
theorem ok_cellC {f : Addr} {fd : FuncData} (DF : Dfn P w K mg base 2 "fold" ["history", "bits", "branch"] spFold) (F : L2.Fun K "cell_of" "cell_of" sCellOf f fd) : FnOk P w K mg base L2.CX0 3 f fd ["scheme", "branch", "history"] (spCellC K) := by
  refine F.ok scCellOf (fun vs H Q E h => ?_) (fun cdv A outer s H vs Q E hr h => ?_)
  · obtain ⟨c, k, z, x, b, h, rfl, _⟩ := h
    rfl
  · obtain ⟨c, k, z, x, b, h, rfl, hc, ok, hb, hh, q⟩ := h
    refine ⟨_, pss_cons (ps_if (pt_cmpR op_eq (pe_ix ix_tup (pv 0) pe_int (fun _ _ => rfl)) pe_str (nomark _)) (pss_one (ps_ret (pe_d DF hr (by decide) (by rfl) (pa_cons (pv 2) (pa_cons (pe_ix ix_tup (pv 0) pe_int (fun _ _ => rfl)) (pa_cons (pv 1) pa_nil)))))) pss_nil)
      (pss_cons (ps_if (pt_cmpR op_eq (pe_ix ix_tup (pv 0) pe_int (fun _ _ => rfl)) pe_str (nomark _)) (pss_one (ps_ret (pv 2))) pss_nil)
      (pss_one (ps_ret (pe_tup (pa_cons (pv 1) (pa_cons (pv 2) pa_nil)))))), ?_⟩
    refine ⟨.ref c, rfl, c, _, 0, .str k, rfl, rfl, hc, planV0 _ _ _, rfl, _, rfl, ite2 (fun e => ?_) (fun e => ?_)⟩
    · have e1 : V.str k = V.str "folded" := of_decide_eq_true e
      injection e1 with e1
      obtain ⟨_, _, ⟨_, t, rfl, t0, t1⟩ | ⟨h2, _⟩⟩ := ok
      · refine ⟨.str (txt h), rfl, .ref c, rfl, c, _, 2, .int t, rfl, rfl, hc, rfl, .int b, rfl, h, t.toNat, b, ?_, hh, by omega, hb, fun H' s' => q H' _ s' ?_⟩
        · rw [Int.toNat_of_nonneg t0]
          rfl
        · unfold cellD
          rw [if_pos e1]
          exact Ck.int _
      · rw [e1] at h2
        exact absurd h2 (by decide +kernel)
    · have ne : k ≠ "folded" := fun z => e (decide_eq_true (by rw [z]))
      refine ⟨.ref c, rfl, c, _, 0, .str k, rfl, rfl, hc, planV0 _ _ _, rfl, _, rfl, ite2 (fun g => ?_) (fun g => ?_)⟩
      · have g1 : V.str k = V.str "shared" := of_decide_eq_true g
        injection g1 with g1
        refine ⟨.str (txt h), rfl, q H _ (Same.refl H) ?_⟩
        unfold cellD
        rw [if_neg ne, if_pos g1]
        exact Ck.str _
      · have ng : k ≠ "shared" := fun z => g (decide_eq_true (by rw [z]))
        refine ⟨.int b, rfl, .str (txt h), rfl, by show 2 ≤ sizeLine; decide, fun p np => q _ _ (same_new np) ?_⟩
        unfold cellD
        rw [if_neg ne, if_neg ng]
        exact Ck.tup upd_same
def spCellAtC (K : PySem.W.Frag) : Sp := fun vs H Q _ => ∃ (t c : Addr) (l : List (Int × Int)) (k : Str) (z : Int) (x : Option Int) (m : Nat), vs = [.ref t, .ref c, .int (m : Int)] ∧ PairsAt K H t l ∧ Fair l ∧ 1 ≤ l.length ∧ l.length ≤ 64 ∧ SqT K H c (planV k z x) ∧ PlanOk k z x ∧ m ≤ 10 ^ 19 ∧
  ∀ H' v, Same H H' → Ck K H' v (cellA l k z x m) → Q v H'
theorem ok_cellAtC {f : Addr} {fd : FuncData} (DH : Dfn P w K mg base 3 "history_at" ["trace", "scheme", "moment"] (spHist K)) (DC : Dfn P w K mg base 3 "cell_of" ["scheme", "branch", "history"] (spCellC K)) (ml : mg "len" = none)
    (F : L2.Fun K "cell_at" "cell_at" sCellAt f fd) : FnOk P w K mg base L2.CX0 4 f fd ["trace", "scheme", "moment"] (spCellAtC K) := by
  refine F.ok scCellAt (fun vs H Q E h => ?_) (fun cdv A outer s H vs Q E hr h => ?_)
  · obtain ⟨t, c, l, k, z, x, m, rfl, _⟩ := h
    rfl
  · obtain ⟨t, c, l, k, z, x, m, rfl, hl, fair, l1, l64, hc, ok, hm, q⟩ := h
    obtain ⟨xs, sq, hA, len⟩ := PairsAt.out hl
    refine ⟨_, pss_cons (ps_set (i := 3) scCellAt.nd rfl (.inl rfl) (pe_ix ix_tup (pe_ix ix_tup (pv 0) (pe_mid (pe_op op_mod (pv 2) (pe_callB call_len_seq (by rfl) ml PySem.boot_len (pa_cons (pv 0) pa_nil)))) (fun _ _ => rfl)) pe_int (fun _ _ => rfl)))
      (pss_one (ps_ret (pe_d DC hr (by decide) (by rfl) (pa_cons (pv 1) (pa_cons (pv 3) (pa_cons (pe_d DH hr (by decide) (by rfl) (pa_cons (pv 0) (pa_cons (pv 1) (pa_cons (pv 2) pa_nil)))) pa_nil)))))), ?_⟩
    have lpos : (0 : Int) < (xs.length : Nat) := by omega
    have hpm : m % l.length < l.length := Nat.mod_lt _ (by omega)
    refine ⟨.ref t, rfl, fun v H' => H' = H ∧ v = .int ((m % l.length : Nat) : Int), ⟨.int m, rfl, .ref t, rfl, t, _, rfl, .inr sq, _, _, rfl, rfl, lpos, rfl, ?_⟩, fun v H' hv => ?_⟩
    · show V.int ((m : Int) % (xs.length : Nat)) = _
      rw [len]
      rfl
    obtain ⟨rfl, rfl⟩ := hv
    have gx : xs[m % l.length]? = some (xs[m % l.length]'(by omega)) := List.getElem?_eq_getElem (by omega)
    obtain ⟨y, a, hy, ea, sa⟩ := pd_at hA gx
    have ey : y = l.getD (m % l.length) (0, 0) := Option.some.inj (hy.symm.trans (at_mod l1 m))
    have eb : y.1 = brAt l m := by rw [ey]; rfl
    have fy := fair y (List.mem_of_getElem? hy)
    rw [eb] at fy
    have gat : atI xs ((m % l.length : Nat) : Int) = some (.ref a) := by rw [atI_nat gx, ea]
    refine ⟨t, xs, _, .ref a, rfl, rfl, sq, gat, a, _, 0, .int y.1, rfl, rfl, sa, rfl, ?_⟩
    rw [eb]
    refine ⟨.ref c, rfl, .int (brAt l m), rfl, .ref t, rfl, .ref c, rfl, .int m, rfl, t, c, l, k, z, x, m, rfl, hl, fair, l1, l64, hc, ok.1, by have := ok.2.1; omega, hm, fun H2 s2 => ?_⟩
    refine ⟨c, k, z, x, (brAt l m).toNat, hist l k m z.toNat, ?_, Same.seqT s2 hc, ok, by omega, by rw [hist_len]; have := ok.2.1; omega, fun H3 v s3 d3 => q H3 v (s2.trans s3) d3⟩
    rw [Int.toNat_of_nonneg fy.1.1]
    rfl
def spSCellsC (K : PySem.W.Frag) : Sp := fun vs H Q _ => ∃ (t c : Addr) (l : List (Int × Int)) (k : Str) (z : Int) (x : Option Int), vs = [.ref t, .ref c] ∧ PairsAt K H t l ∧ Fair l ∧ 1 ≤ l.length ∧ l.length ≤ 64 ∧ SqT K H c (planV k z x) ∧ PlanOk k z x ∧
  ∀ H' r as, Same H H' → SqT K H' r as → DpAll K H' as (cellsD l k z x l.length) → TupsHere H' as (cellsD l k z x l.length) → Q (.ref r) H'
theorem ok_scellsC {f : Addr} {fd : FuncData} (DM : Dfn P w K mg base 1 "_steady_moment" ["trace", "scheme", "position"] (spMom K)) (DE : Dfn P w K mg base 4 "cell_at" ["trace", "scheme", "moment"] (spCellAtC K)) (ml : mg "len" = none) (mr : mg "range" = none) (mt : mg "tuple" = none)
    (F : L2.Fun K "steady_cells" "steady_cells" sSCells f fd) : FnOk P w K mg base L2.CX0 5 f fd ["trace", "scheme"] (spSCellsC K) := by
  refine F.ok scSCells (fun vs H Q E h => ?_) (fun cdv A outer s H vs Q E hr h => ?_)
  · obtain ⟨t, c, l, k, z, x, rfl, _⟩ := h
    rfl
  · obtain ⟨t, c, l, k, z, x, rfl, hl, fair, l1, l64, hc, ok, q⟩ := h
    obtain ⟨xs, sq, hA, len⟩ := PairsAt.out hl
    refine ⟨_, pss_cons (ps_setLc (i := 2) (own := [("position", 3)]) (g := gName 3) (by rfl) scSCells.nd rfl rfl (sw_true rfl rfl rfl (by decide +kernel)) (pi_range1 rfl mr (pa_cons (pe_callB call_len_seq (by rfl) ml PySem.boot_len (pa_cons (pv 0) pa_nil)) pa_nil)) (blkOk_by (N := nSCells) (sc := defScope sSCells) (by decide +kernel))
          (fun _ _ _ _ _ => pg_name (i := 3) scSCells.nd rfl (.inl rfl)) (fun _ _ _ _ _ => pts_nil) (fun _ _ _ _ _ => pe_d DM hr (by decide) (by rfl) (pa_cons (pv 0) (pa_cons (pv 1) (pa_cons (pv 3) pa_nil)))))
      (pss_one (ps_ret (pe_callTy call_tuple_of (by rfl) mt (by decide +kernel) (pa_cons (pe_lc (own := [("moment", 4)]) (g := gName 4) (by rfl) scSCells.nd (pi_list (pv 2)) (blkOk_by (N := nSCells) (sc := defScope sSCells) (by decide +kernel))
          (fun _ _ _ _ _ => pg_name (i := 4) scSCells.nd rfl (.inl rfl)) (fun _ _ _ _ _ => pts_nil) (fun _ _ _ _ _ => pe_d DE hr (by decide) (by rfl) (pa_cons (pv 0) (pa_cons (pv 1) (pa_cons (pv 4) pa_nil))))) pa_nil)))), ?_⟩
    obtain ⟨z0, z64, okr⟩ := id ok
    refine ⟨.ref t, rfl, t, xs, rfl, .inr sq, _, rfl, by omega, by omega, fun D nD => lc_range (lo := 0) (n := ((xs.length : Nat) : Int).toNat)
      (fun j H' => Same H H' ∧ H' D = some (.lst ((List.range j).map fun i => V.int ((z.toNat * l.length + i : Nat) : Int)))) ⟨same_new nD, upd_same⟩ (fun j H1 hj hp => ?_) (fun H1 hp => ?_)⟩
    · obtain ⟨sm, hD⟩ := hp
      refine ⟨rfl, .ref t, rfl, .ref c, rfl, .int (0 + (j : Nat)), rfl, t, c, xs, k, z, x, 0 + (j : Nat), rfl, Same.seqT sm sq, Same.seqT sm hc, z0, by omega, fun H2 s2 => ⟨_, s2 _ _ hD, ?_, ?_, ?_⟩⟩
      · rw [List.length_map, List.length_range]
        exact small1000 (by omega)
      · intro a u h
        rw [upd_ne (ne_of_none h nD)]
        exact s2 _ _ (sm a u h)
      · rw [upd_same, List.range_succ, List.map_append, Int.zero_add, mom_nat z0 len]
        rfl
    · obtain ⟨sm, hD⟩ := hp
      have en : ((xs.length : Nat) : Int).toNat = l.length := by omega
      rw [en] at hD
      refine ⟨.ref D, rfl, D, rfl, ⟨_, SqL.of hD⟩, fun D2 nD2 => lc_list (K := K) (a := D) (xs := (List.range l.length).map fun i => V.int ((z.toNat * l.length + i : Nat) : Int))
        (fun j H' => Same H1 H' ∧ ∃ as, H' D2 = some (.lst as) ∧ DpAll K H' as (cellsD l k z x j) ∧ TupsHere H' as (cellsD l k z x j)) ⟨same_new nD2, [], upd_same, .nil, TupsHere.nil⟩ (fun j H' _ hp => SqL.of (hp.1 _ _ hD)) (fun j y H2 hy hp => ?_) (fun H2 hp => ?_)⟩
      · obtain ⟨sm2, as, hD2, hAs, hTs⟩ := hp
        have hj : j < l.length := by
          have := (List.getElem?_eq_some_iff.mp hy).1
          rwa [List.length_map, List.length_range] at this
        obtain rfl : V.int ((z.toNat * l.length + j : Nat) : Int) = y := by
          rw [List.getElem?_map, List.getElem?_range hj] at hy
          exact Option.some.inj hy
        have s02 : Same H H2 := sm.trans sm2
        have z1 : z ≤ 65 := by omega
        refine ⟨rfl, .ref t, rfl, .ref c, rfl, .int _, rfl, t, c, l, k, z, x, z.toNat * l.length + j, rfl, hl.keep (Same.keep s02), fair, l1, l64, Same.seqT s02 hc, ok, mom_le z1 l64 (by omega), fun H3 v s3 d3 => ⟨as, s3 _ _ hD2, ?_, ?_, as ++ [v], upd_same, ?_, ?_⟩⟩
        · have := DpAll.len hAs
          unfold cellsD at this
          rw [List.length_map, List.length_range] at this
          exact small1000 (by omega)
        · intro a u h
          rw [upd_ne (ne_of_none h nD2)]
          exact s3 _ _ (sm2 a u h)
        · have kk : Keep K H3 (upd H3 D2 (.lst (as ++ [v]))) := keep_lst (s3 _ _ hD2)
          rw [cellA_round] at d3
          have e : cellsD l k z x (j + 1) = cellsD l k z x j ++ [cellD k x (brAt l j).toNat (hR l k z.toNat z.toNat j)] := by
            unfold cellsD
            rw [List.range_succ, List.map_append]
            rfl
          rw [e]
          exact DpAll.app (DpAll.keepT ((Same.keep s3).trans kk) (cells_tups _ _ _ _ _) hAs) (.cons (Dp.keep kk _ _ (cell_tups _ _ _ _) d3.1) .nil)
        · have e : cellsD l k z x (j + 1) = cellsD l k z x j ++ [cellD k x (brAt l j).toNat (hR l k z.toNat z.toNat j)] := by
            unfold cellsD
            rw [List.range_succ, List.map_append]
            rfl
          rw [cellA_round] at d3
          rw [e]
          exact TupsHere.snoc (hTs.same fun b ts h => tup_keep (s3 _ _ hD2) b ts (s3 _ _ h)) (DpAll.len hAs) (d3.2.same fun b ts h => tup_keep (s3 _ _ hD2) b ts h)
      · obtain ⟨sm2, as, hD2, hAs, hTs⟩ := hp
        rw [List.length_map, List.length_range] at hAs hTs
        refine ⟨D2, as, rfl, .inl ⟨.inl (.inl hD2), fun p np => q _ p as ((sm.trans sm2).trans (same_new np)) (.inl (.inl upd_same)) (DpAll.keepT (Same.keep (same_new np)) (cells_tups _ _ _ _ _) hAs) (hTs.same fun b ts h => same_new np _ _ h)⟩⟩
end
end Pf
namespace Pf
open PySem PySem.Spec PyProof.Rows L2 Gk Fold
/-! ### dicts with cells as keys: what is kept of each cell -/
abbrev CK := Sum L2.Key (List L2.Key)
/-- the cell of a branch and a history, as a key -/
def cK (k : Str) (x : Option Int) (b : Nat) (h : List Bool) : CK := if k = "folded" then .inl (.inl ((fol h (x.getD 0).toNat b : Nat) : Int)) else if k = "shared" then .inl (.inr (txt h)) else .inr [.inl (b : Int), .inr (txt h)]
def tupK (k : Str) : Bool := !(decide (k = "folded") || decide (k = "shared"))
/-- at a: a dict that keeps f of the cells, n of them at most -/
def VD (H : Hp) (a : Addr) (k : Str) (f : CK → Option V) (n : Nat) : Prop :=
  (tupK k = false ∧ ∃ kvs, H a = some (.dK kvs) ∧ kvs.length ≤ n ∧ ∀ q, valV kvs q = f (.inl q)) ∨ (tupK k = true ∧ ∃ kvs, H a = some (.dT kvs) ∧ kvs.length ≤ n ∧ ∀ q, valV kvs q = f (.inr q))
theorem cK_inl {k : Str} {x : Option Int} {b : Nat} {h : List Bool} {H : Hp} {K : PySem.W.Frag} {v : V} (c : Ck K H v (cellD k x b h)) (t : tupK k = false) : ∃ q, cK k x b h = .inl q ∧ v = kV q := by
  unfold tupK at t
  rw [Bool.not_eq_false', Bool.or_eq_true, decide_eq_true_eq, decide_eq_true_eq] at t
  obtain ⟨c, _⟩ := c
  unfold cellD at c
  unfold cK
  rcases t with rfl | rfl
  · rw [if_pos rfl] at c ⊢
    cases c
    exact ⟨_, rfl, rfl⟩
  · rw [if_neg (by decide +kernel), if_pos rfl] at c ⊢
    cases c
    exact ⟨_, rfl, rfl⟩
theorem cK_inr {k : Str} {x : Option Int} {b : Nat} {h : List Bool} {H : Hp} {K : PySem.W.Frag} {v : V} (c : Ck K H v (cellD k x b h)) (t : tupK k = true) : ∃ q p, cK k x b h = .inr q ∧ v = .ref p ∧ H p = some (.tup (q.map kV)) := by
  unfold tupK at t
  rw [Bool.not_eq_true', Bool.or_eq_false_iff, decide_eq_false_iff_not, decide_eq_false_iff_not] at t
  obtain ⟨_, c⟩ := c
  unfold cellD at c
  unfold cK
  rw [if_neg t.1, if_neg t.2] at c ⊢
  obtain ⟨p, rfl, hp⟩ := c _ _ rfl
  exact ⟨_, p, rfl, rfl, hp⟩
theorem VD.get {k : Str} {x : Option Int} {b : Nat} {h : List Bool} {H : Hp} {K : PySem.W.Frag} {v : V} {a : Addr} {f : CK → Option V} {n : Nat} (d : VD H a k f n) (c : Ck K H v (cellD k x b h)) : DGet H a v (f (cK k x b h)) := by
  rcases d with ⟨t, kvs, e, _, l⟩ | ⟨t, kvs, e, _, l⟩
  · obtain ⟨q, eq, rfl⟩ := cK_inl c t
    rw [eq]
    exact .inl ⟨kvs, q, .inl e, rfl, (l q).symm⟩
  · obtain ⟨q, p, eq, rfl, hp⟩ := cK_inr c t
    rw [eq]
    exact .inr ⟨kvs, q, p, .inl e, rfl, hp, (l q).symm⟩
theorem VD.put {k : Str} {x : Option Int} {b : Nat} {h : List Bool} {H : Hp} {K : PySem.W.Frag} {v y : V} {a : Addr} {f : CK → Option V} {n : Nat} (d : VD H a k f n) (c : Ck K H v (cellD k x b h)) (hn : n < sizeLine) :
    ∃ H', DPut H a v y H' ∧ VD H' a k (fun q => if q = cK k x b h then some y else f q) (n + 1) ∧ ∀ z, z ≠ a → H' z = H z := by
  rcases d with ⟨t, kvs, e, ln, l⟩ | ⟨t, kvs, e, ln, l⟩
  · obtain ⟨q, eq, rfl⟩ := cK_inl c t
    refine ⟨_, .inl ⟨kvs, q, e, rfl, by omega, rfl⟩, .inl ⟨t, _, upd_same, by have := length_putK kvs q y; omega, fun r => ?_⟩, fun z hz => upd_ne hz⟩
    rw [valV_put, eq, l]
    dsimp only
    by_cases er : r = q
    · rw [if_pos er, if_pos (by rw [er])]
    · rw [if_neg er, if_neg (fun z => er (Sum.inl.inj z))]
  · obtain ⟨q, p, eq, rfl, hp⟩ := cK_inr c t
    refine ⟨_, .inr ⟨kvs, q, p, e, rfl, hp, by omega, rfl⟩, .inr ⟨t, _, upd_same, by have := length_putK kvs q y; omega, fun r => ?_⟩, fun z hz => upd_ne hz⟩
    rw [valV_put, eq, l]
    dsimp only
    by_cases er : r = q
    · rw [if_pos er, if_pos (by rw [er])]
    · rw [if_neg er, if_neg (fun z => er (Sum.inr.inj z))]
end Pf
namespace Pf
open PySem PySem.Spec PyProof.Rows L2 Gk
/-! ### one counter -/
def top (w : Int) : Int := 1 * 2 ^ w.toNat - 1
def prd (w v : Int) : Int := if 2 * v > top w then 1 else 0
def aft (w v o : Int) : Int := if o = 1 then (if top w < v + 1 then top w else v + 1) else (if 0 > v - 1 then 0 else v - 1)
theorem pow2_mono {a b : Nat} (h : a ≤ b) : (2 : Int) ^ a ≤ 2 ^ b := by
  have e := Nat.pow_le_pow_right (n := 2) (by decide) h
  exact_mod_cast e
theorem top_pos {w : Int} (h : 1 ≤ w) : 1 ≤ top w := by
  unfold top
  have : (2 : Int) ^ 1 ≤ 2 ^ w.toNat := pow2_mono (by omega)
  omega
theorem top_le {w : Int} {n : Nat} (h : w ≤ (n : Int)) : top w ≤ 2 ^ n := by
  unfold top
  have : (2 : Int) ^ w.toNat ≤ 2 ^ n := pow2_mono (by omega)
  omega
theorem aft_in {w v o : Int} (h : 1 ≤ w) (h0 : 0 ≤ v) (h1 : v ≤ top w) : 0 ≤ aft w v o ∧ aft w v o ≤ top w := by
  have := top_pos h
  unfold aft
  repeat' split
  all_goals omega
theorem prd_in (w v : Int) : prd w v = 0 ∨ prd w v = 1 := by
  unfold prd
  split
  · exact .inr rfl
  · exact .inl rfl
section
variable {P : Program} {w : World} {K : PySem.W.Frag} {mg : Str → Option Value} {base : Heap}
def spMost : Sp := fun vs H Q _ => ∃ n : Int, vs = [.int n] ∧ 1 ≤ n ∧ n ≤ 64 ∧ Q (.int (top n)) H
def spPred : Sp := fun vs H Q _ => ∃ n v : Int, vs = [.int n, .int v] ∧ 1 ≤ n ∧ n ≤ 64 ∧ Q (.int (prd n v)) H
def spAft : Sp := fun vs H Q _ => ∃ n v o : Int, vs = [.int n, .int v, .int o] ∧ 1 ≤ n ∧ n ≤ 64 ∧ Q (.int (aft n v o)) H
end
end Pf
namespace Pf
open PySem PySem.Spec PyProof.Rows L2 Gk Fold
/-! ### a predictor, moment by moment: l the trace, k the kind of scheme, x its bits, L its length, w and v0 the counter -/
def outM (l : List (Int × Int)) (m : Nat) : Int := (l.getD (m % l.length) (0, 0)).2
/-- whose history it is -/
def ownO (k : Str) (b : Int) : Option Int := if k = "own" then some b else none
/-- the history of each owner ahead of the moment m -/
def hM (l : List (Int × Int)) (k : Str) (L : Nat) : Nat → Option Int → List Bool
  | 0, _ => List.replicate L false
  | m + 1, o => if o = ownO k (brAt l m) then (hM l k L m o ++ [decide (outM l m = 1)]).drop 1 else hM l k L m o
theorem hM_len (l : List (Int × Int)) (k : Str) (L : Nat) : ∀ (m : Nat) (o : Option Int), (hM l k L m o).length = L
  | 0, _ => List.length_replicate
  | m + 1, o => by
    unfold hM
    split
    · rw [List.length_drop, List.length_append, hM_len l k L m o]
      rfl
    · exact hM_len l k L m o
/-- the history and the cell of the moment m -/
def hAtM (l : List (Int × Int)) (k : Str) (L m : Nat) : List Bool := hM l k L m (ownO k (brAt l m))
def cM (l : List (Int × Int)) (k : Str) (x : Option Int) (L m : Nat) : CK := cK k x (brAt l m).toNat (hAtM l k L m)
/-- the value of each cell ahead of the moment m, none if it wasn't used -/
def vM (l : List (Int × Int)) (k : Str) (x : Option Int) (L : Nat) (w v0 : Int) : Nat → CK → Option Int
  | 0, _ => none
  | m + 1, c => if c = cM l k x L m then some (aft w ((vM l k x L w v0 m c).getD v0) (outM l m)) else vM l k x L w v0 m c
def valM (l : List (Int × Int)) (k : Str) (x : Option Int) (L : Nat) (w v0 : Int) (m : Nat) : Int := (vM l k x L w v0 m (cM l k x L m)).getD v0
def pM (l : List (Int × Int)) (k : Str) (x : Option Int) (L : Nat) (w v0 : Int) (m : Nat) : Int := prd w (valM l k x L w v0 m)
theorem vM_in {l : List (Int × Int)} {k : Str} {x : Option Int} {L : Nat} {w v0 : Int} (hw : 1 ≤ w) (h0 : 0 ≤ v0) (h1 : v0 ≤ top w) : ∀ (m : Nat) (c : CK), 0 ≤ (vM l k x L w v0 m c).getD v0 ∧ (vM l k x L w v0 m c).getD v0 ≤ top w
  | 0, _ => ⟨h0, h1⟩
  | m + 1, c => by
    unfold vM
    split
    · have := vM_in (l := l) (k := k) (x := x) (L := L) hw h0 h1 m c
      exact aft_in hw this.1 this.2
    · exact vM_in hw h0 h1 m c
theorem valM_in {l : List (Int × Int)} {k : Str} {x : Option Int} {L : Nat} {w v0 : Int} (hw : 1 ≤ w) (h0 : 0 ≤ v0) (h1 : v0 ≤ top w) (m : Nat) : 0 ≤ valM l k x L w v0 m ∧ valM l k x L w v0 m ≤ top w := vM_in hw h0 h1 m _
/-- what is told of the first M moments -/
def triD (p : Int × Int × Int) : PyData := .tuple [.int p.1, .int p.2.1, .int p.2.2]
def toldM (l : List (Int × Int)) (k : Str) (x : Option Int) (L : Nat) (w v0 : Int) (M : Nat) : List (Int × Int × Int) := (List.range M).map fun m => (brAt l m, pM l k x L w v0 m, outM l m)
theorem toldM_succ (l : List (Int × Int)) (k : Str) (x : Option Int) (L : Nat) (w v0 : Int) (M : Nat) : toldM l k x L w v0 (M + 1) = toldM l k x L w v0 M ++ [(brAt l M, pM l k x L w v0 M, outM l M)] := by
  unfold toldM
  rw [List.range_succ, List.map_append]
  rfl
theorem toldM_len (l : List (Int × Int)) (k : Str) (x : Option Int) (L : Nat) (w v0 : Int) (M : Nat) : (toldM l k x L w v0 M).length = M := by
  unfold toldM
  rw [List.length_map, List.length_range]
/-- the half of a counter's values, as the laws write it -/
theorem half_top {w : Int} (hw : 1 ≤ w) : 2 * ((1 : Int) * 2 ^ (w - 1).toNat) = top w + 1 := by
  unfold top
  rw [show w.toNat = (w - 1).toNat + 1 by omega, Int.pow_succ]
  omega
theorem prd_half {w v : Int} (hw : 1 ≤ w) : prd w v = if (1 : Int) * 2 ^ (w - 1).toNat ≤ v then 1 else 0 := by
  have := half_top hw
  unfold prd
  by_cases c : (1 : Int) * 2 ^ (w - 1).toNat ≤ v
  · rw [if_pos (by omega), if_pos c]
  · rw [if_neg (by omega), if_neg c]
theorem outM_bit {l : List (Int × Int)} (fair : Fair l) (h : 1 ≤ l.length) (m : Nat) : outM l m = 0 ∨ outM l m = 1 := (fair _ (List.mem_of_getElem? (at_mod h m))).2
theorem brAt_small {l : List (Int × Int)} (fair : Fair l) (h : 1 ≤ l.length) (m : Nat) : 0 ≤ brAt l m ∧ brAt l m ≤ 7 := (fair _ (List.mem_of_getElem? (at_mod h m))).1
/-- the text of a history that an outcome is pushed onto -/
theorem txt_push {h : List Bool} {o : Int} (ho : o = 0 ∨ o = 1) : txt ((h ++ [decide (o = 1)]).drop 1) = ⟨(((txt h).cps.toList ++ [if o = 1 then 49 else 48]).drop 1).toArray⟩ := by
  unfold txt
  rw [List.map_drop, List.map_append]
  rcases ho with rfl | rfl <;> rfl
end Pf
namespace Pf
open PySem PySem.Spec PyProof.Rows L2 Gk Fold
/-! ### late rounds: histories stand, then the values of cells, then the predictions -/
theorem brAt_per (l : List (Int × Int)) (m : Nat) : brAt l (m + l.length) = brAt l m := by
  unfold brAt
  rw [Nat.add_mod_right]
theorem outM_per (l : List (Int × Int)) (m : Nat) : outM l (m + l.length) = outM l m := by
  unfold outM
  rw [Nat.add_mod_right]
theorem brAt_at {l : List (Int × Int)} (m : Nat) : brAt l (m % l.length) = brAt l m := by
  unfold brAt
  rw [Nat.mod_mod]
theorem hM_push {l : List (Int × Int)} {k : Str} {L m : Nat} {o : Option Int} (h : o = ownO k (brAt l m)) : hM l k L (m + 1) o = (hM l k L m o ++ [decide (outM l m = 1)]).drop 1 := by
  rw [hM, if_pos h]
theorem hM_stay {l : List (Int × Int)} {k : Str} {L m : Nat} {o : Option Int} (h : ¬ o = ownO k (brAt l m)) : hM l k L (m + 1) o = hM l k L m o := by
  rw [hM, if_neg h]
theorem drop_push {h : List Bool} {b : Bool} {L d : Nat} (hl : h.length = L) (hd : d + 1 ≤ L) : ((h ++ [b]).drop 1).drop (L - (d + 1)) = h.drop (L - d) ++ [b] := by
  rw [List.drop_drop, show 1 + (L - (d + 1)) = L - d by omega, List.drop_append_of_le_length (by omega)]
theorem seen_in {l : List (Int × Int)} {k : Str} {o : Option Int} (h1 : 1 ≤ l.length) {j m : Nat} (hj : o = ownO k (brAt l j)) (hm : l.length ≤ m) : ∃ q, q < m ∧ m ≤ q + l.length ∧ o = ownO k (brAt l q) := by
  have hr : j % l.length < l.length := Nat.mod_lt _ h1
  refine ⟨l.length * ((m - 1 - j % l.length) / l.length) + j % l.length, ?_, ?_, ?_⟩
  · have := Nat.mul_div_le (m - 1 - j % l.length) l.length
    omega
  · have := Nat.lt_mul_div_succ (m - 1 - j % l.length) h1
    rw [Nat.mul_add] at this
    omega
  · rw [hj, ← brAt_at (l := l) (l.length * _ + _), Nat.mul_add_mod, Nat.mod_mod, brAt_at]
theorem hist_same {l : List (Int × Int)} {k : Str} {L : Nat} (h1 : 1 ≤ l.length) : ∀ d, d ≤ L → ∀ m, d * l.length ≤ m → ∀ o j, o = ownO k (brAt l j) → (hM l k L m o).drop (L - d) = (hM l k L (m + l.length) o).drop (L - d)
  | 0, _ => fun m _ o j _ => by
    rw [List.drop_eq_nil_of_le (by rw [hM_len]; omega), List.drop_eq_nil_of_le (by rw [hM_len]; omega)]
  | d + 1, hd => fun m hm o j hj => by
    have ih := hist_same (l := l) (k := k) (L := L) h1 d (by omega)
    rw [Nat.succ_mul] at hm
    have push : ∀ q, d * l.length ≤ q → o = ownO k (brAt l q) → (hM l k L (q + 1) o).drop (L - (d + 1)) = (hM l k L (q + 1 + l.length) o).drop (L - (d + 1)) := fun q hq e => by
      have e2 : o = ownO k (brAt l (q + l.length)) := by rw [brAt_per]; exact e
      rw [hM_push e, show q + 1 + l.length = q + l.length + 1 by omega, hM_push e2, outM_per, drop_push (hM_len _ _ _ _ _) hd, drop_push (hM_len _ _ _ _ _) hd, ih q hq o j hj]
    obtain ⟨q, q1, q2, q3⟩ := seen_in h1 hj (show l.length ≤ m by omega)
    have on : ∀ i, (hM l k L (q + 1 + i) o).drop (L - (d + 1)) = (hM l k L (q + 1 + i + l.length) o).drop (L - (d + 1)) := fun i => by
      induction i with
      | zero => exact push q (by omega) q3
      | succ i hi =>
        by_cases c : o = ownO k (brAt l (q + 1 + i))
        · exact push (q + 1 + i) (by omega) c
        · have c2 : ¬ o = ownO k (brAt l (q + 1 + i + l.length)) := by rw [brAt_per]; exact c
          rw [show q + 1 + (i + 1) = q + 1 + i + 1 by omega, hM_stay c, show q + 1 + i + 1 + l.length = q + 1 + i + l.length + 1 by omega, hM_stay c2]
          exact hi
    have := on (m - (q + 1))
    rwa [show q + 1 + (m - (q + 1)) = m by omega] at this
theorem cM_per {l : List (Int × Int)} {k : Str} {x : Option Int} {L m : Nat} (h1 : 1 ≤ l.length) (hm : L * l.length ≤ m) : cM l k x L (m + l.length) = cM l k x L m := by
  have := hist_same (l := l) (k := k) (L := L) h1 L (Nat.le_refl _) m hm (ownO k (brAt l m)) m rfl
  rw [Nat.sub_self, List.drop_zero, List.drop_zero] at this
  unfold cM hAtM
  rw [brAt_per, ← this]
/-- the value of a cell -/
def uM (l : List (Int × Int)) (k : Str) (x : Option Int) (L : Nat) (w v0 : Int) (m : Nat) (c : CK) : Int := (vM l k x L w v0 m c).getD v0
theorem uM_succ (l : List (Int × Int)) (k : Str) (x : Option Int) (L : Nat) (w v0 : Int) (m : Nat) (c : CK) : uM l k x L w v0 (m + 1) c = if c = cM l k x L m then aft w (uM l k x L w v0 m c) (outM l m) else uM l k x L w v0 m c := by
  unfold uM
  rw [vM]
  split <;> rfl
theorem valM_u (l : List (Int × Int)) (k : Str) (x : Option Int) (L : Nat) (w v0 : Int) (m : Nat) : valM l k x L w v0 m = uM l k x L w v0 m (cM l k x L m) := rfl
/-- what i moments from m on make of the value of a cell -/
def gM (l : List (Int × Int)) (k : Str) (x : Option Int) (L : Nat) (w : Int) (c : CK) (m : Nat) : Nat → Int → Int
  | 0, v => v
  | i + 1, v => if c = cM l k x L (m + i) then aft w (gM l k x L w c m i v) (outM l (m + i)) else gM l k x L w c m i v
theorem uM_g (l : List (Int × Int)) (k : Str) (x : Option Int) (L : Nat) (w v0 : Int) (m : Nat) (c : CK) : ∀ i, uM l k x L w v0 (m + i) c = gM l k x L w c m i (uM l k x L w v0 m c)
  | 0 => rfl
  | i + 1 => by
    rw [show m + (i + 1) = m + i + 1 by omega, uM_succ, uM_g l k x L w v0 m c i, gM]
theorem gM_per {l : List (Int × Int)} {k : Str} {x : Option Int} {L m : Nat} {w : Int} {c : CK} (h1 : 1 ≤ l.length) (hm : L * l.length ≤ m) : ∀ i v, gM l k x L w c (m + l.length) i v = gM l k x L w c m i v
  | 0, _ => rfl
  | i + 1, v => by
    rw [gM, gM, gM_per h1 hm i v, show m + l.length + i = m + i + l.length by omega, cM_per h1 (by omega), outM_per]
theorem gM_pers {l : List (Int × Int)} {k : Str} {x : Option Int} {L m : Nat} {w : Int} {c : CK} (h1 : 1 ≤ l.length) (hm : L * l.length ≤ m) (i : Nat) (v : Int) : ∀ t, gM l k x L w c (m + t * l.length) i v = gM l k x L w c m i v
  | 0 => by rw [Nat.zero_mul, Nat.add_zero]
  | t + 1 => by
    rw [Nat.succ_mul, ← Nat.add_assoc, gM_per h1 (by omega), gM_pers h1 hm i v t]
theorem aft_mono' {n v u : Int} (o : Int) (h : v ≤ u) : aft n v o ≤ aft n u o := by
  unfold aft
  repeat' split
  all_goals omega
theorem gM_mono {l : List (Int × Int)} {k : Str} {x : Option Int} {L m : Nat} {w : Int} {c : CK} : ∀ i v u, v ≤ u → gM l k x L w c m i v ≤ gM l k x L w c m i u
  | 0, _, _, h => h
  | i + 1, v, u, h => by
    rw [gM, gM]
    split
    · exact aft_mono' _ (gM_mono i v u h)
    · exact gM_mono i v u h
/-- a rising map within bounds stands after so many steps -/
theorem chain {f : Int → Int} (mono : ∀ v u, v ≤ u → f v ≤ f u) {a : Nat → Int} (st : ∀ t, a (t + 1) = f (a t)) {T : Int} (lo : ∀ t, 0 ≤ a t) (hi : ∀ t, a t ≤ T) : a (T.toNat + 1) = a T.toNat := by
  have stay : ∀ t, a (t + 1) = a t → ∀ j, a (t + j + 1) = a (t + j) := fun t e j => by
    induction j with
    | zero => exact e
    | succ j ih => rw [show t + (j + 1) = t + j + 1 by omega, st (t + j + 1), ih, ← st]; exact ih
  rcases Int.le_total (a 0) (a 1) with d | d
  · have up : ∀ t, a t ≤ a (t + 1) := fun t => by
      induction t with
      | zero => exact d
      | succ t ih =>
        have := mono _ _ ih
        rw [← st, ← st] at this
        exact this
    by_cases c : a (T.toNat + 1) = a T.toNat
    · exact c
    · have far : ∀ t, t ≤ T.toNat + 1 → a 0 + (t : Int) ≤ a t := fun t => by
        induction t with
        | zero => intro _; omega
        | succ t ih =>
          intro ht
          have := ih (by omega)
          have u := up t
          have ne : a (t + 1) ≠ a t := fun e => c (by
            have := stay t e (T.toNat - t)
            rwa [show t + (T.toNat - t) = T.toNat by omega] at this)
          omega
      have h1 := far (T.toNat + 1) (Nat.le_refl _)
      have h2 := hi (T.toNat + 1)
      have h3 := lo 0
      have h4 := hi 0
      omega
  · have dn : ∀ t, a (t + 1) ≤ a t := fun t => by
      induction t with
      | zero => exact d
      | succ t ih =>
        have := mono _ _ ih
        rw [← st, ← st] at this
        exact this
    by_cases c : a (T.toNat + 1) = a T.toNat
    · exact c
    · have far : ∀ t, t ≤ T.toNat + 1 → a t + (t : Int) ≤ a 0 := fun t => by
        induction t with
        | zero => intro _; omega
        | succ t ih =>
          intro ht
          have := ih (by omega)
          have u := dn t
          have ne : a (t + 1) ≠ a t := fun e => c (by
            have := stay t e (T.toNat - t)
            rwa [show t + (T.toNat - t) = T.toNat by omega] at this)
          omega
      have h1 := far (T.toNat + 1) (Nat.le_refl _)
      have h2 := hi 0
      have h3 := lo (T.toNat + 1)
      have h4 := lo 0
      omega
theorem uM_late {l : List (Int × Int)} {k : Str} {x : Option Int} {L : Nat} {w v0 : Int} (hl : 1 ≤ l.length) (hw : 1 ≤ w) (h0 : 0 ≤ v0) (h1 : v0 ≤ top w) (c : CK) : ∀ j, uM l k x L w v0 ((L + (top w).toNat + j) * l.length) c = uM l k x L w v0 ((L + (top w).toNat) * l.length) c := by
  have inn := fun m => vM_in (l := l) (k := k) (x := x) (L := L) hw h0 h1 m c
  have st : ∀ t, uM l k x L w v0 ((L + (t + 1)) * l.length) c = gM l k x L w c (L * l.length) l.length (uM l k x L w v0 ((L + t) * l.length) c) := fun t => by
    rw [← gM_pers hl (Nat.le_refl _) l.length _ t, ← Nat.add_mul, ← uM_g]
    congr 1
    rw [← Nat.succ_mul]
    rfl
  have e := chain (f := gM l k x L w c (L * l.length) l.length) (a := fun t => uM l k x L w v0 ((L + t) * l.length) c) (gM_mono _) st (T := top w) (fun t => (inn _).1) (fun t => (inn _).2)
  intro j
  induction j with
  | zero => rfl
  | succ j ih =>
    have s1 := st ((top w).toNat + j)
    rw [show L + ((top w).toNat + j + 1) = L + (top w).toNat + (j + 1) by omega, show L + ((top w).toNat + j) = L + (top w).toNat + j by omega, ih] at s1
    rw [s1]
    have s2 := st (top w).toNat
    have e : uM l k x L w v0 ((L + ((top w).toNat + 1)) * l.length) c = uM l k x L w v0 ((L + (top w).toNat) * l.length) c := e
    rw [← s2, e]
theorem pM_per {l : List (Int × Int)} {k : Str} {x : Option Int} {L : Nat} {w v0 : Int} (hl : 1 ≤ l.length) (hw : 1 ≤ w) (h0 : 0 ≤ v0) (h1 : v0 ≤ top w) {m : Nat} (hm : (L + (top w).toNat) * l.length ≤ m) : pM l k x L w v0 (m + l.length) = pM l k x L w v0 m := by
  have hL : L * l.length ≤ m := Nat.le_trans (Nat.mul_le_mul_right _ (by omega)) hm
  have split : m = (m / l.length) * l.length + m % l.length := by
    rw [Nat.mul_comm]
    exact (Nat.div_add_mod m l.length).symm
  have hr : L + (top w).toNat ≤ m / l.length := (Nat.le_div_iff_mul_le hl).mpr hm
  obtain ⟨j, ej⟩ : ∃ j, m / l.length = L + (top w).toNat + j := ⟨m / l.length - (L + (top w).toNat), by omega⟩
  have same : ∀ c, uM l k x L w v0 (m + l.length) c = uM l k x L w v0 m c := fun c => by
    have a1 := uM_g l k x L w v0 ((m / l.length) * l.length) c (m % l.length)
    have a2 := uM_g l k x L w v0 ((m / l.length) * l.length + l.length) c (m % l.length)
    have hb : L * l.length ≤ (m / l.length) * l.length := Nat.mul_le_mul_right _ (by omega)
    rw [← split] at a1
    rw [show m / l.length * l.length + l.length + m % l.length = m + l.length by omega, gM_per hl hb, ← Nat.succ_mul, ej, show (L + (top w).toNat + j).succ = L + (top w).toNat + (j + 1) from rfl, uM_late hl hw h0 h1] at a2
    rw [ej, uM_late hl hw h0 h1] at a1
    rw [a1, a2]
  unfold pM
  rw [valM_u, valM_u, cM_per hl hL, same]
/-! ### errors round by round -/
def wrongAt (l : List (Int × Int)) (k : Str) (x : Option Int) (L : Nat) (w v0 : Int) (m : Nat) : Prop := pM l k x L w v0 m ≠ outM l m
instance (l : List (Int × Int)) (k : Str) (x : Option Int) (L : Nat) (w v0 : Int) (m : Nat) : Decidable (wrongAt l k x L w v0 m) := inferInstanceAs (Decidable (_ ≠ _))
/-- the errors of the round j among the first moments -/
def cR (l : List (Int × Int)) (k : Str) (x : Option Int) (L : Nat) (w v0 : Int) (j : Nat) : Nat → Nat
  | 0 => 0
  | m + 1 => cR l k x L w v0 j m + if m / l.length = j ∧ wrongAt l k x L w v0 m then 1 else 0
def bR (l : List (Int × Int)) (k : Str) (x : Option Int) (L : Nat) (w v0 : Int) (j : Nat) : Nat → Nat
  | 0 => 0
  | i + 1 => bR l k x L w v0 j i + if wrongAt l k x L w v0 (j * l.length + i) then 1 else 0
def eR (l : List (Int × Int)) (k : Str) (x : Option Int) (L : Nat) (w v0 : Int) (j : Nat) : Nat := bR l k x L w v0 j l.length
theorem cR_eq {l : List (Int × Int)} {k : Str} {x : Option Int} {L : Nat} {w v0 : Int} (hl : 1 ≤ l.length) (j : Nat) : ∀ M, cR l k x L w v0 j M = bR l k x L w v0 j (min l.length (M - j * l.length))
  | 0 => by
    rw [Nat.zero_sub, Nat.min_eq_right (Nat.zero_le _)]
    rfl
  | M + 1 => by
    rw [cR, cR_eq hl j M]
    rcases Nat.lt_or_ge M (j * l.length) with a | a
    · have : M / l.length < j := (Nat.div_lt_iff_lt_mul hl).mpr a
      rw [if_neg (fun z => by omega), show M - j * l.length = 0 by omega, show M + 1 - j * l.length = 0 by omega, Nat.add_zero]
    · rcases Nat.lt_or_ge M ((j + 1) * l.length) with b | b
      · have e : M / l.length = j := by
          have h1 : M / l.length < j + 1 := (Nat.div_lt_iff_lt_mul hl).mpr b
          have h2 : j ≤ M / l.length := (Nat.le_div_iff_mul_le hl).mpr a
          omega
        rw [Nat.succ_mul] at b
        rw [Nat.min_eq_right (by omega), Nat.min_eq_right (by omega), show M + 1 - j * l.length = (M - j * l.length) + 1 by omega, bR, show j * l.length + (M - j * l.length) = M by omega]
        by_cases c : wrongAt l k x L w v0 M
        · rw [if_pos ⟨e, c⟩, if_pos c]
        · rw [if_neg (fun z => c z.2), if_neg c]
      · have h2 : j + 1 ≤ M / l.length := (Nat.le_div_iff_mul_le hl).mpr b
        rw [Nat.succ_mul] at b
        rw [if_neg (fun z => by omega), Nat.min_eq_left (by omega), Nat.min_eq_left (by omega), Nat.add_zero]
theorem cR_full {l : List (Int × Int)} {k : Str} {x : Option Int} {L : Nat} {w v0 : Int} (hl : 1 ≤ l.length) {j r : Nat} (h : j < r) : cR l k x L w v0 j (r * l.length) = eR l k x L w v0 j := by
  have := Nat.mul_le_mul_right l.length (show j + 1 ≤ r from h)
  rw [Nat.succ_mul] at this
  rw [cR_eq hl, Nat.min_eq_left (by omega)]
  rfl
theorem eR_late {l : List (Int × Int)} {k : Str} {x : Option Int} {L : Nat} {w v0 : Int} (hl : 1 ≤ l.length) (hw : 1 ≤ w) (h0 : 0 ≤ v0) (h1 : v0 ≤ top w) : ∀ j, eR l k x L w v0 (L + (top w).toNat + j) = eR l k x L w v0 (L + (top w).toNat)
  | 0 => rfl
  | j + 1 => by
    rw [← eR_late hl hw h0 h1 j]
    unfold eR
    have : ∀ i, bR l k x L w v0 (L + (top w).toNat + (j + 1)) i = bR l k x L w v0 (L + (top w).toNat + j) i := fun i => by
      induction i with
      | zero => rfl
      | succ i ih =>
        have e : (L + (top w).toNat + (j + 1)) * l.length + i = ((L + (top w).toNat + j) * l.length + i) + l.length := by
          rw [show L + (top w).toNat + (j + 1) = (L + (top w).toNat + j) + 1 by omega, Nat.succ_mul]
          omega
        have hm : (L + (top w).toNat) * l.length ≤ (L + (top w).toNat + j) * l.length + i := Nat.le_trans (Nat.mul_le_mul_right _ (by omega)) (Nat.le_add_right _ _)
        have w1 : wrongAt l k x L w v0 ((L + (top w).toNat + (j + 1)) * l.length + i) ↔ wrongAt l k x L w v0 ((L + (top w).toNat + j) * l.length + i) := by
          unfold wrongAt
          rw [e, pM_per hl hw h0 h1 hm, outM_per]
        rw [bR, bR, ih]
        by_cases c : wrongAt l k x L w v0 ((L + (top w).toNat + j) * l.length + i)
        · rw [if_pos c, if_pos (w1.mpr c)]
        · rw [if_neg c, if_neg (fun z => c (w1.mp z))]
    exact this _
end Pf
namespace Gk
open PySem PySem.Spec PyProof.Rows L2 HT
/-! ### a tuple from behind -/
section
variable {prog : Program} {w : World} {A : Around} {E : Value → Shared → Prop} {s : Shared}
theorem adjust_rev (n : Nat) : Builtin.Slice.sliceAdjust none none (-1) (n : Int) = ((n : Int) - 1, -1) := by
  have h1 : ((-1 : Int) < 0) := by decide
  unfold Builtin.Slice.sliceAdjust
  simp only [h1, if_true]
theorem places_rev (n : Nat) : Builtin.Slice.slicePlaces ((n : Int) - 1) (-1) (-1) = n := by
  unfold Builtin.Slice.slicePlaces
  have h1 : ¬ ((-1 : Int) > 0) := by decide
  have h2 : (-(-1) : Int) = 1 := by decide
  simp only [h1, if_false, h2, Int.ediv_one]
  split <;> omega
theorem applied_rev {sl : Addr} {vs : Value} {n : Nat} {Q : Int × Int × Nat → Shared → Prop} (hs : s.heap.IsSliceOf sl .none .none vs) (ps : IsPart vs (some (-1)))
    (h : Q ((n : Int) - 1, -1, n) s) : wpAny (model prog w) A (Builtin.Slice.sliceApplied (.ref sl) (pure (n : Int))) Q E s := by
  obtain ⟨os, hos, hcs, hds⟩ := id hs
  unfold Builtin.Slice.sliceApplied Builtin.Slice.sliceFields
  refine wpAny_bind (wpAny_bind (wpAny_field hos hds (x := .none) rfl (wpAny_bind (wpAny_field hos hds (x := .none) rfl (wpAny_bind (wpAny_field hos hds (x := vs) rfl (wpAny_pure ?_)))))))
  refine wpAny_bind (slicePart_ ps ?_)
  show wpAny _ _ (if ((-1 : Int) == 0) = true then _ else _) _ _ s
  rw [if_neg (by decide)]
  refine wpAny_bind (slicePart_none (wpAny_bind (slicePart_none (wpAny_bind (wpAny_pure ?_)))))
  show wpAny _ _ (match Builtin.Slice.sliceAdjust none none (-1) (n : Int) with | (lo, hi) => pure (lo, (-1 : Int), Builtin.Slice.slicePlaces lo hi (-1))) _ _ s
  rw [adjust_rev n]
  show wpAny _ _ (pure ((n : Int) - 1, (-1 : Int), Builtin.Slice.slicePlaces ((n : Int) - 1) (-1) (-1))) _ _ s
  rw [places_rev]
  exact wpAny_pure h
theorem fm_congr {α β : Type} {f g : α → Option β} : ∀ l : List α, (∀ m ∈ l, f m = g m) → l.filterMap f = l.filterMap g
  | [], _ => rfl
  | a :: l, h => by
    rw [List.filterMap_cons, List.filterMap_cons, h a List.mem_cons_self, fm_congr l fun m hm => h m (List.mem_cons_of_mem _ hm)]
theorem pick_rev (xs : Array Value) : ((List.range xs.size).filterMap fun (m : Nat) => xs[(((xs.size : Int) - 1) + (m : Int) * (-1)).toNat]?).toArray = xs.toList.reverse.toArray := by
  have e : ((List.range xs.size).filterMap fun (m : Nat) => xs[(((xs.size : Int) - 1) + (m : Int) * (-1)).toNat]?) = ((List.range xs.size).map fun k => xs.size - 1 - k).filterMap (xs[·]?) := by
    rw [List.filterMap_map]
    refine fm_congr _ fun m hm => ?_
    have hm := List.mem_range.mp hm
    show xs[(((xs.size : Int) - 1) + (m : Int) * (-1)).toNat]? = xs[xs.size - 1 - m]?
    have : (((xs.size : Int) - 1) + (m : Int) * (-1)).toNat = xs.size - 1 - m := by omega
    rw [this]
  rw [e, PySem.W.krv_range, List.filterMap_reverse, PySem.W.krv_all]
theorem getItem_tuple_rev {t sl : Addr} {items : Array Value} {vs : Value} {Q : Value → Shared → Prop} (ht : IsTup s.heap t items) (hs : s.heap.IsSliceOf sl .none .none vs) (ps : IsPart vs (some (-1)))
    (h : Q (.ref s.heap.objs.size) { s with heap := s.heap.push { cls := .type "tuple", data := .seq items.toList.reverse.toArray } })
    (hsz : items.size ≤ sizeLine) : wpAny (model prog w) A (getItem (.ref t) (.ref sl)) Q E s := by
  have htake : sizeOk (.seq items.toList.reverse.toArray) := by
    show items.toList.reverse.toArray.size ≤ sizeLine
    rw [List.size_toArray, List.length_reverse, Array.length_toList]
    exact hsz
  obtain ⟨os, hos, hcs, hds⟩ := id hs
  have hTs : s.TypeIs (.ref sl) "slice" := ⟨os, hos, hcs⟩
  unfold getItem
  try with_reducible refine wpAny_holding ?_
  first | refine wpAny_bind (wpAny_pure ?_) | skip
  refine wpAny_bind (wpAny_sequenceKey ht.typeIs (by decide) ?_)
  refine wpAny_bind (wpAny_callSpecial?_slot (name := Str.ofString "__getitem__") ht.typeIs PyProof.Rows.slot_tuple_getitem
    (wpAny_call_entry PyProof.Rows.slot_tuple_getitem ht.typeIs entry_tuple_getitem ?_ (args_tuple_getitem _ _)))
  show wpAny _ _ (Builtin.Tuple.tupleItemsOf (.ref t) >>= _) _ _ s
  refine wpAny_bind (tupleItemsOf_ ht ?_)
  refine wpAny_bind (wpAny_typeOf hTs ?_)
  rw [if_pos (by decide)]
  refine wpAny_bind (applied_rev hs ps ?_)
  have hno : ¬ (((((items.size : Int) - 1) : Int) == 0 && (-1 : Int) == 1 && items.size == items.size) = true) := by simp
  show wpAny _ _ (if ((((items.size : Int) - 1) : Int) == 0 && (-1 : Int) == 1 && items.size == items.size) = true then _ else _) _ _ s
  rw [if_neg hno, pick_rev]
  first
    | exact wpAny_bind (m := Builtin.Tuple.tupleExact _) (wpAny_newObj_type (wpAny_pure ⟨_, rfl, wpAny_pure h⟩) htake)
    | exact wpAny_bind (m := Builtin.Tuple.tupleExact _) (wpAny_newObj_type (wpAny_bind (wpAny_pure (wpAny_pure ⟨_, rfl, wpAny_pure h⟩))) htake)
    | exact wpAny_bind (wpAny_bind (m := Builtin.Tuple.tupleExact _) (wpAny_newObj_type (wpAny_pure (wpAny_pure ⟨_, rfl, wpAny_pure h⟩)) htake))
    | exact wpAny_bind (wpAny_bind (m := Builtin.Tuple.tupleExact _) (wpAny_newObj_type (wpAny_pure ⟨_, rfl, wpAny_pure h⟩) htake))
end
def tRevU (K : PySem.W.Frag) (te : TE) : TE := fun σ H Q => te σ H fun x H1 => ∃ a xs, x = .ref a ∧ SqT K H1 a xs ∧ ∀ p, H1 p = none → Q (.ref p) (upd H1 p (.tup xs.reverse))
theorem pe_revU {X : Cx} {e : Expr} {te : TE} {k : Nat} {p1 p2 p3 pos : Pos} (he : PE X e te) : PE X (.Subscript e (.Slice none none (some (.UnaryOp .USub (.Constant (.int 1) k p1) p2)) p3) pos) (tRevU X.K te) := by
  refine ⟨fun pins s σ H Q I h => ?_⟩
  refine Subscript_ (thn (he.run pins s σ H _ I h) fun v s1 ⟨x, H1, I1, r1, q1⟩ => ?_)
  obtain ⟨a, xs, ex, hx, q⟩ := q1
  subst ex
  cases r1
  have hst : PO X (some (.UnaryOp .USub (.Constant (.int 1) k p1) p2)) (tPart (tUn (rU fun i => .int (-i)) (tC (.int 1)))) := po_some (pe_un un_neg pe_int)
  refine wpAny_Slice (thn (po_none.run pins s1 σ H1 (fun o H2 => o = none ∧ H2 = H1) I1 ⟨rfl, rfl⟩) fun vl s2 ⟨l, H2, I2, pl, el, e2⟩ => ?_)
  subst el e2
  refine thn (po_none.run pins s2 σ H2 (fun o H3 => o = none ∧ H3 = H2) I2 ⟨rfl, rfl⟩) fun vu s3 ⟨u, H3, I3, pu, eu, e3⟩ => ?_
  subst eu e3
  refine thn (hst.run pins s3 σ H3 (fun o H4 => o = some (-1) ∧ H4 = H3) I3 ⟨1, rfl, -1, rfl, rfl, rfl⟩) fun vs s4 ⟨o, H4, I4, ps, eo, e4⟩ => ?_
  subst eo e4
  cases pl
  cases pu
  have I5 : Inv X pins σ H4 { s4 with heap := s4.heap.push { cls := .type "slice", data := .fields #[.none, .none, vs] } } := I4.kept (t' := s4.toks) fun b ob q => Heap.get?_push_of_some _ q
  obtain ⟨its, r, ht, hz⟩ := I5.tuple hx
  have hlen := r.length
  refine tail_any (ops := [.ref a, .ref s4.heap.objs.size]) ht.typeIs (PyProof.Rows.slot_tuple_getitem.lookup) ?_ (by with_unfolding_all rfl)
  refine getItem_tuple_rev ht (Heap.IsSliceOf.new _ .none .none vs) ps ?_ (by rw [List.size_toArray]; omega)
  refine ⟨.ref _, _, I5.laid (t' := s4.toks) (o := .tup xs.reverse) (fun b ob q => Heap.get?_push_of_some _ q) (Nat.le_refl _) ?_, rfl, q _ (I5.hok.fresh (Nat.le_refl _))⟩
  exact ⟨by rw [List.length_reverse]; exact hz, _, r.reverse, IsTup.new _ _⟩
/-! ### whether a tuple is not () -/
def rNe0 (K : PySem.W.Frag) : R2 := fun x y H Q => ∃ a b xs, x = .ref a ∧ y = .ref b ∧ SqT K H a xs ∧ SqT K H b [] ∧ Q (.bl (!decide (xs = []))) H
theorem op_ne0 {X : Cx} (hu : X.A.units < cLine) : OpR X (compareOp .NotEq) (rNe0 X.K) := by
  intro pins s σ H x y v u Q I rx ry h
  obtain ⟨a, b, xs, rfl, rfl, ha, hb, q⟩ := h
  cases rx
  cases ry
  obtain ⟨its, r1, p1, _⟩ := I.tuple ha
  obtain ⟨its2, r2, p2, _⟩ := I.tuple hb
  cases r2
  have t1 : s.heap.IsTuple a its.toArray := by
    obtain ⟨o, ho, hc, n, hd⟩ := p1
    exact ⟨o, ho, hc, n, hd⟩
  have t2 : s.heap.IsTuple b ([] : List Value).toArray := by
    obtain ⟨o, ho, hc, n, hd⟩ := p2
    exact ⟨o, ho, hc, n, hd⟩
  refine SeqAt.RcNeAt.tuples (e := fun _ => true) t1 t2 hu (fun j h1 h2 => absurd h2 (Nat.not_lt_zero _)) X.prog X.w X.xe (EP X pins σ Q) ⟨.bl _, H, I, ?_, q⟩
  have hl := r1.length
  show Value.bool _ = Value.bool _
  congr 1
  cases xs with
  | nil =>
    cases r1
    rfl
  | cons x xs =>
    cases r1
    simp
end Gk
namespace Gk
open PySem PySem.Spec PyProof.Rows L2
/-! ### math.lcm; small things for any law -/
def rLcm : List V → Hp → VK → Prop := fun vs H Q => ∃ a b : Int, vs = [.int a, .int b] ∧ a.natAbs < 2 ^ 64 ∧ b.natAbs < 2 ^ 64 ∧ Q (.int ((a.natAbs.lcm b.natAbs : Nat) : Int)) H
theorem cr_lcm {X : Cx} : CallR X (.builtin "math.lcm") rLcm := by
  intro pins s σ H vs us Q I r h
  obtain ⟨a, b, rfl, ha, hb, q⟩ := h
  obtain ⟨t, u, rfl⟩ := Vals.int2 r
  exact PySem.W.mc_lcm ha hb fun _ => ⟨.int _, H, I.tok _, ⟨_, rfl⟩, q⟩
theorem Same.seqLL {K : PySem.W.Frag} {H H' : Hp} {a : Addr} {xs : List V} (e : Same H H') (h : SqL K H a xs) : SqL K H' a xs := by
  rcases h with (h | ⟨o, h⟩) | h
  · exact .inl (.inl (e _ _ h))
  · exact .inl (.inr ⟨o, e _ _ h⟩)
  · exact .inr h
theorem tame2 {a b : Int} (ha : a.natAbs < 10 ^ 20) (hb : b.natAbs < 10 ^ 20) : Gk.tame (.tuple [.int a, .int b]) = true := by
  simp only [Gk.tame, tameAll, ha, hb, decide_true, Bool.and_self]
theorem depth2 {a b : Int} : (PyData.tuple [.int a, .int b]).depth ≤ 40 := by
  simp only [PyData.depth, PyData.depthAll]
  omega
theorem fine2 {a b : Int} (ha : a.natAbs < 10 ^ 20) (hb : b.natAbs < 10 ^ 20) : Fine (.tuple [.int a, .int b]) :=
  Fine.tame (tame2 ha hb) depth2 (by simp only [Gk.cost, costAll]; omega)
theorem dp2 {K : PySem.W.Frag} {H : Hp} {p : Addr} {a b : Int} (h : SqT K H p [.int a, .int b]) : Dp K H (.ref p) (.tuple [.int a, .int b]) := .tup h (.cons (.int a) (.cons (.int b) .nil))
theorem flatLen {α : Type} (n : Nat) (l : List α) : ((List.replicate n l).flatten).length = n * l.length := by
  induction n with
  | zero => simp
  | succ n ih => rw [List.replicate_succ, List.flatten_cons, List.length_append, ih, Nat.succ_mul, Nat.add_comm]
theorem pairs_sq {K : PySem.W.Frag} {H : Hp} {p : Addr} {l : List (Int × Int)} (h : PairsAt K H p l) : ∃ xs, SqT K H p xs ∧ xs.length = l.length ∧ DpAll K H xs (l.map pd) := by
  cases h with
  | tup h1 h2 => exact ⟨_, h1, lc_len h2, h2⟩
theorem keepSeqL {K : PySem.W.Frag} {H1 H' : Hp} {a b : Addr} {o : HO} {xs : List V} (hS : SqL K H1 a xs) (nb : H1 b = none) (e : But b (upd H1 b o) H') : SqL K H' a xs := by
  rcases hS with (h | ⟨u, h⟩) | h
  · exact .inl (.inl (e _ _ (ne_of_none h nb) (same_new nb _ _ h)))
  · exact .inl (.inr ⟨u, e _ _ (ne_of_none h nb) (same_new nb _ _ h)⟩)
  · exact .inr h
theorem butLocal {b D : Addr} {H H1 H2 : Hp} (nD : H D = none) (h : But b H H1) (g : ∀ a o, a ≠ b → a ≠ D → H1 a = some o → H2 a = some o) : But b H H2 := fun a o n e => g a o n (fun z => by rw [z, nD] at e; cases e) (h a o n e)
theorem pt_mid {X : Cx} {e : Expr} {t : TT} (h : PT X e t) : PT X e (tMidT t) :=
  ⟨fun pins s σ H Q I ⟨M, h1, h2⟩ => thn (h.run pins s σ H M I h1) fun b s1 ⟨H1, I1, q⟩ => ⟨H1, I1, h2 b H1 q⟩⟩
end Gk
namespace Pf
open PySem PySem.Spec PyProof.Rows L2 Gk
/-! ### steady cells one by one; pairs of positions -/
theorem brAt_fair {l : List (Int × Int)} (fair : Fair l) (h : 1 ≤ l.length) (m : Nat) : 0 ≤ brAt l m ∧ (brAt l m).toNat < 8 := by
  obtain ⟨x, hx, e⟩ := brAt_in h m
  have := (fair x hx).1
  rw [e] at this
  omega
def cl (l : List (Int × Int)) (k : Str) (z : Int) (x : Option Int) (i : Nat) : PyData := cellD k x (brAt l i).toNat (hR l k z.toNat z.toNat i)
theorem cellsD_cl (l : List (Int × Int)) (k : Str) (z : Int) (x : Option Int) (n : Nat) : cellsD l k z x n = (List.range n).map (cl l k z x) := rfl
theorem cl_tame {l : List (Int × Int)} {k : Str} {z : Int} {x : Option Int} (fair : Fair l) (h : 1 ≤ l.length) (ok : PlanOk k z x) (i : Nat) : Gk.tame (cl l k z x i) = true ∧ cost (cl l k z x i) ≤ 200 ∧ (cl l k z x i).depth ≤ 2 :=
  cell_tame ok (brAt_fair fair h i).2 (by rw [show (hR l k z.toNat z.toNat i).length = z.toNat from hist_len _ _ _ _]; have := ok.2.1; omega)
theorem cl_shaped {l : List (Int × Int)} {k : Str} {z : Int} {x : Option Int} (fair : Fair l) (h : 1 ≤ l.length) (ok : PlanOk k z x) (i : Nat) : SeqAt.shaped (cl l k z x i) = true := by
  obtain ⟨a, _, b⟩ := cl_tame fair h ok i
  exact tame_shaped a (by omega)
theorem cells_at {K : PySem.W.Frag} {H : Hp} {as : List V} {l : List (Int × Int)} {k : Str} {z : Int} {x : Option Int} {n i : Nat} (h : DpAll K H as (cellsD l k z x n)) (hi : i < n) : ∃ v, as[i]? = some v ∧ Dp K H v (cl l k z x i) := by
  have hl := DpAll.len h
  rw [cellsD_cl, List.length_map, List.length_range] at hl
  refine ⟨as[i]'(by omega), List.getElem?_eq_getElem (by omega), DpAll.at h (List.getElem?_eq_getElem (by omega)) ?_⟩
  rw [cellsD_cl, List.getElem?_map, List.getElem?_range hi]
  rfl
theorem cells_keep {K : PySem.W.Frag} {H H' : Hp} {as : List V} {l : List (Int × Int)} {k : Str} {z : Int} {x : Option Int} {n : Nat} (h : DpAll K H as (cellsD l k z x n)) (kp : Keep K H H') : DpAll K H' as (cellsD l k z x n) := DpAll.keepT kp (cells_tups _ _ _ _ _) h
theorem atI_of {xs : List V} {i : Nat} {v : V} (h : xs[i]? = some v) : atI xs ((i : Nat) : Int) = some v := atI_nat h
def rowP (p : Nat → Nat → Bool) (i : Nat) : Nat → List (Int × Int)
  | 0 => []
  | m + 1 => rowP p i m ++ (if p i (i + 1 + m) = true then [(((i : Nat) : Int), ((i + 1 + m : Nat) : Int))] else [])
def allP (p : Nat → Nat → Bool) (n : Nat) : Nat → List (Int × Int)
  | 0 => []
  | i + 1 => allP p n i ++ rowP p i (n - (i + 1))
theorem rowP_len (p : Nat → Nat → Bool) (i : Nat) : ∀ m, (rowP p i m).length ≤ m
  | 0 => Nat.le_refl _
  | m + 1 => by
    have := rowP_len p i m
    unfold rowP
    rw [List.length_append]
    split
    · show _ + 1 ≤ m + 1
      omega
    · show _ + 0 ≤ m + 1
      omega
theorem allP_len (p : Nat → Nat → Bool) (n : Nat) : ∀ i, i ≤ n → 2 * (allP p n i).length + i * (i + 1) ≤ 2 * (i * n)
  | 0, _ => by simp [allP]
  | i + 1, h => by
    have h1 := allP_len p n i (by omega)
    have h2 := rowP_len p i (n - (i + 1))
    unfold allP
    rw [List.length_append]
    have e1 : (i + 1) * (i + 1 + 1) = i * (i + 1) + 2 * (i + 1) := by rw [Nat.succ_mul, Nat.mul_succ]; omega
    have e2 : (i + 1) * n = i * n + n := Nat.succ_mul i n
    rw [e1, e2]
    omega
theorem rowP_in {p : Nat → Nat → Bool} {i : Nat} : ∀ {m : Nat} {x : Int × Int}, x ∈ rowP p i m → ∃ a b : Nat, x = ((a : Int), (b : Int)) ∧ a = i ∧ i < b ∧ b < i + 1 + m ∧ p a b = true
  | 0, x, h => (nomatch h)
  | m + 1, x, h => by
    unfold rowP at h
    rcases List.mem_append.mp h with h | h
    · obtain ⟨a, b, e, h1, h2, h3, h4⟩ := rowP_in h
      exact ⟨a, b, e, h1, h2, by omega, h4⟩
    · split at h
      · rename_i hp
        rw [List.mem_singleton.mp h]
        exact ⟨i, i + 1 + m, rfl, rfl, by omega, by omega, hp⟩
      · exact (nomatch h)
theorem allP_in {p : Nat → Nat → Bool} {n : Nat} : ∀ {i : Nat} {x : Int × Int}, i ≤ n → x ∈ allP p n i → ∃ a b : Nat, x = ((a : Int), (b : Int)) ∧ a < b ∧ b < n ∧ p a b = true
  | 0, x, _, h => (nomatch h)
  | i + 1, x, hi, h => by
    unfold allP at h
    rcases List.mem_append.mp h with h | h
    · exact allP_in (by omega) h
    · obtain ⟨a, b, e, h1, h2, h3, h4⟩ := rowP_in h
      exact ⟨a, b, e, by omega, by omega, h4⟩
/-- pairs of small numbers -/
def Tiny (l : List (Int × Int)) : Prop := ∀ x ∈ l, ∃ a b : Nat, x = ((a : Int), (b : Int)) ∧ a < 1000 ∧ b < 1000
theorem tame_tiny : ∀ {l : List (Int × Int)}, Tiny l → tameAll (l.map pd) = true
  | [], _ => rfl
  | x :: l, h => by
    obtain ⟨a, b, e, h1, h2⟩ := h x List.mem_cons_self
    show (tame (pd x) && tameAll (l.map pd)) = true
    rw [tame_tiny fun z hz => h z (List.mem_cons_of_mem _ hz), Bool.and_true, e]
    simp only [pd, tame, tameAll, Bool.and_true, Bool.and_eq_true, decide_eq_true_eq]
    omega
theorem tiny_fine {l : List (Int × Int)} (h : Tiny l) (hl : l.length ≤ 3000) : Fine (.tuple (l.map pd)) := by
  have c := cost_pd l
  have d := depth_pd l
  refine Fine.tame (by simpa only [Gk.tame] using tame_tiny h) ?_ ?_
  · simp only [PyData.depth]
    omega
  · simp only [Gk.cost]
    omega
theorem allP_tiny {p : Nat → Nat → Bool} {n : Nat} (hn : n ≤ 64) : Tiny (allP p n n) := fun x hx => by
  obtain ⟨a, b, e, h1, h2, _⟩ := allP_in (Nat.le_refl _) hx
  exact ⟨a, b, e, by omega, by omega⟩
theorem allP_many {p : Nat → Nat → Bool} {n : Nat} (hn : n ≤ 64) : (allP p n n).length ≤ 3000 := by
  have h := allP_len p n n (Nat.le_refl _)
  have h2 : n * n ≤ 64 * 64 := Nat.mul_le_mul hn hn
  have h3 : n * (n + 1) = n * n + n := Nat.mul_succ n n
  omega
theorem allP_many2 {p : Nat → Nat → Bool} {n i : Nat} (hn : n ≤ 64) (hi : i ≤ n) : (allP p n i).length ≤ 4096 := by
  have h := allP_len p n i hi
  have h2 : i * n ≤ 64 * 64 := Nat.mul_le_mul (by omega) hn
  omega
end Pf
/-! A generator def that is asked for its first item alone. -/
namespace Gk
open PySem PySem.Spec PyProof.Rows L2 GenW

/-- what is wanted behind a statement of a generator that has handed out nothing; yl: of the first item -/
structure FEnds where
  nx : L2.St → Hp → Prop
  rt : VK
  bk : L2.St → Hp → Prop := fun _ _ => False
  ct : L2.St → Hp → Prop := fun _ _ => False
  yl : VK
abbrev TF := FEnds → L2.St → Hp → Prop
def FEnds.at (D : FEnds) : Ends := { nx := D.nx, rt := D.rt, bk := D.bk, ct := D.ct }
def FY (X : Cx) (Q : VK) : Protocol := fun n s₀ v s kap => ∃ x ip σ H, RelV x v ∧ Inv X ip σ H s ∧ Q x H
structure FC (X : Cx) (A : Around) (c : Code) (fs : List Frame) (gd : Bool → Bool) : Prop where
  over : A.over c fs = X.A
  split : splitAtGen fs = none
  guard : fs.any Frame.guarded = false
  gd : gd false = false
  nox : ∀ e s, ¬ X.xe e s
structure FK (X : Cx) (ip : List (Addr × Obj)) (A : Around) (R : GenEnd) (c : Code) (fs : List Frame) (K : Flow → Sem PySem.Fin) (D : FEnds) : Prop where
  ok : ∀ (s₀ s : Shared) (f : Flow), SP X ip D.at f s → Seg (model X.prog X.w) A R (FY X D.yl) 1 s₀ c (K f) fs s
structure FS (X : Cx) (st : Stmt) (t : TF) : Prop where
  run : ∀ (A : Around) (ip : List (Addr × Obj)) (R : GenEnd) (s₀ : Shared) (c : Code) (fs : List Frame) (K : Flow → Sem PySem.Fin) (J : Value → Sem PySem.Fin) (gd : Bool → Bool) (lv : List Value → List Value) (s : Shared) (σ : L2.St) (H : Hp) (D : FEnds),
    FC X A c fs gd → FK X ip A R c fs K D → Inv X ip σ H s → t D σ H →
    Seg (model X.prog X.w) A R (FY X D.yl) 1 s₀ c ((exec st X.env).wrap K J gd lv) fs s
structure FSs (X : Cx) (st : List Stmt) (t : TF) : Prop where
  run : ∀ (A : Around) (ip : List (Addr × Obj)) (R : GenEnd) (s₀ : Shared) (c : Code) (fs : List Frame) (K : Flow → Sem PySem.Fin) (J : Value → Sem PySem.Fin) (gd : Bool → Bool) (lv : List Value → List Value) (s : Shared) (σ : L2.St) (H : Hp) (D : FEnds),
    FC X A c fs gd → FK X ip A R c fs K D → Inv X ip σ H s → t D σ H →
    Seg (model X.prog X.w) A R (FY X D.yl) 1 s₀ c ((execs st X.env).wrap K J gd lv) fs s
section
variable {X : Cx} {st : Stmt} {rest : List Stmt}
def tFPlain (t : TS) : TF := fun D σ H => t D.at σ H
theorem fs_ps {t : TS} (h : PS X st t) : FS X st (tFPlain t) := by
  refine ⟨fun A ip R s₀ c fs K J gd lv s σ H D g k I ht => ?_⟩
  refine seg_wrap ?_
  rw [g.over]
  exact wpAny_mono (h.run _ s σ H D.at I ht) (fun f s' hs => k.ok s₀ s' f hs) fun x s' hx => (g.nox x s' hx).elim
def tF0 : TF := fun D σ H => D.nx σ H
theorem fss_nil : FSs X [] tF0 := by
  refine ⟨fun A ip R s₀ c fs K J gd lv s σ H D g k I ht => ?_⟩
  exact seg_execs_nil (k.ok s₀ s .next ⟨σ, H, I, ht⟩)
def tFThen (t u : TF) : TF := fun D σ H => t { D with nx := fun σ' H' => u D σ' H' } σ H
theorem fss_cons {t u : TF} (a : FS X st t) (b : FSs X rest u) : FSs X (st :: rest) (tFThen t u) := by
  refine ⟨fun A ip R s₀ c fs K J gd lv s σ H D g k I ht => ?_⟩
  refine seg_execs_cons ?_
  refine a.run A ip R s₀ c fs _ J gd lv s σ H { D with nx := fun σ' H' => u D σ' H' } g ⟨fun s₀' s' f hs => ?_⟩ I ht
  cases f with
  | next =>
    obtain ⟨σ', H', I', q⟩ := hs
    exact b.run A ip R s₀' c fs K J gd lv s' σ' H' D g k I' q
  | brk => exact k.ok s₀' s' .brk hs
  | cont => exact k.ok s₀' s' .cont hs
  | ret u => exact k.ok s₀' s' (.ret u) hs
theorem fss_one {t : TF} (a : FS X st t) : FSs X [st] (tFThen t tF0) := fss_cons a fss_nil
def tFYield (te : TE) : TF := fun D σ H => te σ H D.yl
theorem fs_yield {e : Expr} {yp pos : Pos} {te : TE} (he : PE X e te) (hco : X.env.scope.isCoroutine = false := by rfl) (hi : interactive X.env = false := by rfl) : FS X (.Expr (.Yield (some e) yp) pos) (tFYield te) := by
  refine ⟨fun A ip R s₀ c fs K J gd lv s σ H D g k I ht => ?_⟩
  refine seg_Expr_Yield (n := 0) g.split g.gd g.guard ?_ hco hi
  rw [g.over]
  refine wpAny_mono (he.run _ s σ H _ I ht) (fun v s' hv => ?_) fun x s' hx => (g.nox x s' hx).elim
  obtain ⟨x, H1, I1, rv, q⟩ := hv
  intro kap hk
  exact ⟨x, ip, σ, H1, rv, I1, q⟩
def tFIf (c : TT) (t u : TF) : TF := fun D σ H => c σ H fun b H1 => if b = true then t D σ H1 else u D σ H1
theorem fs_if {test : Expr} {body orelse : List Stmt} {pos : Pos} {tc : TT} {tb te : TF} (hc : PT X test tc) (hb : FSs X body tb) (he : FSs X orelse te) : FS X (.If test body orelse pos) (tFIf tc tb te) := by
  refine ⟨fun A ip R s₀ c fs K J gd lv s σ H D g k I ht => ?_⟩
  rw [exec_If]
  show Seg _ _ _ _ _ s₀ c (.at pos fun _ => ((isTrue test X.env (eval test X.env)) >>= fun b => if b = true then execs body X.env else execs orelse X.env).wrap K J gd lv) fs s
  refine seg_at (seg_bind_wrap ?_)
  rw [g.over]
  refine wpAny_mono (hc.run _ s σ H _ I ht) (fun b s' hb' => ?_) fun x s' hx => (g.nox x s' hx).elim
  obtain ⟨H1, I1, q⟩ := hb'
  cases b with
  | true =>
    rw [if_pos rfl] at q
    rw [if_pos rfl]
    exact hb.run A ip R s₀ c fs K J gd lv s' σ H1 D g k I1 q
  | false =>
    rw [if_neg Bool.false_ne_true] at q
    rw [if_neg Bool.false_ne_true]
    exact he.run A ip R s₀ c fs K J gd lv s' σ H1 D g k I1 q
end

/-! ### for -/
section
variable {prog : Program} {w : World} {A : Around} {R : GenEnd} {Y : Protocol} {n : Nat} {s₀ : Shared} {fs : List Frame} {s : Shared} {env : Env}
theorem seg_forLoop {target : Expr} {it : Value} {body : List Stmt} (J : Value → Sem PySem.Fin) (hJ : ∀ e, J e = (do noteFrame e env; theTreesLotGoes e : Sem Unit).bind fun _ => .raise e)
    (h : wpAny (model prog w) (A.over (.forLoop target it body [] env) fs) (pyNext it) (fun r s1 => match r with
      | none => Seg (model prog w) A R Y n s₀ (.forLoop target it body [] env) (.pure (.again (.block [] env))) fs s1
      | some v => wpAny (model prog w) (A.over (.forLoop target it body [] env) fs) (letOwnedTupleGo target it v) (fun _ s2 => wpAny (model prog w) (A.over (.forLoop target it body [] env) fs) (assign target env v) (fun _ s3 =>
          Seg (model prog w) A R Y n s₀ (.forLoop target it body [] env) ((execs body env).wrap (fun f => match f with
            | .next | .cont => .pure (.again (.forLoop target it body [] env))
            | .brk => .pure (.done .next)
            | .ret v => .pure (.done (.ret v))) J id id) fs s3) (fun _ _ => False) s2) (fun _ _ => False) s1) (fun _ _ => False) s) :
    Seg (model prog w) A R Y n s₀ (.forLoop target it body [] env) ((model prog w).den (.forLoop target it body [] env)) fs s := by
  show Seg _ A R Y n s₀ _ ((forTurn target it body [] env).onRaise (fun x => do noteFrame x env; theTreesLotGoes x)) fs s
  rw [Sem.onRaise_eq_wrap]
  unfold forTurn
  refine seg_bind_wrap (wpAny_standAt ?_)
  refine seg_bind_wrap (wpAny_onRaise (wpAny_mono h (fun r s1 h1 => ?_) fun _ _ z => z.elim))
  cases r with
  | none => exact h1
  | some v =>
    dsimp only at h1 ⊢
    refine seg_bind_wrap (wpAny_mono h1 (fun _ s2 h2 => ?_) fun _ _ z => z.elim)
    refine seg_bind_wrap (wpAny_mono h2 (fun _ s3 h3 => ?_) fun _ _ z => z.elim)
    rw [Sem.bind_eq_wrap', Sem.wrap_wrap]
    rw [Sem.wrap_congr (execs body env) _ _ (K' := fun f => match f with
            | .next | .cont => .pure (.again (.forLoop target it body [] env))
            | .brk => .pure (.done .next)
            | .ret v => .pure (.done (.ret v))) (H' := J) (fun f => by cases f <;> rfl) (fun e => by rw [hJ]; rfl)]
    exact h3
end
section
variable {X : Cx}
theorem fc_loop {A : Around} {c c' : Code} {fs : List Frame} {gd : Bool → Bool} {k : Result → Sem PySem.Fin} {l kp : List Value} {p : Pos} (g : FC X A c fs gd) (hw : c'.weight = 0) (hu : c'.cUnits = 0) :
    FC X A c' (.ret k none (gd false) l c p kp :: fs) id where
  over := (over_loop hw hu).trans g.over
  split := by
    show (splitAtGen fs).map _ = none
    rw [g.split]; rfl
  guard := by
    show (gd false || fs.any Frame.guarded) = false
    rw [g.gd, g.guard]; rfl
  gd := rfl
  nox := g.nox
def tFFor (wi : TI) (g : TG) (tb : TF) : TF := fun D σ H => wi σ H fun J H1 => ∃ W : Nat → Nat → L2.St → Hp → Prop, (∃ m, W 0 m σ H1) ∧ ∀ i m σ H, W i m σ H →
  (J.stop i H ∧ D.nx σ H) ∨ (J.go i H ∧ ∃ N : L2.St → Hp → Prop, (∀ σ' H', N σ' H' → ∃ m', m' < m ∧ W (i + 1) m' σ' H') ∧ ∀ x H', J.yld i H x H' → g x σ H' fun σ2 H2 => tb { D with nx := N, ct := N, bk := D.nx } σ2 H2)
theorem fs_for {tg iter : Expr} {body : List Stmt} {wi : TI} {g : TG} {tb : TF} {pos : Pos} (hc : X.calm = true) (hi : PI X tg iter wi) (hg : PG X tg g) (hb : FSs X body tb)
    (hs : ∀ x, foldedSetIterable iter X.env x = pure x := by intro _; rfl) : FS X (.For tg iter body [] pos) (tFFor wi g tb) := by
  refine ⟨fun A ip R s₀ c fs K J gd lv s σ H D gc k I ht => ?_⟩
  rw [exec_For]
  show Seg _ _ _ _ _ s₀ c (.at pos fun _ => (eval iter X.env >>= fun v => foldedSetIterable iter X.env v >>= fun x => standAt iter.pos >>= fun _ => holding [x] (pyIter x) >>= fun it => runOwn (.forLoop tg it body [] X.env) X.env).wrap K J gd lv) fs s
  refine seg_at (seg_bind_wrap ?_)
  rw [gc.over]
  refine wpAny_mono (hi.run _ s σ H _ I ht) (fun v s1 h1 => ?_) fun x s' hx => (gc.nox x s' hx).elim
  refine seg_bind_wrap (wpAny_of_eq (hs v) ?_)
  refine seg_bind_wrap (wpAny_standAt ?_)
  refine seg_bind_wrap (wpAny_holding ?_)
  rw [gc.over]
  refine wpAny_mono h1 (fun itv s2 h2 => ?_) fun x s' hx => (gc.nox x s' hx).elim
  obtain ⟨it, fp, tn, Jt, H2, e, I2, T, st2, f2, W, ⟨m0, w0⟩, turn⟩ := h2
  subst e
  have stat : ∀ {H' : Hp}, (∀ b ∈ fp, H' b = none) → ∀ b ∈ fp, FpOk X ip H' b := fun hn b hb => ⟨hn b hb, (f2 b hb).2⟩
  show Seg _ _ _ _ _ s₀ c (.call (.forLoop tg (.ref it) body [] X.env) none (gd false) (lv []) fun r => ((match r with | .ok f => (.pure f : Sem Flow) | .error e => .raise e).onRaise (cameBack X.env)).wrap K J gd lv) fs s2
  refine seg_call fun p => ?_
  have gl := fun (kk : Result → Sem PySem.Fin) => fc_loop (k := kk) (c' := .forLoop tg (.ref it) body [] X.env) (l := lv []) (kp := []) (p := p) gc rfl rfl
  have loop : ∀ (m i : Nat) (s₀ s : Shared) (σ : L2.St) (H : Hp), Inv X ip σ H s → tn i s.heap → (∀ b ∈ fp, H b = none) → W i m σ H →
      Seg (model X.prog X.w) A R (FY X D.yl) 1 s₀ (.forLoop tg (.ref it) body [] X.env) ((model X.prog X.w).den (.forLoop tg (.ref it) body [] X.env))
        (.ret (fun r => ((match r with | .ok f => (.pure f : Sem Flow) | .error e => .raise e).onRaise (cameBack X.env)).wrap K J gd lv) none (gd false) (lv []) c p [] :: fs) s := by
    intro m
    induction m using Nat.strongRecOn with
    | ind m ih =>
      intro i s₀ s3 σ3 H3 I3 st3 fr3 w3
      refine seg_forLoop (fun e => (do noteFrame e X.env; theTreesLotGoes e : Sem Unit).bind fun _ => .raise e) (fun _ => rfl) ?_
      rw [(gl _).over]
      rcases turn i m σ3 H3 w3 with ⟨stop, qn⟩ | ⟨go, N, hN, step⟩
      · refine wpAny_mono (T.done X rfl rfl rfl hc i ip s3 σ3 H3 (fun _ _ => False) I3 (stat fr3) st3 stop) (fun r s4 ⟨hr, I4⟩ => ?_) fun _ _ z => z.elim
        subst hr
        dsimp only
        refine seg_again rfl ?_
        exact seg_leaf (.ok .next) (k.ok s₀ s4 .next ⟨σ3, H3, I4, qn⟩)
      · refine wpAny_mono (T.item X rfl rfl rfl hc i ip s3 σ3 H3 (fun _ _ => False) I3 (stat fr3) st3 go) (fun r s4 ⟨u, hr, h4⟩ => ?_) fun _ _ z => z.elim
        subst hr
        dsimp only
        refine wpAny_mono h4 (fun _ s5 ⟨x, H5, I5, r5, y5, st5, fr5⟩ => ?_) fun _ _ z => z.elim
        have I5' := I5.pinned (stat fr5) (T.obj _ _ st5)
        refine wpAny_mono (hg.run _ s5 σ3 H5 x u _ I5' r5 (step x H5 y5)) (fun _ s6 ⟨σ6, H6, I6, q6⟩ => ?_) fun x s' hx => (gc.nox x s' hx).elim
        have again : ∀ {s7 : Shared} {σ7 : L2.St} {H7 : Hp}, Inv X (ip ++ pinsAt fp s5.heap) σ7 H7 s7 → N σ7 H7 → ∃ m', m' < m ∧ Inv X ip σ7 H7 s7 ∧ tn (i + 1) s7.heap ∧ (∀ b ∈ fp, H7 b = none) ∧ W (i + 1) m' σ7 H7 := fun {s7 σ7 H7} I7 n7 => by
          obtain ⟨m', hm, w7⟩ := hN σ7 H7 n7
          refine ⟨m', hm, I7.unpinned, T.keep _ _ _ st5 fun b hb o e => (I7.pin (b, o) (List.mem_append_right _ (List.mem_append_right _ (mem_pinsAt hb e)))).1, fun b hb => ?_, w7⟩
          obtain ⟨o, e, d⟩ := T.obj _ _ st5 b hb
          exact (I7.pin (b, o) (List.mem_append_right _ (List.mem_append_right _ (mem_pinsAt hb e)))).2.1
        refine hb.run A (ip ++ pinsAt fp s5.heap) R s₀ _ _ _ _ id id s6 σ6 H6 { D with nx := N, ct := N, bk := D.nx } (gl _) ⟨fun s₀' s7 f hs => ?_⟩ I6 q6
        cases f with
        | next =>
          obtain ⟨σ7, H7, I7, n7⟩ := hs
          obtain ⟨m', hm, J7, st7, fr7, w7⟩ := again I7 n7
          exact seg_again rfl (ih m' hm (i + 1) s₀' s7 σ7 H7 J7 st7 fr7 w7)
        | cont =>
          obtain ⟨σ7, H7, I7, n7⟩ := hs
          obtain ⟨m', hm, J7, st7, fr7, w7⟩ := again I7 n7
          exact seg_again rfl (ih m' hm (i + 1) s₀' s7 σ7 H7 J7 st7 fr7 w7)
        | brk =>
          obtain ⟨σ7, H7, I7, q7⟩ := hs
          exact seg_leaf (.ok .next) (k.ok s₀' s7 .next ⟨σ7, H7, I7.unpinned, q7⟩)
        | ret v =>
          obtain ⟨x7, σ7, H7, I7, r7, q7⟩ := hs
          exact seg_leaf (.ok (.ret v)) (k.ok s₀' s7 (.ret v) ⟨x7, σ7, H7, I7.unpinned, r7, q7⟩)
  exact loop m0 0 s₀ s2 σ H2 I2 st2 (fun b hb => (f2 b hb).1) w0
theorem for_rangeF {lo : Int} {n : Nat} {g : TG} {tb : TF} {D : FEnds} {σ : L2.St} {H : Hp} (Pv : Nat → L2.St → Hp → Prop) (h0 : Pv 0 σ H)
    (hs : ∀ i σ H, i < n → Pv i σ H → g (.int (lo + i)) σ H fun σ2 H2 => tb { D with nx := Pv (i + 1), ct := Pv (i + 1), bk := D.nx } σ2 H2) (hd : ∀ σ H, Pv n σ H → D.nx σ H) :
    ∃ W : Nat → Nat → L2.St → Hp → Prop, (∃ m, W 0 m σ H) ∧ ∀ i m σ H, W i m σ H →
      ((Itr lo n).stop i H ∧ D.nx σ H) ∨ ((Itr lo n).go i H ∧ ∃ N : L2.St → Hp → Prop, (∀ σ' H', N σ' H' → ∃ m', m' < m ∧ W (i + 1) m' σ' H') ∧ ∀ x H', (Itr lo n).yld i H x H' → g x σ H' fun σ2 H2 => tb { D with nx := N, ct := N, bk := D.nx } σ2 H2) := by
  refine ⟨fun i m σ H => m = n - i ∧ i ≤ n ∧ Pv i σ H, ⟨n, by simp, Nat.zero_le _, h0⟩, ?_⟩
  rintro i m σ H ⟨rfl, hi, p⟩
  by_cases hlt : i < n
  · refine .inr ⟨hlt, Pv (i + 1), fun σ' H' p' => ⟨n - (i + 1), by omega, rfl, hlt, p'⟩, fun x H' y => ?_⟩
    obtain ⟨e, y⟩ := y
    subst e y
    exact hs i σ _ hlt p
  · have e : i = n := by omega
    subst e
    exact .inl ⟨Nat.le_refl _, hd σ H p⟩
end
end Gk
/-! A generator def's promise of its first item; for over it, left at the first turn. -/
namespace Gk
open PySem PySem.Spec PyProof.Rows L2 GenW

/-- the arguments, the heap, what is wanted if nothing is handed out, what is wanted of the first item -/
abbrev SpF := List V → Hp → (Hp → Prop) → VK → Prop
def FBack (P : Program) (w : World) (outer : List Env) (H : Hp) (s : Shared) (a : Addr) (g : Nat) (H' : Hp) (s1 : Shared) : Prop :=
  s1.os = s.os ∧ AllBare s1.gens ∧ Un (frs outer) [] H H' s.heap s1.heap ∧ HOk P w H' s1.heap ∧ s1.heap.IsGen a g
def FEnd (P : Program) (w : World) (outer : List Env) (H : Hp) (s : Shared) (a : Addr) (g : Nat) (Q : Hp → Prop) (s1 : Shared) : Prop := ∃ H', FBack P w outer H s a g H' s1 ∧ Q H'
def FREnd (P : Program) (w : World) (outer : List Env) (H : Hp) (s : Shared) (a : Addr) (g : Nat) (Q : Hp → Prop) : GenEnd := fun n s₀ r s1 =>
  ((r = .ok (.ret .none) ∨ r = .ok .next) ∧ FEnd P w outer H s a g Q s1) ∨ ∃ e, r = .error e ∧ False
def FYItem (P : Program) (w : World) (outer : List Env) (H : Hp) (s : Shared) (a : Addr) (g : Nat) (Q : VK) : Protocol := fun n s₀ v s1 kap =>
  ∃ x H', RelV x v ∧ FBack P w outer H s a g H' s1 ∧ Q x H'
def FMade (P : Program) (w : World) (k : Nat) (outer : List Env) (H : Hp) (s : Shared) (Qn : Hp → Prop) (Qy : VK) (u : Value) (s' : Shared) : Prop :=
  ∃ (a : Addr) (g : Nat) (c : Code), u = .ref a ∧ s.heap.objs.size ≤ a ∧ a < s'.heap.objs.size ∧ s'.heap.IsGen a g ∧ s'.gens[g]? = some (.fresh c) ∧ s'.os = s.os ∧ AllBare s'.gens ∧ s'.heap.NoLimit ∧ (∀ b o, s.heap.get? b = some o → s'.heap.get? b = some o) ∧
    ∀ (A : Around) (s2 : Shared), Room k A → A.frames = some outer → (∀ b o, s'.heap.get? b = some o → s2.heap.get? b = some o) → s2.os = s.os → AllBare s2.gens →
      Seg (model P w) A (FREnd P w outer H s a g Qn) (FYItem P w outer H s a g Qy) 1 s2 c ((model P w).den c) [] s2
structure GF (P : Program) (w : World) (K : PySem.W.Frag) (mg : Str → Option Value) (base : Heap) (k : Nat) (f : Addr) (fd : FuncData) (ps : List Str) (sp : SpF) : Prop where
  len : ∀ vs H Qn Qy, sp vs H Qn Qy → vs.length = ps.length
  run : ∀ (A : Around) (outer : List Env) (s : Shared) (H : Hp) (args : Args) (us : List Value) (vs : List V) (Qn : Hp → Prop) (Qy : VK), Room k A → Env0 P w K mg base A outer s H → BindsTo s fd args (ps.zip us) → Vals vs us → sp vs H Qn Qy →
    codeAny (model P w) A (.call (.ref f) args) (fun r s' => match r with | .ok (.ret u) => FMade P w k outer H s Qn Qy u s' | _ => False) s
/-- the context of the body: nothing is raised -/
def fcx (P : Program) (w : World) (K : PySem.W.Frag) (mg : Str → Option Value) (base : Heap) (N : List Str) (qual : Str) (scope : Scope) (f : Addr) (cd : Value) (A : Around) (outer : List Env) (s : Shared) (H : Hp) (pn : List (Addr × Obj)) : Cx :=
  (gcxOf P w K mg base N qual scope f cd A outer s H L2.E0 pn).nox
theorem gf_of {P : Program} {w : World} {K : PySem.W.Frag} {mg : Str → Option Value} {base : Heap} {k : Nat} {f : Addr} {name qual : Str} {params : Arguments} {body : List Stmt} {scope : Scope} {dV kV doc pm cdv ct oc : Value} {an od : Option Addr}
    {osl : Array (Option Value)} {N ps : List Str} {sp : SpF} (lk : K.lookup f = some ⟨oc, od, .func (PySem.W.fnOf name qual params body scope dV kV doc pm an cdv ct), osl⟩) (hcd : PySem.W.codeIn K cdv qual = true) (S : GScope N ps scope)
    (len : ∀ vs H Qn Qy, sp vs H Qn Qy → vs.length = ps.length)
    (hbody : ∀ (A : Around) (outer : List Env) (s : Shared) (H : Hp) (vs : List V) (Qn : Hp → Prop) (Qy : VK) (pn : List (Addr × Obj)), Room k (A.deeper (envOfC qual scope s.heap.objs.size f cdv)) → sp vs H Qn Qy →
      ∃ t, FSs (fcx P w K mg base N qual scope f cdv A outer s H pn) body t ∧ t { nx := fun _ H' => Qn H', rt := fun v H' => v = .non ∧ Qn H', yl := Qy } (start N vs) H) :
    GF P w K mg base (k + 1) f (PySem.W.fnOf name qual params body scope dV kV doc pm an cdv ct) ps sp := by
  refine ⟨len, fun A outer s H args us vs Qn Qy hr e0 hb r hsp => ?_⟩
  have hl := len _ _ _ _ hsp
  have KX : K.In s.heap := e0.mod.kin.keeps fun b o e => (e0.bs b o e).1
  have lim : s.heap.NoLimit := e0.mod.nolimit.keeps fun b o e => (e0.bs b o e).1
  have hkind : ∀ y ∈ ps.zip us, scope.names.lookup y.1 = some .local ∨ (scope.names.lookup y.1 = some .cell ∧ ((cellsFrom (s.heap.objs.size + 1) scope.names []).lookup y.1).isSome = true) := fun ⟨n, v⟩ hy => by
    rcases S.par n (List.of_mem_zip hy).1 with q | q
    · exact .inl q
    · exact .inr ⟨q, PySem.W.cellsFrom_some _ _ _ (.inl q)⟩
  refine codeAny_call_generator hr.depth (KX _ _ lk) rfl S.co S.gen rfl (PySem.W.codeRec_of KX hcd) (hb _ _ _ _ ?_)
  refine wpAny_newFunctionEnv_cells S.kind hkind fun env he s1 x => ?_
  subst he
  have lim1 : s1.heap.NoLimit := lim.keeps x.toInCall.keep
  refine ⟨lim1, ?_⟩
  obtain ⟨h1, tk, es1, hk1⟩ := x.done
  have os1 : s1.os = s.os := by rw [es1]
  have gen1 : s1.gens = s.gens := by rw [es1]
  have lt1 : s.heap.objs.size < s1.heap.objs.size := x.toInCall.ns.lt
  have sz1 : s.heap.objs.size ≤ s1.heap.objs.size := Nat.le_of_lt lt1
  have kp1 : ∀ b o, s.heap.get? b = some o → s1.heap.get? b = some o := x.toInCall.keep
  have main : ∀ (go : Obj) (nm qn : Value) (tk2 : Nat), go.cls = .type "generator" → go.data = .fields #[.int s1.gens.size 0, nm, qn] → go.slots = #[] → (∀ h : Heap, (h.push go).get? h.objs.size = some go) →
      FMade P w (k + 1) outer H s Qn Qy (.ref s1.heap.objs.size) { s1 with gens := s1.gens.push (.fresh (.func body (envOfC qual scope s.heap.objs.size f cdv))), toks := tk2, heap := s1.heap.push go } := by
    intro go nm qn tk2 hgc hgd0 hgs hgp
    have hgen : ∀ h : Heap, h.get? s1.heap.objs.size = some go → h.IsGen s1.heap.objs.size s1.gens.size := fun h e => ⟨go, nm, qn, e, hgc, hgd0, hgs⟩
    have hpushed : (s1.heap.push go).get? s1.heap.objs.size = some go := hgp _
    refine ⟨s1.heap.objs.size, s1.gens.size, _, rfl, sz1, ?_, hgen _ hpushed, Array.getElem?_push_size .., os1, ?_, lim1.keeps fun b o e => Heap.get?_push_of_some _ e, fun b o e => Heap.get?_push_of_some _ (kp1 b o e), ?_⟩
    · show _ < (s1.heap.push _).objs.size
      rw [Heap.size_push]; exact Nat.lt_succ_self _
    · exact AllBare.push (by rw [gen1]; exact e0.bare) rfl
    intro Aw s2 hrw hfr hk2 hos hba
    have e0w : Env0 P w K mg base Aw outer s H := ⟨hfr, e0.mod, e0.bs, e0.bsz, e0.funs, e0.frf, e0.hok, e0.bare⟩
    obtain ⟨t, ht, hq⟩ := hbody Aw outer s H vs Qn Qy [(s1.heap.objs.size, go)] (hrw.deeper _) hsp
    have I1 : Inv (gcxOf P w K mg base N qual scope f cdv Aw outer s H L2.E0 []) [] (start N vs) H s1 := inv_startG S hrw.hd e0w hl r x
    have kp2 : ∀ b o, s1.heap.get? b = some o → s2.heap.get? b = some o := fun b o e => hk2 b o (Heap.get?_push_of_some _ e)
    have I2 : Inv (gcxOf P w K mg base N qual scope f cdv Aw outer s H L2.E0 []) [] (start N vs) H s2 :=
      I1.call' (ch := []) (hos.trans os1.symm) (Un.kept kp2) (I1.hok.kept kp2) hba fun b z => by simp at z
    have hea : s2.heap.get? s1.heap.objs.size = some go := hk2 s1.heap.objs.size go hpushed
    have hgd : ∀ v, go.data ≠ .cell v := fun v q => by rw [hgd0] at q; cases q
    have hG : Inv (fcx P w K mg base N qual scope f cdv Aw outer s H [(s1.heap.objs.size, go)]) [] (start N vs) H s2 := by
      refine Inv.wish (X := gcxOf P w K mg base N qual scope f cdv Aw outer s H L2.E0 [(s1.heap.objs.size, go)]) (Inv.pinnedG I2 fun p hp => ?_) _
      rcases List.mem_append.mp hp with z | z
      · rw [List.mem_singleton.mp z]
        exact ⟨hea, I1.hok.fresh (Nat.le_refl _), Nat.ne_of_gt lt1, I1.nofs (Nat.le_refl _), hgd⟩
      · cases z
    have back : ∀ {ip : List (Addr × Obj)} {s' : Shared} {σ' : L2.St} {H' : Hp}, Inv (fcx P w K mg base N qual scope f cdv Aw outer s H [(s1.heap.objs.size, go)]) ip σ' H' s' → FBack P w outer H s s1.heap.objs.size s1.gens.size H' s' := fun {ip s' σ' H'} J =>
      ⟨J.os, J.bare, J.base, J.hok, hgen _ (J.pin (s1.heap.objs.size, go) (List.mem_append_left _ (List.mem_singleton.mpr rfl))).1⟩
    refine seg_func ?_
    refine seg_imp (R := FREnd P w outer H s s1.heap.objs.size s1.gens.size Qn) (Y := FY (fcx P w K mg base N qual scope f cdv Aw outer s H [(s1.heap.objs.size, go)]) Qy) (fun n s₀ r s1' hR => hR) (fun n s₀ v s1' kap kap' hkk hY => ?_) 1 ?_
    · obtain ⟨xx, ip, σ', H', rv, J, q⟩ := hY
      exact ⟨xx, H', rv, back J, q⟩
    · refine ht.run Aw [] _ s2 _ [] _ _ id id s2 (start N vs) H _ ⟨over_func, rfl, rfl, rfl, fun _ _ z => z⟩ ⟨fun s₀ s' fl hs => ?_⟩ hG hq
      cases fl with
      | next =>
        obtain ⟨σ', H', J, hQ⟩ := hs
        exact seg_end (.ok (.ret .none)) (.inl ⟨.inl rfl, H', back J, hQ⟩)
      | brk => obtain ⟨_, _, _, q⟩ := hs; exact False.elim q
      | cont => obtain ⟨_, _, _, q⟩ := hs; exact False.elim q
      | ret u =>
        obtain ⟨v, σ', H', J, rv, ev, hQ⟩ := hs
        subst ev
        have eu : u = Value.none := rv
        subst eu
        exact seg_end (.ok (.ret .none)) (.inl ⟨.inl rfl, H', back J, hQ⟩)
  exact main _ _ _ _ rfl rfl rfl fun h => Heap.get?_push_size _ rfl

/-! ### for x in f(..): .., left at its first turn -/
section
variable {X : Cx} {k : Nat} {f : Addr} {fd : FuncData} {ps : List Str} {sp : SpF} {x : Str} {p pos fpos : Pos} {e : Expr} {es : List Expr} {t : TA} {tg : Expr} {g : TG} {tb : TS} {body : List Stmt}
def tForF (sp : SpF) (t : TA) (g : TG) (tb : TS) : TS := fun D σ H => t σ H fun vs H1 => sp vs H1 (fun H2 => D.nx σ H2) fun v H2 => g v σ H2 fun σ3 H3 => tb { D with nx := fun _ _ => False, ct := fun _ _ => False, bk := D.nx } σ3 H3
theorem ps_forF (F : GF X.prog X.w X.K X.mg X.base k f fd ps sp) (hr : Room (k + 3) X.A) (hx : Gl X x) (hm : X.mg x = some (.ref f)) (hk : PySem.W.keepIn X.K (.ref f) = true) (hbn : Binds X.K fd ps [])
    (ha : PA X (e :: es) t) (hp : PassesOwn (model X.prog X.w) X.A X.env X.xe) (hc : X.calm = true) (hg : PG X tg g) (hb : PSs X body tb)
    (hdb : (x == ("__debug__" : Str)) = false := by decide) (he : starEach (e :: es) X.env = (false, eval e X.env) :: starEach es X.env := by rfl) (hpl : (backTo pos (starEach es X.env)).any (·.1) = false := by rfl)
    (hs : ∀ v, foldedSetIterable (.Call (.Name x p) (e :: es) [] pos) X.env v = pure v := by intro _; rfl) :
    PS X (.For tg (.Call (.Name x p) (e :: es) [] pos) body [] fpos) (tForF sp t g tb) := by
  refine ⟨fun pins s σ H D I h => ?_⟩
  refine wpAny_For ?_ hs
  refine wpAny_Call_Name_kw (ld_glob I hx hm ?_ hdb)
  refine PySem.W.callWith_K (h₀ := X.base) I.ok.mod.kin hk (thn (ha.run pos pins s σ H _ I h) fun us s1 ⟨vs, H1, I1, r1, q1⟩ => ⟨I1.kIn, ?_⟩) he hpl
  have hl : (us ++ []).length = ps.length := by rw [List.append_nil, ← r1.length]; exact F.len _ _ _ _ q1
  have b := hbn s1 us I1.kIn hl
  rw [List.append_nil] at b
  refine wpAny_call (codeAny_mono (F.run X.A X.stack s1 H1 ⟨us, []⟩ us vs _ _ (hr.mono (by omega)) I1.env0 b r1 q1) fun res s2 hq => ?_)
  cases res with
  | error er => exact False.elim hq
  | ok fl =>
    cases fl with
    | brk => exact False.elim hq
    | cont => exact False.elim hq
    | next => exact False.elim hq
    | ret u =>
      obtain ⟨a, gi, c, rfl, ha1, ha2, hgen, hgs, hos, hbare, hlim, hkp, wake⟩ := hq
      refine wpAny_pyIter_gen hgen ?_
      refine codeAny_forLoop_any (fun n s' => n = 0 ∧ s' = s2) ?_ 0 ⟨rfl, rfl⟩
      rintro n s3 ⟨rfl, rfl⟩
      have rm : Room k X.A.in1.in1 := by
        refine ⟨hr.hd, ?_, ?_⟩
        · have := hr.dp
          show X.A.depth + 3 * k + 5 < _
          omega
        · have := hr.un
          show X.A.units + 1 + 1 + 16 * k + 200 < _
          omega
      have dep : X.A.depth < recursionLimit := by have := hr.dp; omega
      have goes : GenState.Goes (model X.prog X.w) X.A.in1 (fun n s₀ r s₁ => ((r = .ok (.ret .none) ∨ r = .ok .next) ∧ FEnd X.prog X.w X.stack H1 s1 a gi (fun H2 => D.nx σ H2) s₁) ∨ ∃ e, r = .error e ∧ False)
          (FYItem X.prog X.w X.stack H1 s1 a gi fun v H2 => g v σ H2 fun σ3 H3 => tb { D with nx := fun _ _ => False, ct := fun _ _ => False, bk := D.nx } σ3 H3) 1 (.fresh c) (.send .none) (s3.setGen gi .running) :=
        ⟨rfl, wake X.A.in1 _ ⟨rm.hd, by have := hr.dp; show X.A.depth + 3 * k + 5 < _; omega, by have := hr.un; show X.A.units + 1 + 16 * k + 200 < _; omega⟩ I1.ok.frames (fun _ _ z => z) hos (allBare_setGen hbare rfl)⟩
      refine wpAny_passesOwn hp (next_genG (F := fun _ _ s₁ => FEnd X.prog X.w X.stack H1 s1 a gi (fun H2 => D.nx σ H2) s₁) (Er := fun _ _ => False) (I1.ok.hd hc) hlim dep hgen hgs goes (fun v s₁ gs' hbg hv => ?_) (fun s₁ hf h' hk' => ?_) fun e s₁ z => z.elim)
      · obtain ⟨vv, H2, rv, ⟨o1, o2, o3, o4, o5⟩, q⟩ := hv
        have J : Inv X pins σ H2 (s₁.setGen gi gs') := I1.call' (ch := []) o1 o3 o4 (allBare_setGen o2 hbg) fun b z => by cases z
        obtain ⟨og, nm, qn, hog, hcg, hdg, hsg⟩ := o5
        refine go_of (s := s₁.setGen gi gs') (o := og) (n := "generator") hog hcg hdg (by decide) ?_
        refine wpAny_passesOwn hp (thn (hg.run _ _ σ H2 vv v _ J rv q) fun _ s6 ⟨σ6, H6, I6, q6⟩ => ?_)
        refine wpAny_passesOwn hp (thn (hb.run _ s6 σ6 H6 _ I6 q6) fun f s7 q7 => ?_)
        cases f with
        | next => obtain ⟨_, _, _, z⟩ := q7; exact False.elim z
        | cont => obtain ⟨_, _, _, z⟩ := q7; exact False.elim z
        | brk => exact q7
        | ret v => exact q7
      · obtain ⟨H2, ⟨o1, o2, o3, o4, o5⟩, q⟩ := hf
        have J : Inv X pins σ H2 { s₁.setGen gi .finished with heap := h' } := I1.call' (ch := []) o1 (o3.trans (Un.kept hk')) (o4.kept hk') (allBare_setGen o2 rfl) fun b z => by cases z
        exact wpAny_execs_nil ⟨σ, H2, J, q⟩
end
end Gk
namespace Gk
open PySem PySem.Spec PyProof.Rows L2 GenW
section
variable {P : Program} {w : World} {K : PySem.W.Frag} {mg : Str → Option Value} {base : Heap}
theorem gF_ok {x qual : Str} {st : Stmt} {f : Addr} {fd : FuncData} {N ps : List Str} {k : Nat} {sp : SpF} (F : L2.Fun K x qual st f fd) (S : GScope N ps (defScope st))
    (len : ∀ vs H Qn Qy, sp vs H Qn Qy → vs.length = ps.length)
    (hbody : ∀ (cdv : Value) (A : Around) (outer : List Env) (s : Shared) (H : Hp) (vs : List V) (Qn : Hp → Prop) (Qy : VK) (pn : List (Addr × Obj)), Room k (A.deeper (envOfC qual (defScope st) s.heap.objs.size f cdv)) → sp vs H Qn Qy →
      ∃ t, FSs (fcx P w K mg base N qual (defScope st) f cdv A outer s H pn) (defBody st) t ∧ t { nx := fun _ H' => Qn H', rt := fun v H' => v = .non ∧ Qn H', yl := Qy } (start N vs) H) :
    GF P w K mg base (k + 1) f fd ps sp := by
  obtain ⟨oc, od, kV, doc, pm, an, cdv, ct, osl, rfl, lk, hcd⟩ := F.ex
  exact gf_of lk hcd S len fun A outer s H vs Qn Qy pn hr h => hbody cdv A outer s H vs Qn Qy pn hr h
structure Dgf (P : Program) (w : World) (K : PySem.W.Frag) (mg : Str → Option Value) (base : Heap) (k : Nat) (x : Str) (ps : List Str) (sp : SpF) : Prop where
  ex : ∃ (f : Addr) (fd : FuncData), GF P w K mg base k f fd ps sp ∧ mg x = some (.ref f) ∧ PySem.W.keepIn K (.ref f) = true ∧ Binds K fd ps []
end
section
variable {X : Cx} {k j : Nat} {ps : List Str} {sp : SpF} {x : Str} {p pos fpos : Pos} {e : Expr} {es : List Expr} {t : TA} {tg : Expr} {g : TG} {tb : TS} {body : List Stmt}
theorem ps_forD (D : Dgf X.prog X.w X.K X.mg X.base k x ps sp) (hr : Room j X.A) (hj : k + 3 ≤ j) (hx : Gl X x)
    (ha : PA X (e :: es) t) (hp : PassesOwn (model X.prog X.w) X.A X.env X.xe) (hc : X.calm = true) (hg : PG X tg g) (hb : PSs X body tb)
    (hdb : (x == ("__debug__" : Str)) = false := by decide) (he : starEach (e :: es) X.env = (false, eval e X.env) :: starEach es X.env := by rfl) (hpl : (backTo pos (starEach es X.env)).any (·.1) = false := by rfl)
    (hs : ∀ v, foldedSetIterable (.Call (.Name x p) (e :: es) [] pos) X.env v = pure v := by intro _; rfl) :
    PS X (.For tg (.Call (.Name x p) (e :: es) [] pos) body [] fpos) (tForF sp t g tb) := by
  obtain ⟨f, fd, F, hm, hk, hb'⟩ := D.ex
  exact ps_forF F (hr.mono hj) hx hm hk hb' ha hp hc hg hb hdb he hpl hs
end
end Gk
namespace Pf
open PySem PySem.Spec PyProof.Rows L2 Gk
abbrev sClash : Stmt := topS 22
abbrev nClash : List Str := ["trace", "scheme", "cells", "one", "other"]
theorem gcClash : GScope nClash ["trace", "scheme"] (defScope sClash) := ⟨rfl, rfl, rfl, by decide +kernel, rfl, by decide +kernel, by decide +kernel⟩
abbrev sFirst : Stmt := topS 23
abbrev nFirst : List Str := ["trace", "scheme", "pair"]
theorem scFirst : FnScope nFirst ["trace", "scheme"] (defScope sFirst) := ⟨rfl, rfl, rfl, by decide +kernel, rfl, by decide +kernel, by decide +kernel⟩
abbrev sSure : Stmt := topS 24
abbrev nSure : List Str := ["trace", "scheme"]
theorem scSure : FnScope nSure ["trace", "scheme"] (defScope sSure) := ⟨rfl, rfl, rfl, by decide +kernel, rfl, by decide +kernel, by decide +kernel⟩
/-! ### pairs of positions, the first one -/
def outAt (l : List (Int × Int)) (i : Nat) : Int := (l.getD i (0, 0)).2
theorem out_at {K : PySem.W.Frag} {H : Hp} {xs : List V} {l : List (Int × Int)} (hA : DpAll K H xs (l.map pd)) {i : Nat} (hi : i < l.length) : ∃ a b, xs[i]? = some (.ref a) ∧ SqT K H a [.int b, .int (outAt l i)] := by
  have hx : i < xs.length := by rw [lc_len hA]; exact hi
  obtain ⟨p, a, h1, h2, h3⟩ := pd_at hA (List.getElem?_eq_getElem hx)
  refine ⟨a, p.1, ?_, ?_⟩
  · rw [List.getElem?_eq_getElem hx, h2]
  · have e : outAt l i = p.2 := by
      unfold outAt
      rw [List.getD_eq_getElem?_getD, h1]
      rfl
    rw [e]
    exact h3
def clashP (l : List (Int × Int)) (k : Str) (z : Int) (x : Option Int) (i j : Nat) : Bool := PyData.eqv (cl l k z x i) (cl l k z x j) && !decide (outAt l i = outAt l j)
def clashL (l : List (Int × Int)) (k : Str) (z : Int) (x : Option Int) : List (Int × Int) := allP (clashP l k z x) l.length l.length
theorem rowP_pre (p : Nat → Nat → Bool) (i : Nat) {a : Nat} : ∀ {b : Nat}, a ≤ b → ∃ r, rowP p i b = rowP p i a ++ r
  | 0, h => ⟨[], by rw [Nat.le_zero.mp h, List.append_nil]⟩
  | b + 1, h => by
    by_cases e : a = b + 1
    · exact ⟨[], by rw [e, List.append_nil]⟩
    · obtain ⟨r, hr⟩ := rowP_pre p i (a := a) (b := b) (by omega)
      refine ⟨r ++ (if p i (i + 1 + b) = true then [(((i : Nat) : Int), ((i + 1 + b : Nat) : Int))] else []), ?_⟩
      show rowP p i b ++ _ = _
      rw [hr, List.append_assoc]
theorem allP_pre (p : Nat → Nat → Bool) (n : Nat) {a : Nat} : ∀ {b : Nat}, a ≤ b → ∃ r, allP p n b = allP p n a ++ r
  | 0, h => ⟨[], by rw [Nat.le_zero.mp h, List.append_nil]⟩
  | b + 1, h => by
    by_cases e : a = b + 1
    · exact ⟨[], by rw [e, List.append_nil]⟩
    · obtain ⟨r, hr⟩ := allP_pre p n (a := a) (b := b) (by omega)
      refine ⟨r ++ rowP p b (n - (b + 1)), ?_⟩
      show allP p n b ++ _ = _
      rw [hr, List.append_assoc]
theorem allP_first {p : Nat → Nat → Bool} {n i m : Nat} (h1 : allP p n i = []) (h2 : rowP p i m = []) (hp : p i (i + 1 + m) = true) (hi : i + 1 + m < n) : ∃ r, allP p n n = (((i : Nat) : Int), ((i + 1 + m : Nat) : Int)) :: r := by
  obtain ⟨r1, e1⟩ := allP_pre p n (show i + 1 ≤ n by omega)
  obtain ⟨r2, e2⟩ := rowP_pre p i (show m + 1 ≤ n - (i + 1) by omega)
  have e3 : rowP p i (m + 1) = [(((i : Nat) : Int), ((i + 1 + m : Nat) : Int))] := by
    show rowP p i m ++ _ = _
    rw [h2, if_pos hp]
    rfl
  refine ⟨r2 ++ r1, ?_⟩
  rw [e1]
  show (allP p n i ++ rowP p i (n - (i + 1))) ++ r1 = _
  rw [h1, e2, e3]
  rfl
section
variable {P : Program} {w : World} {K : PySem.W.Frag} {mg : Str → Option Value} {base : Heap}
def spClash (K : PySem.W.Frag) : SpF := fun vs H Qn Qy => ∃ (t c : Addr) (l : List (Int × Int)) (k : Str) (z : Int) (x : Option Int), vs = [.ref t, .ref c] ∧ PairsAt K H t l ∧ Fair l ∧ 1 ≤ l.length ∧ l.length ≤ 64 ∧ SqT K H c (planV k z x) ∧ PlanOk k z x ∧
  (clashL l k z x = [] → ∀ H', Same H H' → Qn H') ∧ ∀ e r, clashL l k z x = e :: r → ∀ H' T, Same H H' → SqT K H' T [.int e.1, .int e.2] → Qy (.ref T) H'
theorem gf_clash {f : Addr} {fd : FuncData} (DS : Dfn P w K mg base 5 "steady_cells" ["trace", "scheme"] (spSCells K)) (ml : mg "len" = none) (mr : mg "range" = none)
    (F : L2.Fun K "clashes" "clashes" sClash f fd) : GF P w K mg base 6 f fd ["trace", "scheme"] (spClash K) := by
  refine gF_ok F gcClash (fun vs H Qn Qy h => ?_) (fun cdv A outer s H vs Qn Qy pn hr h => ?_)
  · obtain ⟨t, c, l, k, z, x, rfl, _⟩ := h
    rfl
  · obtain ⟨t, c, l, k, z, x, rfl, hl, fair, l1, l64, hc, ok, qn, qy⟩ := h
    obtain ⟨xst, sqt, hAt, lt⟩ := PairsAt.out hl
    refine ⟨_, fss_cons (fs_ps (ps_set (i := 2) gcClash.nd rfl (.inl rfl) (pe_d DS hr (by decide) (by rfl) (pa_cons (pv 0) (pa_cons (pv 1) pa_nil)))))
      (fss_one (fs_for rfl (pi_range1 rfl mr (pa_cons (pe_callB call_len_seq (by rfl) ml PySem.boot_len (pa_cons (pv 0) pa_nil)) pa_nil)) (pg_name (i := 3) gcClash.nd rfl (.inl rfl))
        (fss_one (fs_for rfl (pi_range2 rfl mr (pa_cons (pe_op op_add (pv 3) pe_int) (pa_cons (pe_callB call_len_seq (by rfl) ml PySem.boot_len (pa_cons (pv 0) pa_nil)) pa_nil))) (pg_name (i := 4) gcClash.nd rfl (.inl rfl))
          (fss_one (fs_if (pt_mid (PW.pt (pw_and (pt_cmpR (op_eqD hr.units) (pe_ix ix_tup (pv 2) (pv 3) (fun _ _ => rfl)) (pe_ix ix_tup (pv 2) (pv 4) (fun _ _ => rfl)) (nomark _))
              (pw_and1 (pt_cmpR op_ne (pe_ix ix_tup (pe_ix ix_tup (pv 0) (pv 3) (fun _ _ => rfl)) pe_int (fun _ _ => rfl)) (pe_ix ix_tup (pe_ix ix_tup (pv 0) (pv 4) (fun _ _ => rfl)) pe_int (fun _ _ => rfl)) (nomark _))))))
            (fss_one (fs_yield (pe_tup (pa_cons (pv 3) (pa_cons (pv 4) pa_nil))))) fss_nil)))))), ?_⟩
    refine ⟨.ref t, rfl, .ref c, rfl, t, c, l, k, z, x, rfl, hl, fair, l1, l64, hc, ok, fun G1 c1 as1 s1 sqA dpA => ?_⟩
    refine ⟨.ref t, rfl, t, _, rfl, .inr (Same.seqT s1 sqt), _, rfl, by omega, by omega, for_rangeF (lo := 0) (n := ((xst.length : Nat) : Int).toNat)
        (fun i σ H' => (∃ y3 y4, σ = [some (.ref t), some (.ref c), some (.ref c1), y3, y4]) ∧ Same G1 H' ∧ allP (clashP l k z x) l.length i = []) ⟨⟨none, none, rfl⟩, Same.refl _, rfl⟩ (fun i σ H4 hi hp => ?_) (fun σ H4 hp => ?_)⟩
    · obtain ⟨⟨y3, y4, rfl⟩, sm, none1⟩ := hp
      have hil : i < l.length := by omega
      generalize hv : (0 : Int) + (i : Nat) = v
      obtain rfl : v = ((i : Nat) : Int) := by omega
      have sC := s1.trans sm
      refine ⟨.int ((i : Nat) : Int), rfl, _, _, rfl, rfl, .ref t, rfl, t, _, rfl, .inr (Same.seqT sC sqt), _, _, rfl, ⟨by omega, by omega, by omega, by omega⟩, for_rangeF (lo := ((i : Nat) : Int) + 1) (n := (((xst.length : Nat) : Int) - (((i : Nat) : Int) + 1)).toNat)
        (fun j σ H' => (∃ y4, σ = [some (.ref t), some (.ref c), some (.ref c1), some (.int ((i : Nat) : Int)), y4]) ∧ Same G1 H' ∧ rowP (clashP l k z x) i j = []) ⟨⟨_, rfl⟩, sm, rfl⟩ (fun j σ H5 hj hp => ?_) (fun σ H5 hp => ?_)⟩
      · obtain ⟨⟨y4, rfl⟩, sm5, none2⟩ := hp
        generalize hw : ((i : Nat) : Int) + 1 + ((j : Nat) : Int) = u
        obtain rfl : u = ((i + 1 + j : Nat) : Int) := by omega
        have hjl : i + 1 + j < l.length := by omega
        have sq5 := Same.seqT (s1.trans sm5) sqt
        have hA5 := pairs_keep hAt (Same.keep (s1.trans sm5))
        have dc := cells_keep dpA (Same.keep sm5)
        obtain ⟨v1, g1, e1⟩ := cells_at dc hil
        obtain ⟨v2, g2, e2⟩ := cells_at dc hjl
        obtain ⟨a3, b3, g3, e3⟩ := out_at hA5 hil
        obtain ⟨a4, b4, g4, e4⟩ := out_at hA5 hjl
        refine ⟨fun b G => G = H5 ∧ b = clashP l k z x i (i + 1 + j), ?_, fun b G hb => ?_⟩
        · refine ⟨.ref c1, rfl, .int ((i : Nat) : Int), rfl, c1, as1, _, v1, rfl, rfl, Same.seqT sm5 sqA, atI_of g1, .ref c1, rfl, .int ((i + 1 + j : Nat) : Int), rfl, c1, as1, _, v2, rfl, rfl, Same.seqT sm5 sqA, atI_of g2, _, _, e1, e2, cl_shaped fair l1 ok _, cl_shaped fair l1 ok _, _, rfl, ite2 (fun a => ?_) (fun a => ?_)⟩
          · refine ⟨.ref t, rfl, .int ((i : Nat) : Int), rfl, t, xst, _, .ref a3, rfl, rfl, sq5, atI_of g3, a3, _, 1, .int (outAt l i), rfl, rfl, e3, rfl, .ref t, rfl, .int ((i + 1 + j : Nat) : Int), rfl, t, xst, _, .ref a4, rfl, rfl, sq5, atI_of g4, a4, _, 1, .int (outAt l (i + 1 + j)), rfl, rfl, e4, rfl, rfl, _, rfl, rfl, ?_⟩
            unfold clashP
            rw [a, Bool.true_and]
            congr 1
            rw [Bool.eq_iff_iff, decide_eq_true_eq, decide_eq_true_eq]
            exact ⟨fun z => V.int.inj z, fun z => by rw [z]⟩
          · refine ⟨rfl, ?_⟩
            unfold clashP
            rw [Bool.eq_false_iff.mpr a, Bool.false_and]
        · obtain ⟨rfl, rfl⟩ := hb
          refine ite2 (fun a => ?_) (fun a => ?_)
          · obtain ⟨r, er⟩ := allP_first none1 none2 a hjl
            refine ⟨.int ((i : Nat) : Int), rfl, .int ((i + 1 + j : Nat) : Int), rfl, by show 2 ≤ sizeLine; decide, fun T nT => ?_⟩
            exact qy _ r er _ T ((s1.trans sm5).trans (same_new nT)) (.inl (.inl upd_same))
          · refine ⟨⟨_, rfl⟩, sm5, ?_⟩
            rw [rowP, none2, if_neg a]
            rfl
      · obtain ⟨⟨y4, rfl⟩, sm5, none2⟩ := hp
        refine ⟨⟨_, _, rfl⟩, sm5, ?_⟩
        rw [show (((xst.length : Nat) : Int) - (((i : Nat) : Int) + 1)).toNat = l.length - (i + 1) by omega] at none2
        rw [allP, none1, none2]
        rfl
    · obtain ⟨⟨y3, y4, rfl⟩, sm, none1⟩ := hp
      rw [show ((xst.length : Nat) : Int).toNat = l.length by omega] at none1
      exact qn none1 _ (s1.trans sm)
def spFirst (K : PySem.W.Frag) : Sp := fun vs H Q _ => ∃ (t c : Addr) (l : List (Int × Int)) (k : Str) (z : Int) (x : Option Int), vs = [.ref t, .ref c] ∧ PairsAt K H t l ∧ Fair l ∧ 1 ≤ l.length ∧ l.length ≤ 64 ∧ SqT K H c (planV k z x) ∧ PlanOk k z x ∧
  (clashL l k z x = [] → ∀ H', Same H H' → Q .non H') ∧ ∀ e r, clashL l k z x = e :: r → ∀ H' T, Same H H' → SqT K H' T [.int e.1, .int e.2] → Q (.ref T) H'
theorem ok_first {f : Addr} {fd : FuncData} (DC : Dgf P w K mg base 6 "clashes" ["trace", "scheme"] (spClash K)) (F : L2.Fun K "first_clash" "first_clash" sFirst f fd) : FnOk P w K mg base L2.CX0 10 f fd ["trace", "scheme"] (spFirst K) := by
  refine F.ok scFirst (fun vs H Q E h => ?_) (fun cdv A outer s H vs Q E hr h => ?_)
  · obtain ⟨t, c, l, k, z, x, rfl, _⟩ := h
    rfl
  · obtain ⟨t, c, l, k, z, x, rfl, hl, fair, l1, l64, hc, ok, qn, qy⟩ := h
    refine ⟨_, pss_cons (ps_forD DC hr (by decide) (by rfl) (pa_cons (pv 0) (pa_cons (pv 1) pa_nil)) PassesOwn.never rfl (pg_name (i := 2) scFirst.nd rfl (.inl rfl)) (pss_one (ps_ret (pv 2)))) (pss_one (ps_ret pe_non)), ?_⟩
    refine ⟨.ref t, rfl, .ref c, rfl, t, c, l, k, z, x, rfl, hl, fair, l1, l64, hc, ok, fun e H' s' => qn e H' s', fun e r er H' T s' sq => ⟨.ref T, rfl, qy e r er H' T s' sq⟩⟩
def spSure (K : PySem.W.Frag) : Sp := fun vs H Q _ => ∃ (t c : Addr) (l : List (Int × Int)) (k : Str) (z : Int) (x : Option Int), vs = [.ref t, .ref c] ∧ PairsAt K H t l ∧ Fair l ∧ 1 ≤ l.length ∧ l.length ≤ 64 ∧ SqT K H c (planV k z x) ∧ PlanOk k z x ∧
  ∀ H', Same H H' → Q (.bl (decide (clashL l k z x = []))) H'
theorem ok_sure {f : Addr} {fd : FuncData} (DF : Dfn P w K mg base 10 "first_clash" ["trace", "scheme"] (spFirst K)) (F : L2.Fun K "is_sure" "is_sure" sSure f fd) : FnOk P w K mg base L2.CX0 11 f fd ["trace", "scheme"] (spSure K) := by
  refine F.ok scSure (fun vs H Q E h => ?_) (fun cdv A outer s H vs Q E hr h => ?_)
  · obtain ⟨t, c, l, k, z, x, rfl, _⟩ := h
    rfl
  · obtain ⟨t, c, l, k, z, x, rfl, hl, fair, l1, l64, hc, ok, q⟩ := h
    refine ⟨_, pss_one (ps_ret (pe_cmpR op_isN (pe_d DF hr (by decide) (by rfl) (pa_cons (pv 0) (pa_cons (pv 1) pa_nil))) pe_non (nomark _))), ?_⟩
    refine ⟨.ref t, rfl, .ref c, rfl, t, c, l, k, z, x, rfl, hl, fair, l1, l64, hc, ok, fun e H' s' => ⟨rfl, ?_⟩, fun e r er H' T s' sq => ⟨rfl, ?_⟩⟩
    · have := q H' s'
      rw [decide_eq_true e] at this
      exact this
    · have := q H' s'
      rw [er, decide_eq_false (List.cons_ne_nil _ _)] at this
      exact this
end
end Pf
namespace Pf
open PySem PySem.Spec PyProof.Rows L2 Gk Fold
/-! ### histories of the machine, as they are told of a moment -/
theorem hM_past {l : List (Int × Int)} (h1 : 1 ≤ l.length) (k : Str) (L : Nat) (b : Int) : ∀ m, hM l k L m (ownO k b) = past (hB l k b) (cj l k b m) L
  | 0 => by
    rw [cj_zero]
    unfold past
    rw [Nat.zero_min]
    show List.replicate L false = List.replicate (L - 0) false ++ run (hB l k b) (0 - 0) 0
    unfold run
    simp
  | m + 1 => by
    have ih := hM_past h1 k L b m
    by_cases c : counts l k b m
    · have e : ownO k b = ownO k (brAt l m) := by
        unfold ownO
        rcases c with c | c
        · rw [if_neg c, if_neg c]
        · rw [c]
      have : Decidable (counts l k b m) := .isTrue c
      rw [hM_push e, ih, cj_step h1, if_pos c, past_push, cj_dig h1 c]
      rfl
    · have e : ¬ ownO k b = ownO k (brAt l m) := fun z => c (by
        unfold ownO at z
        by_cases o : k = "own"
        · rw [if_pos o, if_pos o] at z
          exact .inr (Option.some.inj z).symm
        · exact .inl o)
      have : Decidable (counts l k b m) := .isFalse c
      rw [hM_stay e, ih, cj_step h1, if_neg c, Nat.add_zero]
theorem hAtM_hist {l : List (Int × Int)} (h1 : 1 ≤ l.length) (k : Str) (L m : Nat) : hAtM l k L m = hist l k m L := by
  unfold hAtM
  rw [hM_past h1, hist_cj]
/-- the steady cell of a position, as a key -/
def sK (l : List (Int × Int)) (k : Str) (x : Option Int) (L i : Nat) : CK := cK k x (brAt l i).toNat (hR l k L L i)
theorem cM_steady {l : List (Int × Int)} (fair : Fair l) (h1 : 1 ≤ l.length) (h2 : l.length ≤ 64) {k : Str} {x : Option Int} {L r : Nat} (hr : L ≤ r) (i : Nat) : cM l k x L (r * l.length + i) = sK l k x L i := by
  unfold cM sK
  rw [hAtM_hist h1, brAt_round, show hist l k (r * l.length + i) L = hR l k L r i from rfl, hR_late fair h1 h2 k hr]
theorem sK_cl {l : List (Int × Int)} {k : Str} {z : Int} {x : Option Int} (i j : Nat) : PyData.eqv (cl l k z x i) (cl l k z x j) = decide (sK l k x z.toNat i = sK l k x z.toNat j) := by
  unfold cl cellD sK cK
  by_cases c1 : k = "folded"
  · rw [if_pos c1, if_pos c1, if_pos c1, if_pos c1]
    show decide _ = decide _
    refine decide_eq_decide.mpr ⟨fun h => by rw [h], fun h => ?_⟩
    injection h with h
    injection h with h
  · rw [if_neg c1, if_neg c1, if_neg c1, if_neg c1]
    by_cases c2 : k = "shared"
    · rw [if_pos c2, if_pos c2, if_pos c2, if_pos c2]
      show decide _ = decide _
      refine decide_eq_decide.mpr ⟨fun h => by rw [h], fun h => ?_⟩
      injection h with h
      injection h with h
    · rw [if_neg c2, if_neg c2, if_neg c2, if_neg c2]
      show (decide _ && (decide _ && true)) = decide _
      rw [Bool.and_true, ← Bool.decide_and]
      refine decide_eq_decide.mpr ⟨fun h => by rw [h.1, h.2], fun h => ?_⟩
      injection h with h
      injection h with h h3
      injection h with h
      injection h3 with h3 _
      injection h3 with h3
      exact ⟨h, h3⟩
/-- whether some positions clash -/
def Clash (l : List (Int × Int)) (k : Str) (x : Option Int) (L : Nat) : Prop := ∃ i j, i < j ∧ j < l.length ∧ sK l k x L i = sK l k x L j ∧ outAt l i ≠ outAt l j
theorem rowP_has {p : Nat → Nat → Bool} {i j : Nat} : ∀ {m}, i < j → j < i + 1 + m → p i j = true → (((i : Nat) : Int), ((j : Nat) : Int)) ∈ rowP p i m
  | 0, h1, h2, _ => by omega
  | m + 1, h1, h2, h3 => by
    unfold rowP
    rcases Nat.lt_or_ge j (i + 1 + m) with a | a
    · exact List.mem_append_left _ (rowP_has h1 a h3)
    · have e : j = i + 1 + m := by omega
      subst e
      rw [if_pos h3]
      exact List.mem_append_right _ (List.mem_singleton.mpr rfl)
theorem allP_has {p : Nat → Nat → Bool} {n i j : Nat} : ∀ {m}, i < m → i < j → j < n → p i j = true → (((i : Nat) : Int), ((j : Nat) : Int)) ∈ allP p n m
  | 0, h, _, _, _ => by omega
  | m + 1, h, h1, h2, h3 => by
    unfold allP
    rcases Nat.lt_or_ge i m with a | a
    · exact List.mem_append_left _ (allP_has a h1 h2 h3)
    · have e : i = m := by omega
      subst e
      exact List.mem_append_right _ (rowP_has h1 (by omega) h3)
theorem clash_iff {l : List (Int × Int)} {k : Str} {z : Int} {x : Option Int} : clashL l k z x ≠ [] ↔ Clash l k x z.toNat := by
  constructor
  · intro h
    obtain ⟨y, ys, e⟩ := List.exists_cons_of_ne_nil h
    have hy : y ∈ allP (clashP l k z x) l.length l.length := by
      show y ∈ clashL l k z x
      rw [e]
      exact List.mem_cons_self
    obtain ⟨a, b, _, h1, h2, h3⟩ := allP_in (Nat.le_refl _) hy
    unfold clashP at h3
    rw [Bool.and_eq_true, sK_cl, decide_eq_true_eq, Bool.not_eq_true', decide_eq_false_iff_not] at h3
    exact ⟨a, b, h1, h2, h3.1, h3.2⟩
  · rintro ⟨i, j, h1, h2, h3, h4⟩ e
    have : (((i : Nat) : Int), ((j : Nat) : Int)) ∈ clashL l k z x := allP_has (by omega) h1 h2 (by
      unfold clashP
      rw [Bool.and_eq_true, sK_cl, decide_eq_true_eq, Bool.not_eq_true', decide_eq_false_iff_not]
      exact ⟨h3, h4⟩)
    rw [e] at this
    exact (nomatch this)
/-! ### steady from the round B on -/
section
variable {l : List (Int × Int)} {k : Str} {x : Option Int} {L B : Nat} {w v0 : Int}
/-- from the round B on each position has its steady cell -/
def FromB (l : List (Int × Int)) (k : Str) (x : Option Int) (L B : Nat) : Prop := ∀ r i, B ≤ r → i < l.length → cM l k x L (r * l.length + i) = sK l k x L i
theorem fromB_far (fair : Fair l) (h1 : 1 ≤ l.length) (h2 : l.length ≤ 64) : FromB l k x L L := fun r i hr _ => cM_steady fair h1 h2 hr i
theorem out_round (r i : Nat) (hi : i < l.length) : outM l (r * l.length + i) = outAt l i := by
  unfold outM outAt
  rw [Nat.mul_comm, Nat.mul_add_mod, Nat.mod_eq_of_lt hi]
theorem gM_round (fb : FromB l k x L B) {r r' : Nat} (hr : B ≤ r) (hr' : B ≤ r') (c : CK) : ∀ i, i ≤ l.length → ∀ v, gM l k x L w c (r * l.length) i v = gM l k x L w c (r' * l.length) i v
  | 0, _, _ => rfl
  | i + 1, hi, v => by
    rw [gM, gM, gM_round fb hr hr' c i (by omega) v, fb r i hr (by omega), fb r' i hr' (by omega), out_round r i (by omega), out_round r' i (by omega)]
theorem uM_fix (fb : FromB l k x L B) (hw : 1 ≤ w) (h0 : 0 ≤ v0) (h1 : v0 ≤ top w) (c : CK) : ∀ j, uM l k x L w v0 ((B + (top w).toNat + j) * l.length) c = uM l k x L w v0 ((B + (top w).toNat) * l.length) c := by
  have inn := fun m => vM_in (l := l) (k := k) (x := x) (L := L) hw h0 h1 m c
  have st : ∀ t, uM l k x L w v0 ((B + (t + 1)) * l.length) c = gM l k x L w c (B * l.length) l.length (uM l k x L w v0 ((B + t) * l.length) c) := fun t => by
    rw [gM_round fb (Nat.le_refl B) (show B ≤ B + t by omega) c l.length (Nat.le_refl _), ← uM_g]
    congr 1
    rw [← Nat.succ_mul]
    rfl
  have e := chain (f := gM l k x L w c (B * l.length) l.length) (a := fun t => uM l k x L w v0 ((B + t) * l.length) c) (gM_mono _) st (T := top w) (fun t => (inn _).1) (fun t => (inn _).2)
  intro j
  induction j with
  | zero => rfl
  | succ j ih =>
    have s1 := st ((top w).toNat + j)
    rw [show B + ((top w).toNat + j + 1) = B + (top w).toNat + (j + 1) by omega, show B + ((top w).toNat + j) = B + (top w).toNat + j by omega, ih] at s1
    rw [s1]
    have s2 := st (top w).toNat
    have e : uM l k x L w v0 ((B + ((top w).toNat + 1)) * l.length) c = uM l k x L w v0 ((B + (top w).toNat) * l.length) c := e
    rw [← s2, e]
/-- the value at a place of a late round -/
theorem uM_in (fb : FromB l k x L B) (hw : 1 ≤ w) (h0 : 0 ≤ v0) (h1 : v0 ≤ top w) (c : CK) (j i : Nat) (hi : i ≤ l.length) : uM l k x L w v0 ((B + (top w).toNat + j) * l.length + i) c = gM l k x L w c (B * l.length) i (uM l k x L w v0 ((B + (top w).toNat) * l.length) c) := by
  rw [uM_g, uM_fix fb hw h0 h1 c j, gM_round fb (Nat.le_refl B) (show B ≤ B + (top w).toNat + j by omega) c i hi]
theorem eR_fix (fb : FromB l k x L B) (hw : 1 ≤ w) (h0 : 0 ≤ v0) (h1 : v0 ≤ top w) (j : Nat) : eR l k x L w v0 (B + (top w).toNat + j) = eR l k x L w v0 (B + (top w).toNat) := by
  unfold eR
  have : ∀ i, i ≤ l.length → bR l k x L w v0 (B + (top w).toNat + j) i = bR l k x L w v0 (B + (top w).toNat) i := fun i => by
    induction i with
    | zero => intro _; rfl
    | succ i ih =>
      intro hi
      have p1 : pM l k x L w v0 ((B + (top w).toNat + j) * l.length + i) = pM l k x L w v0 ((B + (top w).toNat) * l.length + i) := by
        unfold pM
        have u1 := uM_in fb hw h0 h1 (sK l k x L i) j i (by omega)
        have u2 := uM_in fb hw h0 h1 (sK l k x L i) 0 i (by omega)
        rw [Nat.add_zero] at u2
        rw [valM_u, valM_u, fb _ i (by omega) (by omega), fb _ i (by omega) (by omega), u1, u2]
      have w1 : wrongAt l k x L w v0 ((B + (top w).toNat + j) * l.length + i) ↔ wrongAt l k x L w v0 ((B + (top w).toNat) * l.length + i) := by
        unfold wrongAt
        rw [p1, out_round _ i (by omega), out_round _ i (by omega)]
      rw [bR, bR, ih (by omega)]
      by_cases c : wrongAt l k x L w v0 ((B + (top w).toNat) * l.length + i)
      · rw [if_pos c, if_pos (w1.mpr c)]
      · rw [if_neg c, if_neg (fun z => c (w1.mp z))]
  exact this _ (Nat.le_refl _)
theorem aft_keep {v o : Int} (hw : 1 ≤ w) (h0 : 0 ≤ v) (h1 : v ≤ top w) (ho : o = 0 ∨ o = 1) (e : prd w v = o) : prd w (aft w v o) = o := by
  have tp := top_pos hw
  unfold prd at *
  unfold aft
  rcases ho with rfl | rfl
  · rw [if_neg (show ¬ (0 : Int) = 1 by decide)]
    by_cases c : 2 * v > top w
    · rw [if_pos c] at e; exact absurd e (by decide)
    · rw [if_neg]
      split <;> omega
  · rw [if_pos rfl]
    by_cases c : 2 * v > top w
    · rw [if_pos]
      split <;> omega
    · rw [if_neg c] at e; exact absurd e (by decide)
theorem bR_zero (j : Nat) : ∀ n, bR l k x L w v0 j n = 0 ↔ ∀ i, i < n → ¬ wrongAt l k x L w v0 (j * l.length + i)
  | 0 => ⟨fun _ i h => (nomatch h), fun _ => rfl⟩
  | n + 1 => by
    rw [bR]
    have ih := bR_zero j n
    constructor
    · intro h i hi
      by_cases c : wrongAt l k x L w v0 (j * l.length + n)
      · rw [if_pos c] at h; omega
      · rw [if_neg c] at h
        rcases Nat.lt_or_ge i n with a | a
        · exact ih.mp (by omega) i a
        · rw [show i = n by omega]; exact c
    · intro h
      rw [if_neg (h n (by omega)), ih.mpr fun i hi => h i (by omega)]
/-- where positions clash, each late round has an error -/
theorem clash_err (fair : Fair l) (hl : 1 ≤ l.length) (fb : FromB l k x L B) (hw : 1 ≤ w) (h0 : 0 ≤ v0) (h1 : v0 ≤ top w) (cl : Clash l k x L) {r : Nat} (hr : B ≤ r) : eR l k x L w v0 r ≠ 0 := by
  obtain ⟨i, j, ij, jn, same, ne⟩ := cl
  intro z
  have right := (bR_zero r l.length).mp z
  have right : ∀ q, q < l.length → prd w (uM l k x L w v0 (r * l.length + q) (sK l k x L q)) = outAt l q := fun q hq => by
    have := right q hq
    unfold wrongAt pM at this
    rw [valM_u, fb r q hr hq, out_round r q hq] at this
    exact Decidable.of_not_not this
  have inn := fun m => vM_in (l := l) (k := k) (x := x) (L := L) hw h0 h1 m (sK l k x L i)
  have bit := fun q (hq : q < l.length) => by
    have := outM_bit fair hl (r * l.length + q)
    rw [out_round r q hq] at this
    exact this
  have go : ∀ d, i + 1 + d ≤ j → prd w (uM l k x L w v0 (r * l.length + (i + 1 + d)) (sK l k x L i)) = outAt l i := fun d => by
    induction d with
    | zero =>
      intro _
      rw [show r * l.length + (i + 1 + 0) = r * l.length + i + 1 by omega, uM_succ, fb r i hr (by omega), if_pos rfl, out_round r i (by omega)]
      exact aft_keep hw (inn _).1 (inn _).2 (bit i (by omega)) (right i (by omega))
    | succ d ih =>
      intro hd
      have ih := ih (by omega)
      rw [show r * l.length + (i + 1 + (d + 1)) = r * l.length + (i + 1 + d) + 1 by omega, uM_succ, fb r (i + 1 + d) hr (by omega)]
      by_cases c : sK l k x L i = sK l k x L (i + 1 + d)
      · rw [if_pos c, out_round r (i + 1 + d) (by omega)]
        have rt := right (i + 1 + d) (by omega)
        rw [← c] at rt
        have e : outAt l (i + 1 + d) = outAt l i := rt.symm.trans ih
        rw [e]
        exact aft_keep hw (inn _).1 (inn _).2 (bit i (by omega)) ih
      · rw [if_neg c]
        exact ih
  have g := go (j - (i + 1)) (by omega)
  rw [show i + 1 + (j - (i + 1)) = j by omega] at g
  have rt := right j jn
  rw [← same] at rt
  exact ne (g.symm.trans rt)
/-- where none clash, the late rounds are without errors -/
theorem sure_right (hl : 1 ≤ l.length) (fair : Fair l) (fb : FromB l k x L B) (hw : 1 ≤ w) (h0 : 0 ≤ v0) (h1 : v0 ≤ top w) (nc : ¬ Clash l k x L) (j : Nat) : ∀ i, i < l.length → pM l k x L w v0 ((B + (top w).toNat + j) * l.length + i) = outAt l i := by
  intro i hi
  have tp := top_pos hw
  generalize hc : sK l k x L i = c
  have inn := fun m => vM_in (l := l) (k := k) (x := x) (L := L) hw h0 h1 m c
  have one : ∀ q, q < l.length → sK l k x L q = c → outAt l q = outAt l i := fun q hq e => by
    by_cases d : outAt l q = outAt l i
    · exact d
    · exfalso
      rcases Nat.lt_trichotomy q i with a | a | a
      · exact nc ⟨q, i, a, hi, by rw [e, hc], d⟩
      · subst a; exact d rfl
      · exact nc ⟨i, q, a, hq, by rw [e, hc], fun z => d z.symm⟩
  generalize hv : uM l k x L w v0 ((B + (top w).toNat) * l.length) c = v
  have vin : 0 ≤ v ∧ v ≤ top w := by rw [← hv]; exact inn _
  have fixed : gM l k x L w c (B * l.length) l.length v = v := by
    have a := uM_in fb hw h0 h1 c 0 l.length (Nat.le_refl _)
    have b := uM_fix fb hw h0 h1 c 1
    rw [hv] at a b
    rw [← a, Nat.add_zero, ← b]
    congr 1
    rw [← Nat.succ_mul]
  have here : cM l k x L (B * l.length + i) = c := by rw [fb B i (Nat.le_refl _) hi, hc]
  have bit := outM_bit fair hl (B * l.length + i)
  rw [out_round B i hi] at bit
  have res : ∀ u, prd w u = outAt l i → gM l k x L w c (B * l.length) i v = u → pM l k x L w v0 ((B + (top w).toNat + j) * l.length + i) = outAt l i := fun u hu e => by
    unfold pM
    rw [valM_u, fb _ i (by omega) hi, hc, uM_in fb hw h0 h1 c j i (by omega), hv, e, hu]
  rcases bit with o | o
  · have dn : ∀ q, q ≤ l.length → 0 ≤ gM l k x L w c (B * l.length) q v ∧ gM l k x L w c (B * l.length) q v ≤ v ∧ (i < q → gM l k x L w c (B * l.length) q v ≤ (if v - 1 < 0 then 0 else v - 1)) := fun q => by
      induction q with
      | zero => intro _; exact ⟨vin.1, Int.le_refl _, fun h => (nomatch h)⟩
      | succ q ih =>
        intro hq
        obtain ⟨a1, a2, a3⟩ := ih (by omega)
        rw [gM]
        by_cases c2 : c = cM l k x L (B * l.length + q)
        · rw [if_pos c2]
          have eo : outM l (B * l.length + q) = 0 := by
            rw [out_round B q (by omega), one q (by omega) (by rw [← fb B q (Nat.le_refl _) (by omega)]; exact c2.symm), o]
          rw [eo]
          unfold aft
          rw [if_neg (by decide)]
          refine ⟨by split <;> omega, by split <;> omega, fun _ => ?_⟩
          split <;> split <;> omega
        · rw [if_neg c2]
          refine ⟨a1, a2, fun h => a3 ?_⟩
          rcases Nat.lt_or_ge i q with g | g
          · exact g
          · exact absurd (by rw [show q = i by omega]; exact here.symm) c2
    have last := dn l.length (Nat.le_refl _)
    rw [fixed] at last
    have v00 : v = 0 := by
      have := last.2.2 hi
      split at this <;> omega
    refine res 0 ?_ (by have := dn i (by omega); omega)
    unfold prd
    rw [if_neg (by omega), o]
  · have up : ∀ q, q ≤ l.length → gM l k x L w c (B * l.length) q v ≤ top w ∧ v ≤ gM l k x L w c (B * l.length) q v ∧ (i < q → (if top w < v + 1 then top w else v + 1) ≤ gM l k x L w c (B * l.length) q v) := fun q => by
      induction q with
      | zero => intro _; exact ⟨vin.2, Int.le_refl _, fun h => (nomatch h)⟩
      | succ q ih =>
        intro hq
        obtain ⟨a1, a2, a3⟩ := ih (by omega)
        rw [gM]
        by_cases c2 : c = cM l k x L (B * l.length + q)
        · rw [if_pos c2]
          have eo : outM l (B * l.length + q) = 1 := by
            rw [out_round B q (by omega), one q (by omega) (by rw [← fb B q (Nat.le_refl _) (by omega)]; exact c2.symm), o]
          rw [eo]
          unfold aft
          rw [if_pos rfl]
          refine ⟨by split <;> omega, by split <;> omega, fun _ => ?_⟩
          split <;> split <;> omega
        · rw [if_neg c2]
          refine ⟨a1, a2, fun h => a3 ?_⟩
          rcases Nat.lt_or_ge i q with g | g
          · exact g
          · exact absurd (by rw [show q = i by omega]; exact here.symm) c2
    have last := up l.length (Nat.le_refl _)
    rw [fixed] at last
    have vt : v = top w := by
      have := last.2.2 hi
      split at this <;> omega
    refine res (top w) ?_ (by have := up i (by omega); omega)
    unfold prd
    rw [if_pos (by omega), o]
theorem sure_zero (hl : 1 ≤ l.length) (fair : Fair l) (fb : FromB l k x L B) (hw : 1 ≤ w) (h0 : 0 ≤ v0) (h1 : v0 ≤ top w) (nc : ¬ Clash l k x L) (j : Nat) : eR l k x L w v0 (B + (top w).toNat + j) = 0 :=
  (bR_zero _ _).mpr fun i hi h => h (by rw [sure_right hl fair fb hw h0 h1 nc j i hi, out_round _ i hi])
end
end Pf
/-! Dicts whose keys are cells: whole numbers, texts, or tuples of those. -/
namespace Gk
open PySem PySem.Spec PyProof.Rows L2
/-- two rules of one expression -/
theorem pe_either {X : Cx} {e : Expr} {t t' : TE} (a : PE X e t) (b : PE X e t') : PE X e (fun σ H Q => t σ H Q ∨ t' σ H Q) :=
  ⟨fun pins s σ H Q I h => h.elim (a.run pins s σ H Q I) (b.run pins s σ H Q I)⟩
/-- two rules of one function -/
theorem CallR.either {X : Cx} {v : Value} {r r' : List V → Hp → VK → Prop} (a : CallR X v r) (b : CallR X v r') : CallR X v (fun xs H Q => r xs H Q ∨ r' xs H Q) := by
  intro pins s σ H xs us Q I rs h
  rcases h with h | h
  · exact a pins s σ H xs us Q I rs h
  · exact b pins s σ H xs us Q I rs h
/-- two rules of one method -/
theorem MtR.either {X : Cx} {id : String} {r r' : V → List V → Hp → VK → Prop} (a : MtR X id r) (b : MtR X id r') : MtR X id (fun x xs H Q => r x xs H Q ∨ r' x xs H Q) := by
  intro pins s σ H x xs v us Q I rx rxs h
  rcases h with h | h
  · exact a pins s σ H x xs v us Q I rx rxs h
  · exact b pins s σ H x xs v us Q I rx rxs h
def rSetdK : V → List V → Hp → VK → Prop := fun x xs H Q => ∃ (a : Addr) (kvs : List (L2.Key × V)) (k : L2.Key) (d : V), x = .ref a ∧ xs = [kV k, d] ∧ H a = some (.dK kvs) ∧ kvs.length < sizeLine ∧
  (∀ v, valV kvs k = some v → Q v H) ∧ (valV kvs k = none → Q d (upd H a (.dK (putK kvs k d))))
theorem mt_setdK {X : Cx} : MtR X "dict.setdefault" rSetdK := by
  intro pins s σ H x xs v us Q I rx rxs h
  obtain ⟨a, kvs, k, d, rfl, rfl, ha, hl, q1, q2⟩ := h
  cases rx
  obtain ⟨u1, u2, rfl, r1, r2⟩ := vals2 rxs
  exact d_setd I ha r1 r2 hl (fun v hv w' s4 I4 rw' => ⟨v, _, I4, rw', q1 v hv⟩) fun hn w' s4 I4 rw' => ⟨d, _, I4, rw', q2 hn⟩
def rSetdT : V → List V → Hp → VK → Prop := fun x xs H Q => ∃ (a : Addr) (kvs : List (List L2.Key × V)) (k : List L2.Key) (b : Addr) (d : V), x = .ref a ∧ xs = [.ref b, d] ∧ H a = some (.dT kvs) ∧ H b = some (.tup (k.map kV)) ∧ kvs.length < sizeLine ∧
  (∀ v, valV kvs k = some v → Q v H) ∧ (valV kvs k = none → Q d (upd H a (.dT (putK kvs k d))))
theorem mt_setdT {X : Cx} (hu : X.A.units + 1 < cLine) : MtR X "dict.setdefault" rSetdT := by
  intro pins s σ H x xs v us Q I rx rxs h
  obtain ⟨a, kvs, k, b, d, rfl, rfl, ha, hb, hl, q1, q2⟩ := h
  cases rx
  obtain ⟨u1, u2, rfl, r1, r2⟩ := vals2 rxs
  cases r1
  obtain ⟨z, hd, ys, rel, dd⟩ := dt_of I.hok ha
  have val := rel.val k
  refine call_setdefault_heap (knd := tupleKind (mixKind X.prog X.w)) (k := k) (tupleKind_room_in1 hu) (key_of I.hok hb) hd dd (fun p hp => ?_) (fun hn h' dd' hs => ?_) (by rw [← Paired.length rel]; exact z)
  · rw [hp] at val
    obtain ⟨w0, ev, rv⟩ : ∃ w0, valV kvs k = some w0 ∧ RelV w0 p.2 := by
      rcases ev : valV kvs k with _ | w0
      · rw [ev] at val
        exact False.elim val
      · rw [ev] at val
        exact ⟨w0, rfl, val⟩
    exact ⟨w0, H, I.tok _, rv, q1 w0 ev⟩
  · rw [hn] at val
    have ev : valV kvs k = none := by
      rcases ev : valV kvs k with _ | w0
      · rfl
      · rw [ev] at val
        exact False.elim val
    have n2 : (putK kvs k d).length ≤ sizeLine := by
      have := length_putK kvs k d
      omega
    obtain ⟨o, es, ep, e1, e2⟩ := dd'
    have keep : ∀ c ts, H c = some (.tup ts) → (upd H a (.dT (putK kvs k d))) c = some (.tup ts) := fun c ts e => by
      rw [upd_ne (fun w => by rw [w, ha] at e; cases e)]
      exact e
    have new : ObjOk X.prog X.w (upd H a (.dT (putK kvs k d))) h' a (.dT (putK kvs k d)) := ⟨n2, hd, _, (rel.put k hb r2).keeps keep, o, es, ep, e1, e2.1, e2.2.1, e2.2.2.1, e2.2.2.2.2⟩
    exact ⟨d, _, d_write I (by rw [ha]; exact True.intro) hs ⟨o, e1⟩ new, r2, q2 ev⟩
end Gk
/-! sorted of a dict whose keys are tuples of a whole number and a text. -/
namespace Gk
open PySem PySem.Spec PyProof.Rows L2
/-- the place that a value names -/
def adr : Value → Addr
  | .ref a => a
  | _ => 0
def pairSh : Nat → Bool := fun i => i == 1
/-- y's tuple does not come after y''s -/
def TupLe (H : Hp) (y y' : Addr) : Prop := ∀ (b : Int) (t : Str) (b' : Int) (t' : Str), H y = some (.tup [.int b, .str t]) → H y' = some (.tup [.int b', .str t']) →
  PyProof.Rows.lexLt PyProof.Rows.itemOrd [.inl b', .inr t'.cps.toList] [.inl b, .inr t.cps.toList] = false
section
variable {X : Cx} {pins : List (Addr × Obj)} {σ : L2.St} {H : Hp} {s : Shared}
/-- such a tuple, as the sort sees it -/
theorem pair_here {h : Heap} (ok : HOk X.prog X.w H h) {y : Addr} {b : Int} {t : Str} (e : H y = some (.tup [.int b, .str t])) :
    PyProof.Rows.G.tupKeyC h pairSh (.ref y) = some [.inl b, .inr t.cps.toList] ∧ ∃ f, PyProof.Rows.TupOf h pairSh (.ref y) f := by
  obtain ⟨_, its, vals, o, ho, hc, n, hd⟩ := (show ObjOk X.prog X.w H h y (.tup [.int b, .str t]) from ok y _ e)
  rcases vals with _ | ⟨r1, _ | ⟨r2, _ | _⟩⟩
  obtain ⟨u1, rfl⟩ := r1
  obtain ⟨u2, rfl⟩ := r2
  refine ⟨?_, .int b u1, y, o, _, n, rfl, ho, hc, hd, rfl, fun _ => ⟨_, _, rfl⟩, fun z => by cases z⟩
  have hT : PyProof.Rows.G.isTupObj h (.ref y) = true := by simp [PyProof.Rows.G.isTupObj, ho, hc]
  unfold PyProof.Rows.G.tupKeyC
  rw [if_pos hT]
  simp [PyProof.Rows.tupKey, ho, hd, PyProof.Rows.tupItems, pairSh]
theorem pairs_here {h : Heap} (ok : HOk X.prog X.w H h) : ∀ {bs : List Addr}, (∀ y ∈ bs, ∃ (b : Int) (t : Str), H y = some (.tup [.int b, .str t])) →
    (∃ fs, PyProof.Rows.TupsOf h pairSh (bs.map Value.ref) fs) ∧ ∀ v ∈ bs.map Value.ref, ∃ l, PyProof.Rows.G.tupKeyC h pairSh v = some l
  | [], _ => ⟨⟨[], .nil⟩, fun v hv => by cases hv⟩
  | y :: bs, a => by
    obtain ⟨b, t, e⟩ := a y List.mem_cons_self
    obtain ⟨k, f, tf⟩ := pair_here ok e
    obtain ⟨⟨fs, tfs⟩, ks⟩ := pairs_here ok (bs := bs) fun z hz => a z (List.mem_cons_of_mem _ hz)
    refine ⟨⟨f :: fs, .cons tf tfs⟩, fun v hv => ?_⟩
    rcases List.mem_cons.mp hv with rfl | hv
    · exact ⟨_, k⟩
    · exact ks v hv
def rSortedDT : List V → Hp → VK → Prop := fun xs H Q => ∃ (d : Addr) (kvs : List (List L2.Key × V)), xs = [.ref d] ∧ H d = some (.dT kvs) ∧ (∀ p ∈ kvs, ∃ (b : Int) (t : Str), p.1 = [.inl b, .inr t]) ∧ kvs.length ≤ 1000 ∧
  ∀ (bs ys : List Addr) (p : Addr), IsKeys H kvs bs → ys.Perm bs → ys.Pairwise (TupLe H) → H p = none → Q (.ref p) (upd H p (.lst (ys.map V.ref)))
theorem keys_tup {kvs : List (List L2.Key × V)} {bs : List Addr} (k : IsKeys H kvs bs) (shp : ∀ p ∈ kvs, ∃ (b : Int) (t : Str), p.1 = [.inl b, .inr t]) : ∀ y ∈ bs, ∃ (b : Int) (t : Str), H y = some (.tup [.int b, .str t]) := by
  unfold IsKeys at k
  induction k with
  | nil => intro y hy; cases hy
  | @cons p y0 ps ys e _ ih =>
    intro y hy
    rcases List.mem_cons.mp hy with rfl | hy
    · obtain ⟨b, t, ep⟩ := shp p List.mem_cons_self
      rw [ep] at e
      exact ⟨b, t, e⟩
    · exact ih (fun q hq => shp q (List.mem_cons_of_mem _ hq)) y hy
theorem cr_sortedDT (hc : X.calm = true) : CallR X (.builtin "sorted") rSortedDT := by
  intro pins s σ H xs us Q I r q
  obtain ⟨d, kvs, rfl, hd, shp, hl, q⟩ := q
  obtain ⟨u, rfl, rx⟩ := vals1 r
  cases rx
  obtain ⟨z, hs, ks, pr, o, es, ep, ho, hx, hdt, he, hn⟩ := (show ObjOk X.prog X.w H s.heap d (.dT kvs) from I.hok d _ hd)
  have l1 : es.size = ks.length := size_of_entries he
  have l2 : kvs.length = ks.length := Paired.length pr
  have kb : IsKeys H kvs (ks.map fun x => x.2.1) := isKeys_of pr
  have tups := keys_tup kb shp
  have bl : (ks.map fun x => x.2.1).length = ks.length := List.length_map ..
  apply Calls.call_function_entry kind_sorted plain_sorted entry_sorted (args_sorted1 _)
  unfold Builtin.«sorted»
  refine wpAny_bind (m := checkCount "sorted" 1 1 _) (wpAny_pure (wpAny_bind (PySem.W.kdu_collect (A := X.A.in1) (kdl_raw hs hx hdt) (I.ok.hd hc) ho (by omega) fun h1 t1 acc kp it => ?_)))
  have ea : acc.toList = (ks.map fun x => x.2.1).map Value.ref := by
    refine List.ext_getElem (by rw [Array.length_toList, it.1, List.length_map, bl]; exact l1) fun j a1 a2 => ?_
    obtain ⟨en, e1, e2⟩ := it.2 j (acc.toList[j]) (by rw [← Array.getElem?_toList]; exact List.getElem?_eq_getElem a1)
    have jk : j < ks.length := by rw [List.length_map, bl] at a2; exact a2
    have e3 := entry_at he j
    rw [e1, List.getElem?_eq_getElem jk] at e3
    have e4 : en = entryOfKey (tupleKind (mixKind X.prog X.w)) ks[j] := Option.some.inj e3
    rw [e2, e4, List.getElem_map, List.getElem_map]
    rfl
  have I1 : Inv X pins σ H { s with heap := h1, toks := t1 } := I.kept kp
  generalize (ks.map fun x => x.2.1) = bs at *
  rw [ea]
  have l3 : (bs.map Value.ref).length ≤ sizeLine := by rw [List.length_map, sizeLine_eq]; omega
  refine wpAny_bind (wpAny_newList ?_ l3)
  have hL : (h1.push (seqObj "list" (bs.map Value.ref).toArray 0)).get? h1.objs.size = some (seqObj "list" (bs.map Value.ref).toArray 0) := Heap.get?_push_size _ rfl
  have I2 : Inv X pins σ H { s with heap := h1.push (seqObj "list" (bs.map Value.ref).toArray 0), toks := t1 } := I1.kept (t' := t1) fun b u e => Heap.get?_push_of_some _ e
  obtain ⟨⟨fs, tf⟩, kk⟩ := pairs_here I2.hok tups
  show wpAny _ _ _ _ _ { s with heap := h1.push (seqObj "list" (bs.map Value.ref).toArray 0), toks := t1 }
  refine wpAny_bind (wpAny_holding (wpAny_call_entry slot_list_sort ⟨_, hL, rfl⟩ entry_list_sort (PyProof.Rows.G.list_sort_tups (s := { s with heap := h1.push (seqObj "list" (bs.map Value.ref).toArray 0), toks := t1 }) hL tf kk l3 fun st' pm so _ => ⟨_, rfl, ?_⟩) (args_list_sort _)))
  have pl := Array.perm_iff_toList_perm.mp pm
  rw [pairsOf_toList] at pl
  have each : ∀ p ∈ (arrOf st').toList, p.1 = Value.ref (adr p.2) ∧ p.2 = Value.ref (adr p.2) ∧ adr p.2 ∈ bs := fun p hp => by
    obtain ⟨a1, a2⟩ := mem_zip_self (pl.mem_iff.mp hp)
    obtain ⟨y, hy, ey⟩ := List.mem_map.mp a2
    rw [← a1, ← ey]
    exact ⟨rfl, rfl, hy⟩
  have outs : ((arrOf st').map (·.2)).toList = ((arrOf st').toList.map fun p => adr p.2).map Value.ref := by
    rw [Array.toList_map, List.map_map]
    exact List.map_congr_left fun p hp => (each p hp).2.1
  have perm : ((arrOf st').toList.map fun p => adr p.2).Perm bs := by
    have g := pl.map fun p => adr p.2
    have e : (((bs.map Value.ref).zip (bs.map Value.ref)).map fun p => adr p.2) = bs := by
      have : ∀ l : List Addr, (((l.map Value.ref).zip (l.map Value.ref)).map fun p => adr p.2) = l := fun l => by
        induction l with
        | nil => rfl
        | cons y l ih => simp only [List.map_cons, List.zip_cons_cons, ih]; rfl
      exact this bs
    rwa [e] at g
  have n1 : (pairsOf (bs.map Value.ref)).size = bs.length := by rw [pairsOf_size, List.length_map]
  have n2 : (arrOf st').size = bs.length := by rw [pm.size_eq, n1]
  have sorted : ((arrOf st').toList.map fun p => adr p.2).Pairwise (TupLe H) := by
    rw [List.pairwise_iff_getElem]
    intro i j hi hj ij b t b' t' e e'
    rw [List.length_map, Array.length_toList] at hi hj
    rw [List.getElem_map] at e e'
    have oi := each _ (List.getElem_mem (show i < (arrOf st').toList.length by rw [Array.length_toList]; exact hi))
    have oj := each _ (List.getElem_mem (show j < (arrOf st').toList.length by rw [Array.length_toList]; exact hj))
    have ki := (pair_here I2.hok e).1
    have kj := (pair_here I2.hok e').1
    have k := so i j (Nat.le_of_lt ij) (by rw [n1]; omega)
    unfold PyProof.Rows.KK at k
    rw [Array.getElem?_eq_getElem hi, Array.getElem?_eq_getElem hj] at k
    have ki2 : PyProof.Rows.G.tupKeyC (h1.push (seqObj "list" (bs.map Value.ref).toArray 0)) pairSh (arrOf st')[i].1 = some [.inl b, .inr t.cps.toList] := by
      have q := oi.1
      rw [Array.getElem_toList] at q
      rw [q]
      rw [Array.getElem_toList] at ki
      exact ki
    have kj2 : PyProof.Rows.G.tupKeyC (h1.push (seqObj "list" (bs.map Value.ref).toArray 0)) pairSh (arrOf st')[j].1 = some [.inl b', .inr t'.cps.toList] := by
      have q := oj.1
      rw [Array.getElem_toList] at q
      rw [q]
      rw [Array.getElem_toList] at kj
      exact kj
    simp only [ki2, kj2] at k
    exact k
  obtain ⟨n, hn'⟩ := sortedHeap_at (vs := bs.map Value.ref) (out := (arrOf st').map (·.2)) hL
  refine wpAny_pure ⟨_, rfl, .ref h1.objs.size, upd H h1.objs.size (.lst (((arrOf st').toList.map fun p => adr p.2).map V.ref)), I1.laid (t' := t1) (fun b u e => ?_) (Nat.le_refl _) ?_, rfl, q bs _ _ kb perm sorted (I1.hok.fresh (Nat.le_refl _))⟩
  · have hb : b < h1.objs.size := Heap.lt_size e
    exact (sortedHeap_old (Nat.ne_of_lt hb) (by rw [size_push']; exact Nat.lt_succ_of_lt hb)).trans (Heap.get?_push_of_some _ e)
  · have vr : Vals (((arrOf st').toList.map fun p => adr p.2).map V.ref) ((arrOf st').map (·.2)).toList := by rw [outs]; exact vals_refs _
    have vl : (((arrOf st').toList.map fun p => adr p.2).map V.ref).length ≤ sizeLine := by
      rw [List.length_map, List.length_map, Array.length_toList, n2, sizeLine_eq]
      have : bs.length = kvs.length := by rw [bl, l2]
      omega
    have new : ObjOk X.prog X.w (upd H h1.objs.size (.lst (((arrOf st').toList.map fun p => adr p.2).map V.ref))) (sortedHeap (h1.push (seqObj "list" (bs.map Value.ref).toArray 0)) h1.objs.size (bs.map Value.ref) ((arrOf st').map (·.2))) h1.objs.size (.lst (((arrOf st').toList.map fun p => adr p.2).map V.ref)) :=
      ⟨vl, _, n, vr, by rw [Array.toArray_toList]; exact hn'⟩
    exact new
end
end Gk
/-! dict(list of pairs), the keys tuples. -/
namespace Gk
open PySem PySem.Spec PyProof.Rows L2
abbrev EntT := List L2.Key × Addr × V
/-- what such a dict keeps -/
def mergeT (acc : List (List L2.Key × V)) (es : List EntT) : List (List L2.Key × V) := es.foldl (fun a e => putK a e.1 e.2.2) acc
theorem mergeT_len : ∀ (es : List EntT) (acc : List (List L2.Key × V)), (mergeT acc es).length ≤ acc.length + es.length
  | [], _ => Nat.le_refl _
  | e :: es, acc => by
    have h1 := mergeT_len es (putK acc e.1 e.2.2)
    have h2 := length_putK acc e.1 e.2.2
    show (mergeT (putK acc e.1 e.2.2) es).length ≤ _
    rw [List.length_cons]
    omega
/-- the last entry of a key counts -/
theorem mergeT_val : ∀ (es : List EntT) (acc : List (List L2.Key × V)) (k : List L2.Key), valV (mergeT acc es) k = es.foldl (fun o e => if k = e.1 then some e.2.2 else o) (valV acc k)
  | [], _, _ => rfl
  | e :: es, acc, k => by
    show valV (mergeT (putK acc e.1 e.2.2) es) k = _
    rw [mergeT_val es, List.foldl_cons, valV_put]
section
variable {X : Cx} {pins : List (Addr × Obj)} {σ : L2.St} {H : Hp} {s : Shared}
abbrev EntV (H : Hp) : List EntT → List (List L2.Key × Addr × Value) → Prop := Paired fun e q => e.1 = q.1 ∧ e.2.1 = q.2.1 ∧ H q.2.1 = some (.tup (q.1.map kV)) ∧ RelV e.2.2 q.2.2
theorem merged_kt : ∀ {es : List EntT} {qs : List (List L2.Key × Addr × Value)}, EntV H es qs → ∀ {acc xs}, KT H acc xs → KT H (mergeT acc es) (PySem.storedAllH xs qs)
  | _, _, .nil, _, _, r => r
  | _, _, .cons (a := e) (b := q) h t, acc, xs, r => by
    obtain ⟨h1, h2, h3, h4⟩ := h
    have := r.put (b := q.2.1) q.1 h3 h4
    rw [← h1] at this
    have g := merged_kt t this
    rw [h1] at g
    show KT H (mergeT (putK acc e.1 e.2.2) _) _
    rw [h1]
    exact g
theorem ents_of (I : Inv X pins σ H s) : ∀ {ps : List Addr} {es : List EntT}, Paired (fun p e => SqT X.K H p [.ref e.2.1, e.2.2] ∧ H e.2.1 = some (.tup (e.1.map kV))) ps es →
    ∃ qs, EntV H es qs ∧ qs.length = ps.length ∧ ∀ (j : Nat) (q : List L2.Key × Addr × Value), qs[j]? = some q → ∃ p, ps[j]? = some p ∧ s.heap.IsTuple p #[.ref q.2.1, q.2.2]
  | _, _, .nil => ⟨[], .nil, rfl, fun j q e => by simp at e⟩
  | _, _, .cons (a := p) (b := e) h t => by
    obtain ⟨qs, r, hl, hp⟩ := ents_of I t
    obtain ⟨h1, h2⟩ := h
    obtain ⟨its, rv, ht, _⟩ := I.tuple h1
    obtain ⟨u, y, ei, ru, ry⟩ := vals2 rv
    subst ei
    cases ru
    refine ⟨(e.1, e.2.1, y) :: qs, .cons ⟨rfl, rfl, h2, ry⟩ r, by rw [List.length_cons, List.length_cons, hl], fun j q g => ?_⟩
    cases j with
    | zero =>
      obtain rfl := Option.some.inj g
      exact ⟨p, rfl, ht⟩
    | succ j =>
      obtain ⟨p2, e1, e2⟩ := hp j q (by simpa using g)
      exact ⟨p2, by simpa using e1, e2⟩
end
section
variable {X : Cx}
/-- dict(l), l a list of pairs whose first items are such tuples -/
def rDictT (K : PySem.W.Frag) : List V → Hp → VK → Prop := fun xs H Q => ∃ (a : Addr) (ps : List Addr) (es : List EntT), xs = [.ref a] ∧ SqL K H a (ps.map V.ref) ∧ Paired (fun p e => SqT K H p [.ref e.2.1, e.2.2] ∧ H e.2.1 = some (.tup (e.1.map kV))) ps es ∧ es.length ≤ 1000 ∧
  ∀ p, H p = none → Q (.ref p) (upd H p (.dT (mergeT [] es)))
theorem cr_dictT (hc : X.calm = true) (hu : X.A.units + 2 < cLine) : CallR X (.type "dict") (rDictT X.K) := by
  intro pins s σ H xs us Q I r q
  obtain ⟨a, ps, es, rfl, hq, hp, few, q⟩ := q
  obtain ⟨u, rfl, rx⟩ := vals1 r
  cases rx
  obtain ⟨its, rv, pl, hz⟩ := I.list hq
  obtain rfl := refs_at rv
  obtain ⟨qs, ev, ql, qp⟩ := ents_of I hp
  have el : es.length = ps.length := by rw [Paired.length ev, ql]
  have szp : (qs.map fun q => (Value.ref q.2.1, q.2.2)).length = qs.length := List.length_map ..
  have keys : ∀ {es : List EntT} {qs : List (List L2.Key × Addr × Value)}, EntV H es qs → ∀ x ∈ qs, H x.2.1 = some (.tup (x.1.map kV)) := by
    intro es qs e
    induction e with
    | nil => intro x hx; exact nomatch hx
    | cons h _ ih =>
      intro x hx
      rcases List.mem_cons.mp hx with rfl | hx
      · exact h.2.2.1
      · exact ih x hx
  refine PySem.call_dict_pairsH (knd := tupleKind (mixKind X.prog X.w)) (ps := qs) (PySem.PairArg.list a (ps.map Value.ref).toArray (fun j => ps.getD j 0) (qs.map fun q => (Value.ref q.2.1, q.2.2))) (I.ok.hd hc) (tupleKind_room_in1 hu) ⟨pl, ?_, ?_⟩ ⟨szp.symm, ?_⟩ ?_ ?_ ?_
  · rw [szp, ql]
    simp
  · intro j k v e
    rw [List.getElem?_map] at e
    cases g : qs[j]? with
    | none => rw [g] at e; cases e
    | some x =>
      rw [g] at e
      obtain ⟨p, e1, e2⟩ := qp j x g
      obtain rfl : k = .ref x.2.1 := (congrArg Prod.fst (Option.some.inj e)).symm
      obtain rfl : v = x.2.2 := (congrArg Prod.snd (Option.some.inj e)).symm
      refine ⟨?_, .inl ?_⟩
      · have g0 : ps.getD j 0 = p := by rw [List.getD_eq_getElem?_getD, e1]; rfl
        show ((ps.map Value.ref).toArray)[j]? = some (.ref (ps.getD j 0))
        rw [List.getElem?_toArray, List.getElem?_map, e1, g0]
        rfl
      · have g0 : ps.getD j 0 = p := by rw [List.getD_eq_getElem?_getD, e1]; rfl
        show s.heap.IsTuple (ps.getD j 0) _
        rw [g0]
        exact e2
  · intro j k v e
    have e : (qs.map fun q => (Value.ref q.2.1, q.2.2))[j]? = some (k, v) := e
    rw [List.getElem?_map] at e
    cases g : qs[j]? with
    | none => rw [g] at e; cases e
    | some x =>
      rw [g] at e
      obtain rfl : k = .ref x.2.1 := (congrArg Prod.fst (Option.some.inj e)).symm
      obtain rfl : v = x.2.2 := (congrArg Prod.snd (Option.some.inj e)).symm
      exact ⟨x.1, x.2.1, rfl, rfl⟩
  · intro h' hk x hx
    obtain ⟨o, its, n, h1, h2⟩ := key_of I.hok (keys ev x hx)
    exact ⟨o, its, n, hk _ _ (Nat.ne_of_lt (Heap.lt_size h1)) (fun z => nomatch z) h1, h2⟩
  · rw [szp, ql, ← el, sizeLine_eq]
    omega
  · intro h' tk hd' k
    have hm : (s.heap.objs.size == sysModules) = false := beq_eq_false_iff_ne.mpr (Nat.ne_of_gt I.big)
    have hlen : (mergeT [] es).length ≤ sizeLine := by
      have := mergeT_len es []
      rw [sizeLine_eq]
      simp at this
      omega
    have hn := I.hok.fresh (Nat.le_refl s.heap.objs.size)
    have kt : KT H (mergeT [] es) (PySem.storedAllH [] qs) := merged_kt ev .nil
    obtain ⟨o, en, ep, h1, h2, h3, h4, _, h5⟩ := hd'
    refine ⟨.ref s.heap.objs.size, upd H s.heap.objs.size (.dT (mergeT [] es)), I.laid (t' := tk) (fun b o e => k b o (fun z => nomatch z) e) (Nat.le_refl _) ?_, rfl, q _ hn⟩
    exact ⟨hlen, hm, _, kt.keeps fun b ys e => by rw [upd_ne (ne_of_none e hn)]; exact e, o, en, ep, h1, h2, h3, h4, h5⟩
end
end Gk
/-! Dicts whose keys are None or whole numbers. -/
namespace Gk
open PySem PySem.Spec PyProof.Rows L2
def ownIs : Option Int → Value → Bool
  | none, v => v == .none
  | some i, v => keyIs (.inl i) v
def oKey : Option Int → V
  | none => .non
  | some i => .int i
def ownH (w : World) : Option Int → Int
  | none => reduceHash 0xFCA86420
  | some i => hashInt i
theorem ownIs_shape : ∀ {k : Option Int} {v : Value}, ownIs k v = true → (k = none ∧ v = .none) ∨ ∃ i t, k = some i ∧ v = Value.int i t
  | none, v, h => .inl ⟨rfl, by cases v <;> first | rfl | exact absurd h Bool.false_ne_true⟩
  | some i, v, h => by
    rcases keyIs_shape (k := .inl i) h with ⟨j, t, e, rfl⟩ | ⟨x, t, e, _⟩
    · obtain rfl := Sum.inl.inj e
      exact .inr ⟨i, t, rfl, rfl⟩
    · cases e
theorem hash_none {prog : Program} {w : World} {A : Around} {E : Value → Shared → Prop} {s : Shared} {Q : Int → Shared → Prop} (h : Q (reduceHash 0xFCA86420) { s with toks := s.toks + 1 }) : wpAny (model prog w) A (PySem.pyHash .none) Q E s :=
  PySem.W.pyHash_slot (T := "NoneType") rfl PySem.F.slot_NoneType_hash PySem.F.entry_NoneType_hash (PySem.F.args_NoneType_hash_1 _) (by rfl) (.inl rfl) (wpAny_bind (wpAny_pure (wpAny_bind (wpAny_mkInt (wpAny_pure ⟨_, _, rfl, h⟩)))))
def ownKind (prog : Program) (w : World) : PySem.KeyKind prog w (Option Int) where
  is := ownIs
  hash := ownH w
  inj := fun v a b ha hb => by
    rcases ownIs_shape ha with ⟨rfl, rfl⟩ | ⟨i, t, rfl, rfl⟩
    · rcases ownIs_shape hb with ⟨rfl, _⟩ | ⟨i, t, rfl, e⟩
      · rfl
      · cases e
    · rcases ownIs_shape hb with ⟨rfl, e⟩ | ⟨j, u, rfl, e⟩
      · cases e
      · injection e with e1 _
        rw [e1]
  byValue := fun k v h => by
    rcases ownIs_shape h with ⟨rfl, rfl⟩ | ⟨i, t, rfl, rfl⟩ <;> rfl
  pyHash := fun hv h => by
    rcases ownIs_shape hv with ⟨rfl, rfl⟩ | ⟨i, t, rfl, rfl⟩
    · exact hash_none h
    · exact wpAny_pyHash_int h
  eqBool := fun hu hv h => by
    rcases ownIs_shape hu with ⟨rfl, rfl⟩ | ⟨i, t, rfl, rfl⟩
    · rcases ownIs_shape hv with ⟨rfl, rfl⟩ | ⟨j, u, rfl, rfl⟩
      · exact SeqAt.EqAt.same _ _ _ _ _ (by simpa using h)
      · exact SeqAt.EqAt.none_int j u _ _ _ _ (by simpa using h)
    · rcases ownIs_shape hv with ⟨rfl, rfl⟩ | ⟨j, u, rfl, rfl⟩
      · exact SeqAt.EqAt.int_none i t _ _ _ _ (by simpa using h)
      · refine wpAny_eqBool_int ?_
        have e : (i == j) = decide (some i = some j) := by
          rw [Bool.eq_iff_iff]
          simp
        rw [e]
        exact h
  «strs» := fun k x t v h => by
    rcases ownIs_shape h with ⟨rfl, e⟩ | ⟨i, u, rfl, e⟩ <;> cases e
end Gk
namespace Gk
open PySem PySem.Spec PyProof.Rows L2
/-- a dict whose keys are None or whole numbers -/
def dN (P : Program) (w : World) (a : Addr) (kvs : List (Option Int × V)) : HO := .ext fun h => kvs.length ≤ sizeLine ∧ (a == sysModules) = false ∧ ∃ vs, KV kvs vs ∧ h.DictOf (ownKind P w) a vs
section
variable {P : Program} {w : World} {H : Hp} {h : Heap} {a : Addr} {kvs : List (Option Int × V)}
theorem dn_ok {vs : List (Option Int × Value)} (z : kvs.length ≤ sizeLine) (hd : (a == sysModules) = false) (rel : KV kvs vs) (dd : h.DictOf (ownKind P w) a vs) : ObjOk P w H h a (dN P w a kvs) := by
  refine ⟨⟨z, hd, vs, rel, dd⟩, ?_, ?_⟩
  · obtain ⟨o, _, _, e, _⟩ := dd
    exact ⟨o, e⟩
  · rintro h1 h2 ⟨z1, hd1, vs1, rel1, o, es, ep, e, r⟩ k
    exact ⟨z1, hd1, vs1, rel1, o, es, ep, k _ e, r⟩
theorem dn_at (ok : HOk P w H h) (e : H a = some (dN P w a kvs)) : kvs.length ≤ sizeLine ∧ (a == sysModules) = false ∧ ∃ vs, KV kvs vs ∧ h.DictOf (ownKind P w) a vs := by
  obtain ⟨x, _, _⟩ := (show ObjOk P w H h a (dN P w a kvs) from ok a _ e)
  exact x
theorem oKey_is {k : Option Int} {u : Value} (r : RelV (oKey k) u) : (ownKind P w).is k u = true := by
  cases k with
  | none => cases r; rfl
  | some i => obtain ⟨t, rfl⟩ := r; exact keyIs_int i t
end
section
variable {X : Cx} {pins : List (Addr × Obj)} {σ : L2.St} {H : Hp} {s : Shared} {a : Addr} {kvs : List (Option Int × V)} {k : Option Int} {d y v : V} {u r : Value} {A : Around} {E : Value → Shared → Prop}
theorem n_get2 {Q : Value → Shared → Prop} (I : Inv X pins σ H s) (e : H a = some (dN X.prog X.w a kvs)) (ry : RelV (oKey k) u) (rd : RelV d r) (h : ∀ w' s', Inv X pins σ H s' → RelV ((valV kvs k).getD d) w' → Q w' s') :
    wpAny (model X.prog X.w) A (call (.builtin "dict.get") [.ref a, u, r]) Q E s := by
  obtain ⟨z, hd, vs, rel, dd⟩ := dn_at I.hok e
  exact call_meetsIn PySem.F.slot_dict_get dd.typeIs PySem.F.entry_dict_get (PySem.F.args_dict_get_3 _ _ _) (meets_dict_get_default (ownKind X.prog X.w) a (oKey_is ry) hd r) ⟨_, dd.mapOf, h _ _ (I.tok _) ((rel.val k).getD rd)⟩
theorem n_set {Q : Unit → Shared → Prop} (I : Inv X pins σ H s) (e : H a = some (dN X.prog X.w a kvs)) (hl : kvs.length < sizeLine) (ry : RelV (oKey k) u) (rv : RelV v r) (h : ∀ s', Inv X pins σ (upd H a (dN X.prog X.w a (putK kvs k v))) s' → Q () s') :
    wpAny (model X.prog X.w) A (setItem (.ref a) u r) Q E s := by
  obtain ⟨z, hd, vs, rel, dd⟩ := dn_at I.hok e
  have hz : vs.length ≤ sizeLine := by rw [← rel.length]; exact z
  have hl : (putK kvs k v).length ≤ sizeLine := by have := length_putK kvs k v; omega
  refine wpAny_setItem_pairs (hsz := hz) (oKey_is ry) dd fun h' dd' hs => h _ ?_
  have he : ∃ q, h'.get? a = some q := let ⟨q, _, _, hq, _⟩ := dd'; ⟨q, hq⟩
  exact d_write I (by rw [e]; exact True.intro) hs he (dn_ok hl hd (rel.put k rv) dd')
end
section
variable {X : Cx} {o e f : Expr} {apos cpos pos : Pos} {td ty tx : TE}
/-- d.get(y, x) -/
def tNGet (P : Program) (w : World) (td ty tx : TE) : TE := fun σ H Q => td σ H fun x H1 => ∃ a, x = .ref a ∧ (∃ kvs, H1 a = some (dN P w a kvs)) ∧ ty σ H1 fun y H2 => tx σ H2 fun z H3 => ∃ kvs k, H3 a = some (dN P w a kvs) ∧ y = oKey k ∧ Q ((valV kvs k).getD z) H3
theorem pe_nget (ho : PE X o td) (he : PE X e ty) (hf : PE X f tx) (m : M2 X o "get" apos e f cpos) : PE X (.Call (.Attribute o "get" apos) [e, f] [] cpos) (tNGet X.prog X.w td ty tx) := by
  refine ⟨fun pins s σ H Q I h => ?_⟩
  refine wpAny_Call_method m.base m.few m.line PySem.F.plainAttrs_dict PySem.F.slot_dict_get PySem.F.type_dict_get (thn (ho.run pins s σ H _ I h) fun u s1 ⟨x, H1, I1, rx, a, ex, ⟨kv1, d1⟩, q1⟩ => ?_)
  subst ex
  obtain rfl : u = Value.ref a := rx
  obtain ⟨z, hd, vs, rel, dd⟩ := dn_at I1.hok d1
  refine ⟨dd.typeIs, fun b q => ?_, ?_⟩
  · cases q
    obtain ⟨ob, _, _, h1, h2, _⟩ := dd
    exact ⟨ob, h1, h2.2.1⟩
  rw [m.trees]
  refine Calls.callWith_builtin rfl (Calls.evalArgs_plain (Calls.spliced_cons (thn (he.run pins s1 σ H1 _ I1 q1) fun iv s2 ⟨y, H2, I2, ry, q2⟩ =>
    Calls.spliced_cons (thn (hf.run pins s2 σ H2 _ I2 q2) fun fv s3 ⟨z, H3, I3, rz, kvs, k, e3, ey, q3⟩ => Calls.spliced_nil ?_))))
  subst ey
  exact n_get2 I3 e3 ry rz fun w' s4 I4 rw' => ⟨_, H3, I4, rw', q3⟩
end
end Gk
namespace Gk
open PySem PySem.Spec PyProof.Rows L2
section
variable {X : Cx} {o e f : Expr} {apos cpos pos : Pos} {td ty tx : TE}
/-- {}, to be such a dict -/
def tNNew (P : Program) (w : World) : TE := fun _ H Q => ∀ p, H p = none → Q (.ref p) (upd H p (dN P w p []))
theorem pe_dnewN (P : Program) (w : World) (h1 : X.prog = P := by rfl) (h2 : X.w = w := by rfl) : PE X (.Dict [] [] pos) (tNNew P w) := by
  subst h1 h2
  exact ⟨fun pins s σ H Q I h => wpAny_Dict_empty ⟨.ref s.heap.objs.size, _, I.laid (a := s.heap.objs.size) (o := dN X.prog X.w s.heap.objs.size []) (t' := s.toks) (fun _ _ q => Heap.get?_push_of_some _ q) (Nat.le_refl _)
    (dn_ok (Nat.zero_le _) (not_modules I) .nil (Heap.DictOf.new s.heap)), rfl, h _ (I.hok.fresh (Nat.le_refl _))⟩⟩
theorem pe_ngetP (P : Program) (w : World) (ho : PE X o td) (he : PE X e ty) (hf : PE X f tx) (m : M2 X o "get" apos e f cpos) (h1 : X.prog = P := by rfl) (h2 : X.w = w := by rfl) : PE X (.Call (.Attribute o "get" apos) [e, f] [] cpos) (tNGet P w td ty tx) := by
  subst h1 h2
  exact pe_nget ho he hf m
/-- d[k] = v -/
def rSetN (P : Program) (w : World) : TSet := fun o i v H Q => ∃ a kvs k, o = .ref a ∧ i = oKey k ∧ H a = some (dN P w a kvs) ∧ kvs.length < sizeLine ∧ Q (upd H a (dN P w a (putK kvs k v)))
theorem set_dN (P : Program) (w : World) (h1 : X.prog = P := by rfl) (h2 : X.w = w := by rfl) : PSet X (rSetN P w) := by
  subst h1 h2
  intro pins s σ H o i v ov iv u Q I ro ri rv h
  obtain ⟨a, kvs, k, rfl, rfl, e, hl, q⟩ := h
  cases (show ov = Value.ref a from ro)
  exact n_set I e hl ri rv fun s' I' => ⟨_, I', q⟩
/-- {}, to be a dict of cells: of whole numbers or texts, or of tuples of those -/
theorem pe_dnewC : PE X (.Dict [] [] pos) (fun σ H Q => tDNewK σ H Q ∨ tDNewT σ H Q) := pe_either pe_dnewK pe_dnewT
end
end Gk
namespace Pf
open PySem PySem.Spec PyProof.Rows L2 Gk Fold
/-! ### groups: the positions of each cell -/
def posL (l : List (Int × Int)) (k : Str) (x : Option Int) (L : Nat) (c : CK) (i : Nat) : List Nat := (List.range i).filter fun j => decide (sK l k x L j = c)
theorem posL_succ (l : List (Int × Int)) (k : Str) (x : Option Int) (L : Nat) (c : CK) (i : Nat) : posL l k x L c (i + 1) = posL l k x L c i ++ if sK l k x L i = c then [i] else [] := by
  unfold posL
  rw [List.range_succ, List.filter_append]
  by_cases e : sK l k x L i = c
  · simp [e]
  · simp [e]
theorem posL_mem {l : List (Int × Int)} {k : Str} {x : Option Int} {L : Nat} {c : CK} {i j : Nat} : j ∈ posL l k x L c i ↔ j < i ∧ sK l k x L j = c := by
  unfold posL
  rw [List.mem_filter, List.mem_range, decide_eq_true_eq]
theorem posL_len (l : List (Int × Int)) (k : Str) (x : Option Int) (L : Nat) (c : CK) (i : Nat) : (posL l k x L c i).length ≤ i := by
  have := List.length_filter_le (fun j => decide (sK l k x L j = c)) (List.range i)
  rwa [List.length_range] at this
/-- a value that is the key -/
def KeyV (H : Hp) (v : V) : CK → Prop
  | .inl q => v = kV q
  | .inr q => ∃ p, v = .ref p ∧ H p = some (.tup (q.map kV))
theorem KeyV.same {H H' : Hp} {v : V} {c : CK} (h : KeyV H v c) (s : ∀ b ts, H b = some (.tup ts) → H' b = some (.tup ts)) : KeyV H' v c := by
  cases c with
  | inl q => exact h
  | inr q => obtain ⟨p, e, hp⟩ := h; exact ⟨p, e, s _ _ hp⟩
theorem keyV_ck {K : PySem.W.Frag} {H : Hp} {v : V} {k : Str} {x : Option Int} {b : Nat} {h : List Bool} (kv : KeyV H v (cK k x b h)) : Ck K H v (cellD k x b h) := by
  unfold cK at kv
  unfold cellD
  by_cases c1 : k = "folded"
  · rw [if_pos c1] at kv ⊢
    cases (show v = .int _ from kv)
    exact Ck.int _
  · rw [if_neg c1] at kv ⊢
    by_cases c2 : k = "shared"
    · rw [if_pos c2] at kv ⊢
      cases (show v = .str _ from kv)
      exact Ck.str _
    · rw [if_neg c2] at kv ⊢
      obtain ⟨p, rfl, hp⟩ := kv
      exact Ck.tup hp
theorem ck_keyV {K : PySem.W.Frag} {H : Hp} {v : V} {k : Str} {x : Option Int} {b : Nat} {h : List Bool} (c : Ck K H v (cellD k x b h)) : KeyV H v (cK k x b h) := by
  cases t : tupK k with
  | false => obtain ⟨q, e, rfl⟩ := cK_inl c t; rw [e]; rfl
  | true => obtain ⟨q, p, e, rfl, hp⟩ := cK_inr c t; rw [e]; exact ⟨p, rfl, hp⟩
/-- a dict that keeps f of the cells, its keys in their order -/
def DK (H : Hp) (a : Addr) (k : Str) (f : CK → Option V) (ks : List CK) : Prop :=
  (tupK k = false ∧ ∃ kvs, H a = some (.dK kvs) ∧ kvs.map (fun e => (Sum.inl e.1 : CK)) = ks ∧ ∀ q, valV kvs q = f (.inl q)) ∨ (tupK k = true ∧ ∃ kvs, H a = some (.dT kvs) ∧ kvs.map (fun e => (Sum.inr e.1 : CK)) = ks ∧ ∀ q, valV kvs q = f (.inr q))
theorem DK.same {H H' : Hp} {a : Addr} {k : Str} {f : CK → Option V} {ks : List CK} (d : DK H a k f ks) (e : ∀ o, H a = some o → H' a = some o) : DK H' a k f ks := by
  rcases d with ⟨t, kvs, h, r⟩ | ⟨t, kvs, h, r⟩
  · exact .inl ⟨t, kvs, e _ h, r⟩
  · exact .inr ⟨t, kvs, e _ h, r⟩
theorem DK.there {H : Hp} {a : Addr} {k : Str} {f : CK → Option V} {ks : List CK} (d : DK H a k f ks) : ∃ o, H a = some o ∧ (∀ ts, o ≠ .tup ts) ∧ (∀ b u, o ≠ .frz b u) ∧ ∀ xs, o ≠ .lst xs := by
  rcases d with ⟨t, kvs, h, r⟩ | ⟨t, kvs, h, r⟩
  · exact ⟨_, h, (fun ts z => by cases z), (fun _ _ z => by cases z), fun xs z => by cases z⟩
  · exact ⟨_, h, (fun ts z => by cases z), (fun _ _ z => by cases z), fun xs z => by cases z⟩
theorem DK.ty {K : PySem.W.Frag} {H : Hp} {a : Addr} {k : Str} {f : CK → Option V} {ks : List CK} (d : DK H a k f ks) : tyV K "dict" (.ref a) H := by
  rcases d with ⟨t, kvs, h, r⟩ | ⟨t, kvs, h, r⟩
  · exact .inr (.inr (.inl ⟨rfl, .inl ⟨kvs, h⟩⟩))
  · exact .inr (.inr (.inl ⟨rfl, .inr ⟨kvs, h⟩⟩))
theorem DK.get {k : Str} {x : Option Int} {b : Nat} {h : List Bool} {H : Hp} {K : PySem.W.Frag} {v : V} {a : Addr} {f : CK → Option V} {ks : List CK} (d : DK H a k f ks) (c : Ck K H v (cellD k x b h)) : DGet H a v (f (cK k x b h)) := by
  rcases d with ⟨t, kvs, e, _, l⟩ | ⟨t, kvs, e, _, l⟩
  · obtain ⟨q, eq, rfl⟩ := cK_inl c t
    rw [eq]
    exact .inl ⟨kvs, q, .inl e, rfl, (l q).symm⟩
  · obtain ⟨q, p, eq, rfl, hp⟩ := cK_inr c t
    rw [eq]
    exact .inr ⟨kvs, q, p, .inl e, rfl, hp, (l q).symm⟩
theorem putK_new {κ : Type} [DecidableEq κ] {kvs : List (κ × V)} {q : κ} {y : V} (n : valV kvs q = none) : putK kvs q y = kvs ++ [(q, y)] := by
  unfold putK
  rw [valV_any, n]
  rfl
/-- d.setdefault(c, v) -/
theorem DK.setd {k : Str} {x : Option Int} {b : Nat} {h : List Bool} {H : Hp} {K : PySem.W.Frag} {v y : V} {a : Addr} {f : CK → Option V} {ks : List CK} {Q : VK} (d : DK H a k f ks) (c : Ck K H v (cellD k x b h)) (hn : ks.length < sizeLine)
    (old : ∀ w, f (cK k x b h) = some w → Q w H) (new : f (cK k x b h) = none → ∀ H', DK H' a k (fun q => if q = cK k x b h then some y else f q) (ks ++ [cK k x b h]) → (∀ z, z ≠ a → H' z = H z) → Q y H') : rSetdK (.ref a) [v, y] H Q ∨ rSetdT (.ref a) [v, y] H Q := by
  rcases d with ⟨t, kvs, e, ek, l⟩ | ⟨t, kvs, e, ek, l⟩
  · obtain ⟨q, eq, rfl⟩ := cK_inl c t
    rw [eq] at old new
    refine .inl ⟨a, kvs, q, y, rfl, rfl, e, by rw [← ek, List.length_map] at hn; exact hn, fun w hw => old w (by rw [← l]; exact hw), fun hw => new (by rw [← l]; exact hw) _ (.inl ⟨t, _, upd_same, ?_, fun r => ?_⟩) fun z hz => upd_ne hz⟩
    · rw [putK_new hw, List.map_append, ek]
      rfl
    · rw [valV_put, l]
      dsimp only
      by_cases er : r = q
      · rw [if_pos er, if_pos (by rw [er])]
      · rw [if_neg er, if_neg (fun z => er (Sum.inl.inj z))]
  · obtain ⟨q, p, eq, rfl, hp⟩ := cK_inr c t
    rw [eq] at old new
    refine .inr ⟨a, kvs, q, p, y, rfl, rfl, e, hp, by rw [← ek, List.length_map] at hn; exact hn, fun w hw => old w (by rw [← l]; exact hw), fun hw => new (by rw [← l]; exact hw) _ (.inr ⟨t, _, upd_same, ?_, fun r => ?_⟩) fun z hz => upd_ne hz⟩
    · rw [putK_new hw, List.map_append, ek]
      rfl
    · rw [valV_put, l]
      dsimp only
      by_cases er : r = q
      · rw [if_pos er, if_pos (by rw [er])]
      · rw [if_neg er, if_neg (fun z => er (Sum.inr.inj z))]
/-- a cell, as the kind of scheme makes it -/
def CellIs (k : Str) (c : CK) : Prop := ∃ (x : Option Int) (b : Nat) (h : List Bool), c = cK k x b h
/-- sorted(d), whatever the kind of scheme -/
def rSorted3a : List V → Hp → VK → Prop := fun xs H Q => (∃ (a : Addr) (kvs : List (L2.Key × V)) (ks : List Int), xs = [.ref a] ∧ Rd H a (.dK kvs) ∧ kvs.map (·.1) = ks.map Sum.inl ∧ ks.length < 64 ∧ ∀ (ys : List Int) (p : Addr), ys.Perm ks → ys.Pairwise (· ≤ ·) → H p = none → Q (.ref p) (upd H p (.lst (ys.map V.int)))) ∨
  ((∃ (a : Addr) (kvs : List (L2.Key × V)) (ks : List Str), xs = [.ref a] ∧ Rd H a (.dK kvs) ∧ kvs.map (·.1) = ks.map Sum.inr ∧ ks.length < 64 ∧ ∀ ys p, ys.Perm ks → sortedS ys = true → H p = none → Q (.ref p) (upd H p (.lst (ys.map V.str)))) ∨ rSortedDT xs H Q)
structure rSorted3 (xs : List V) (H : Hp) (Q : VK) : Prop where
  out : rSorted3a xs H Q
theorem cr_sorted3a {X : Cx} (hc : X.calm = true) : CallR X (.builtin "sorted") rSorted3a := CallR.either (call_sortedDI hc) (CallR.either (call_sortedD hc) (cr_sortedDT hc))
theorem cr_sorted3 {X : Cx} (hc : X.calm = true) : CallR X (.builtin "sorted") rSorted3 := fun pins s σ H xs us Q I r h => cr_sorted3a hc pins s σ H xs us Q I r h.out
theorem all_inl {ks : List L2.Key} (h : ∀ q ∈ ks, ∃ i : Int, q = .inl i) : ∃ is : List Int, ks = is.map Sum.inl := by
  induction ks with
  | nil => exact ⟨[], rfl⟩
  | cons q ks ih =>
    obtain ⟨i, rfl⟩ := h q List.mem_cons_self
    obtain ⟨is, rfl⟩ := ih fun y hy => h y (List.mem_cons_of_mem _ hy)
    exact ⟨i :: is, rfl⟩
theorem all_inr {ks : List L2.Key} (h : ∀ q ∈ ks, ∃ s : Str, q = .inr s) : ∃ ss : List Str, ks = ss.map Sum.inr := by
  induction ks with
  | nil => exact ⟨[], rfl⟩
  | cons q ks ih =>
    obtain ⟨i, rfl⟩ := h q List.mem_cons_self
    obtain ⟨is, rfl⟩ := ih fun y hy => h y (List.mem_cons_of_mem _ hy)
    exact ⟨i :: is, rfl⟩
theorem isKeys_both {H : Hp} {kvs : List (List L2.Key × V)} {bs : List Addr} (k : IsKeys H kvs bs) : (∀ y ∈ bs, ∃ e ∈ kvs, H y = some (.tup (e.1.map kV))) ∧ ∀ e ∈ kvs, ∃ y ∈ bs, H y = some (.tup (e.1.map kV)) := by
  unfold IsKeys at k
  induction k with
  | nil => exact ⟨fun y hy => (nomatch hy), fun y hy => (nomatch hy)⟩
  | @cons p y0 ps ys e _ ih =>
    refine ⟨fun y hy => ?_, fun q hq => ?_⟩
    · rcases List.mem_cons.mp hy with rfl | hy
      · exact ⟨p, List.mem_cons_self, e⟩
      · obtain ⟨q, hq, g⟩ := ih.1 y hy
        exact ⟨q, List.mem_cons_of_mem _ hq, g⟩
    · rcases List.mem_cons.mp hq with rfl | hq
      · exact ⟨y0, List.mem_cons_self, e⟩
      · obtain ⟨y, hy, g⟩ := ih.2 q hq
        exact ⟨y, List.mem_cons_of_mem _ hy, g⟩
theorem DK.sorted {H : Hp} {a : Addr} {k : Str} {f : CK → Option V} {ks : List CK} {Q : VK} (d : DK H a k f ks) (cells : ∀ c ∈ ks, CellIs k c) (few : ks.length < 64)
    (q : ∀ (vs : List V) (p : Addr), vs.length = ks.length → (∀ v ∈ vs, ∃ c ∈ ks, KeyV H v c) → (∀ c ∈ ks, ∃ v ∈ vs, KeyV H v c) → H p = none → Q (.ref p) (upd H p (.lst vs))) : rSorted3 [.ref a] H Q := by
  constructor
  rcases d with ⟨t, kvs, e, rfl, l⟩ | ⟨t, kvs, e, rfl, l⟩
  · rw [List.length_map] at few
    by_cases c1 : k = "folded"
    · obtain ⟨is, ei⟩ : ∃ is : List Int, kvs.map (·.1) = is.map Sum.inl := all_inl fun w hw => by
        obtain ⟨g, hg, rfl⟩ := List.mem_map.mp hw
        obtain ⟨x, b, h, ec⟩ := cells (Sum.inl g.1) (List.mem_map.mpr ⟨g, hg, rfl⟩)
        unfold cK at ec
        rw [if_pos c1] at ec
        exact ⟨_, Sum.inl.inj ec⟩
      have il : is.length = kvs.length := by
        have := congrArg List.length ei
        rw [List.length_map, List.length_map] at this
        exact this.symm
      refine .inl ⟨a, kvs, is, rfl, .inl e, ei, by omega, fun ys p pm _ np => q (ys.map V.int) p ?_ ?_ ?_ np⟩
      · rw [List.length_map, List.length_map, pm.length_eq, il]
      · intro v hv
        obtain ⟨i, hi, rfl⟩ := List.mem_map.mp hv
        have : (Sum.inl i : L2.Key) ∈ kvs.map (·.1) := by rw [ei]; exact List.mem_map.mpr ⟨i, pm.mem_iff.mp hi, rfl⟩
        obtain ⟨g, hg, eg⟩ := List.mem_map.mp this
        exact ⟨Sum.inl g.1, List.mem_map.mpr ⟨g, hg, rfl⟩, by rw [eg]; rfl⟩
      · intro c hc
        obtain ⟨g, hg, rfl⟩ := List.mem_map.mp hc
        have : g.1 ∈ is.map (Sum.inl : Int → L2.Key) := by rw [← ei]; exact List.mem_map.mpr ⟨g, hg, rfl⟩
        obtain ⟨i, hi, eg⟩ := List.mem_map.mp this
        exact ⟨.int i, List.mem_map.mpr ⟨i, pm.mem_iff.mpr hi, rfl⟩, by rw [← eg]; rfl⟩
    · have c2 : k = "shared" := by
        unfold tupK at t
        rw [Bool.not_eq_false', Bool.or_eq_true, decide_eq_true_eq, decide_eq_true_eq] at t
        exact t.resolve_left c1
      obtain ⟨is, ei⟩ : ∃ is : List Str, kvs.map (·.1) = is.map Sum.inr := all_inr fun w hw => by
        obtain ⟨g, hg, rfl⟩ := List.mem_map.mp hw
        obtain ⟨x, b, h, ec⟩ := cells (Sum.inl g.1) (List.mem_map.mpr ⟨g, hg, rfl⟩)
        unfold cK at ec
        rw [if_neg c1, if_pos c2] at ec
        exact ⟨_, Sum.inl.inj ec⟩
      have il : is.length = kvs.length := by
        have := congrArg List.length ei
        rw [List.length_map, List.length_map] at this
        exact this.symm
      refine .inr (.inl ⟨a, kvs, is, rfl, .inl e, ei, by omega, fun ys p pm _ np => q (ys.map V.str) p ?_ ?_ ?_ np⟩)
      · rw [List.length_map, List.length_map, pm.length_eq, il]
      · intro v hv
        obtain ⟨i, hi, rfl⟩ := List.mem_map.mp hv
        have : (Sum.inr i : L2.Key) ∈ kvs.map (·.1) := by rw [ei]; exact List.mem_map.mpr ⟨i, pm.mem_iff.mp hi, rfl⟩
        obtain ⟨g, hg, eg⟩ := List.mem_map.mp this
        exact ⟨Sum.inl g.1, List.mem_map.mpr ⟨g, hg, rfl⟩, by rw [eg]; rfl⟩
      · intro c hc
        obtain ⟨g, hg, rfl⟩ := List.mem_map.mp hc
        have : g.1 ∈ is.map (Sum.inr : Str → L2.Key) := by rw [← ei]; exact List.mem_map.mpr ⟨g, hg, rfl⟩
        obtain ⟨i, hi, eg⟩ := List.mem_map.mp this
        exact ⟨.str i, List.mem_map.mpr ⟨i, pm.mem_iff.mpr hi, rfl⟩, by rw [← eg]; rfl⟩
  · rw [List.length_map] at few
    have t' := t
    unfold tupK at t'
    rw [Bool.not_eq_true', Bool.or_eq_false_iff, decide_eq_false_iff_not, decide_eq_false_iff_not] at t'
    refine .inr (.inr ⟨a, kvs, rfl, e, fun g hg => ?_, by omega, fun bs ys p ik pm _ np => q (ys.map V.ref) p ?_ ?_ ?_ np⟩)
    · obtain ⟨x, b, h, ec⟩ := cells (Sum.inr g.1) (List.mem_map.mpr ⟨g, hg, rfl⟩)
      unfold cK at ec
      rw [if_neg t'.1, if_neg t'.2] at ec
      exact ⟨_, _, Sum.inr.inj ec⟩
    · have : kvs.length = bs.length := Paired.length ik
      rw [List.length_map, List.length_map, pm.length_eq, this]
    · intro v hv
      obtain ⟨y, hy, rfl⟩ := List.mem_map.mp hv
      obtain ⟨g, hg, hh⟩ := (isKeys_both ik).1 y (pm.mem_iff.mp hy)
      exact ⟨Sum.inr g.1, List.mem_map.mpr ⟨g, hg, rfl⟩, y, rfl, hh⟩
    · intro c hc
      obtain ⟨g, hg, rfl⟩ := List.mem_map.mp hc
      obtain ⟨y, hy, hh⟩ := (isKeys_both ik).2 g hg
      exact ⟨.ref y, List.mem_map.mpr ⟨y, pm.mem_iff.mpr hy, rfl⟩, y, rfl, hh⟩
end Pf
namespace Pf
open PySem PySem.Spec PyProof.Rows L2 Gk Fold
/-! ### errors and changes of a row of outcomes -/
def valL (w : Int) : Int → List Int → Int
  | v, [] => v
  | v, o :: os => valL w (aft w v o) os
def errL (w : Int) : Int → List Int → Nat
  | _, [] => 0
  | v, o :: os => (if prd w v = o then 0 else 1) + errL w (aft w v o) os
def chgL : Int → List Int → Nat
  | _, [] => 0
  | p, o :: os => (if o = p then 0 else 1) + chgL o os
def lastO : Int → List Int → Int
  | p, [] => p
  | _, o :: os => lastO o os
theorem valL_snoc (w : Int) : ∀ (v : Int) (os : List Int) (o : Int), valL w v (os ++ [o]) = aft w (valL w v os) o
  | _, [], _ => rfl
  | v, a :: os, o => valL_snoc w (aft w v a) os o
theorem errL_snoc (w : Int) : ∀ (v : Int) (os : List Int) (o : Int), errL w v (os ++ [o]) = errL w v os + (if prd w (valL w v os) = o then 0 else 1)
  | v, [], o => by
    show (if prd w v = o then 0 else 1) + 0 = 0 + (if prd w v = o then 0 else 1)
    omega
  | v, a :: os, o => by
    show _ + errL w (aft w v a) (os ++ [o]) = _ + errL w (aft w v a) os + _
    rw [errL_snoc w (aft w v a) os o]
    show _ + (_ + (if prd w (valL w (aft w v a) os) = o then 0 else 1)) = _ + _ + (if prd w (valL w (aft w v a) os) = o then 0 else 1)
    omega
theorem chgL_snoc : ∀ (p : Int) (os : List Int) (o : Int), chgL p (os ++ [o]) = chgL p os + (if o = lastO p os then 0 else 1)
  | p, [], o => by
    show (if o = p then 0 else 1) + 0 = 0 + (if o = p then 0 else 1)
    omega
  | p, a :: os, o => by
    show _ + chgL a (os ++ [o]) = _ + chgL a os + _
    rw [chgL_snoc a os o]
    show _ + (_ + (if o = lastO a os then 0 else 1)) = _ + _ + (if o = lastO a os then 0 else 1)
    omega
theorem lastO_any {os : List Int} (h : os ≠ []) (p q : Int) : lastO p os = lastO q os := by
  cases os with
  | nil => exact absurd rfl h
  | cons a os => rfl
theorem lastO_snoc : ∀ (p : Int) (os : List Int) (o : Int), lastO p (os ++ [o]) = o
  | _, [], _ => rfl
  | _, a :: os, o => lastO_snoc a os o
def Bit (o : Int) : Prop := o = 0 ∨ o = 1
theorem chg_le {w : Int} (hw : 1 ≤ w) : ∀ (os : List Int) (v p : Int), (∀ o ∈ os, Bit o) → Bit p → 0 ≤ v → v ≤ top w →
    chgL p os + (if prd w (valL w v os) = lastO p os then 0 else 1) ≤ 2 * errL w v os + (if prd w v = p then 0 else 1)
  | [], v, p, _, _, _, _ => by
    show 0 + (if prd w v = p then 0 else 1) ≤ 2 * 0 + _
    omega
  | o :: os, v, p, ho, hp, h0, h1 => by
    have bo := ho o List.mem_cons_self
    have ih := chg_le hw os (aft w v o) o (fun a ha => ho a (List.mem_cons_of_mem _ ha)) bo (aft_in hw h0 h1).1 (aft_in hw h0 h1).2
    show (if o = p then 0 else 1) + chgL o os + (if prd w (valL w (aft w v o) os) = lastO o os then 0 else 1) ≤ 2 * ((if prd w v = o then 0 else 1) + errL w (aft w v o) os) + _
    have keep : prd w v = o → prd w (aft w v o) = o := aft_keep hw h0 h1 bo
    have bv : prd w v = 0 ∨ prd w v = 1 := by
      unfold prd
      split
      · exact .inr rfl
      · exact .inl rfl
    by_cases e1 : prd w v = o
    · rw [if_pos (keep e1)] at ih
      rw [if_pos e1]
      by_cases e2 : o = p
      · rw [if_pos e2]
        omega
      · rw [if_neg e2, if_neg (fun z => e2 (e1.symm.trans z))]
        omega
    · rw [if_neg e1]
      have : (if prd w (aft w v o) = o then 0 else 1 : Nat) ≤ 1 := by split <;> omega
      by_cases e2 : o = p
      · rw [if_pos e2]
        omega
      · rw [if_neg e2]
        omega
theorem top_one : top 1 = 1 := by decide
theorem aft_one {v o : Int} (h0 : 0 ≤ v) (h1 : v ≤ top 1) (bo : Bit o) : prd 1 (aft 1 v o) = o := by
  rw [top_one] at h1
  have hv : v = 0 ∨ v = 1 := by omega
  rcases bo with rfl | rfl <;> rcases hv with rfl | rfl <;> decide
theorem chg_one : ∀ (os : List Int) (v p : Int), (∀ o ∈ os, Bit o) → 0 ≤ v → v ≤ top 1 → prd 1 v = p → chgL p os = errL 1 v os
  | [], _, _, _, _, _, _ => rfl
  | o :: os, v, p, ho, h0, h1, e => by
    have bo := ho o List.mem_cons_self
    show (if o = p then 0 else 1) + chgL o os = (if prd 1 v = o then 0 else 1) + errL 1 (aft 1 v o) os
    rw [chg_one os (aft 1 v o) o (fun a ha => ho a (List.mem_cons_of_mem _ ha)) (aft_in (by decide) h0 h1).1 (aft_in (by decide) h0 h1).2 (aft_one h0 h1 bo), e]
    by_cases c : o = p
    · rw [if_pos c, if_pos c.symm]
    · rw [if_neg c, if_neg (fun z => c z.symm)]
theorem val_one : ∀ (os : List Int) (v p : Int), (∀ o ∈ os, Bit o) → 0 ≤ v → v ≤ top 1 → os ≠ [] → prd 1 (valL 1 v os) = lastO p os
  | [], _, _, _, _, _, h => absurd rfl h
  | o :: os, v, p, ho, h0, h1, _ => by
    have bo := ho o List.mem_cons_self
    have a1 := aft_in (w := 1) (o := o) (by decide) h0 h1
    show prd 1 (valL 1 (aft 1 v o) os) = lastO o os
    cases os with
    | nil => exact aft_one h0 h1 bo
    | cons b os => exact val_one (b :: os) (aft 1 v o) o (fun a ha => ho a (List.mem_cons_of_mem _ ha)) a1.1 a1.2 (by simp)
/-- around: the changes of a row that leaves its value as it was -/
theorem around_le {w v : Int} {os : List Int} (hw : 1 ≤ w) (h0 : 0 ≤ v) (h1 : v ≤ top w) (ho : ∀ o ∈ os, Bit o) (hne : os ≠ []) (e : valL w v os = v) : chgL (lastO 0 os) os ≤ 2 * errL w v os := by
  have bl : ∀ (os : List Int) (p : Int), (∀ o ∈ os, Bit o) → Bit p → Bit (lastO p os) := fun os => by
    induction os with
    | nil => intro p _ h; exact h
    | cons a os ih => intro p h _; exact ih a (fun o ho => h o (List.mem_cons_of_mem _ ho)) (h a List.mem_cons_self)
  have := chg_le hw os v (lastO 0 os) ho (bl os 0 ho (.inl rfl)) h0 h1
  rw [e, lastO_any hne (lastO 0 os) 0] at this
  omega
theorem around_one {v : Int} {os : List Int} (h0 : 0 ≤ v) (h1 : v ≤ top 1) (ho : ∀ o ∈ os, Bit o) (hne : os ≠ []) (e : valL 1 v os = v) : chgL (lastO 0 os) os = errL 1 v os := by
  refine chg_one os v _ ho h0 h1 ?_
  have := val_one os v 0 ho h0 h1 hne
  rwa [e] at this
/-! ### sums over cells -/
def sumC {α : Type} (f : α → Nat) : List α → Nat
  | [] => 0
  | c :: cs => f c + sumC f cs
theorem sumC_le {α : Type} {f g : α → Nat} : ∀ {cs : List α}, (∀ c ∈ cs, f c ≤ g c) → sumC f cs ≤ sumC g cs
  | [], _ => Nat.le_refl _
  | c :: cs, h => Nat.add_le_add (h c List.mem_cons_self) (sumC_le fun d hd => h d (List.mem_cons_of_mem _ hd))
theorem sumC_eq {α : Type} {f g : α → Nat} : ∀ {cs : List α}, (∀ c ∈ cs, f c = g c) → sumC f cs = sumC g cs
  | [], _ => rfl
  | c :: cs, h => by
    show f c + sumC f cs = g c + sumC g cs
    rw [h c List.mem_cons_self, sumC_eq fun d hd => h d (List.mem_cons_of_mem _ hd)]
theorem sumC_zero {α : Type} : ∀ {cs : List α}, sumC (fun _ => 0) cs = 0
  | [] => rfl
  | c :: cs => by show 0 + sumC (fun _ => 0) cs = 0; rw [sumC_zero]
theorem sumC_two {α : Type} (f : α → Nat) : ∀ cs : List α, sumC (fun c => 2 * f c) cs = 2 * sumC f cs
  | [] => rfl
  | c :: cs => by
    show 2 * f c + sumC (fun c => 2 * f c) cs = 2 * (f c + sumC f cs)
    rw [sumC_two f cs]
    omega
theorem sumC_out {α : Type} [DecidableEq α] {f : α → Nat} {a : α} {n : Nat} : ∀ {cs : List α}, a ∉ cs → sumC (fun c => f c + if a = c then n else 0) cs = sumC f cs
  | [], _ => rfl
  | c :: cs, h => by
    show (f c + if a = c then n else 0) + sumC _ cs = f c + sumC f cs
    rw [if_neg (fun z => h (by rw [z]; exact List.mem_cons_self)), sumC_out fun z => h (List.mem_cons_of_mem _ z)]
    omega
theorem sumC_in {α : Type} [DecidableEq α] {f : α → Nat} {a : α} {n : Nat} : ∀ {cs : List α}, cs.Nodup → a ∈ cs → sumC (fun c => f c + if a = c then n else 0) cs = sumC f cs + n
  | [], _, h => (nomatch h)
  | c :: cs, nd, h => by
    obtain ⟨n1, n2⟩ := List.nodup_cons.mp nd
    show (f c + if a = c then n else 0) + sumC _ cs = f c + sumC f cs + n
    by_cases e : a = c
    · subst e
      rw [if_pos rfl, sumC_out n1]
      omega
    · rw [if_neg e, sumC_in n2 (by
        rcases List.mem_cons.mp h with h | h
        · exact absurd h e
        · exact h)]
      omega
section
variable {l : List (Int × Int)} {k : Str} {x : Option Int} {L B : Nat} {w v0 : Int}
/-- the outcomes at a cell -/
def outsC (l : List (Int × Int)) (k : Str) (x : Option Int) (L : Nat) (c : CK) (i : Nat) : List Int := (posL l k x L c i).map (outAt l)
theorem outsC_succ (c : CK) (i : Nat) : outsC l k x L c (i + 1) = outsC l k x L c i ++ if sK l k x L i = c then [outAt l i] else [] := by
  unfold outsC
  rw [posL_succ, List.map_append]
  split <;> rfl
theorem gM_valL (fb : FromB l k x L B) (c : CK) (v : Int) : ∀ i, i ≤ l.length → gM l k x L w c (B * l.length) i v = valL w v (outsC l k x L c i)
  | 0, _ => rfl
  | i + 1, h => by
    rw [gM, gM_valL fb c v i (by omega), fb B i (Nat.le_refl _) (by omega), out_round B i (by omega), outsC_succ]
    by_cases e : sK l k x L i = c
    · rw [if_pos e, if_pos e.symm, valL_snoc]
    · rw [if_neg e, if_neg (fun z => e z.symm), List.append_nil]
theorem wrong_cell (fb : FromB l k x L B) {r : Nat} (hr : B ≤ r) {i : Nat} (hi : i < l.length) : wrongAt l k x L w v0 (r * l.length + i) ↔ prd w (valL w (uM l k x L w v0 (r * l.length) (sK l k x L i)) (outsC l k x L (sK l k x L i) i)) ≠ outAt l i := by
  unfold wrongAt pM
  rw [valM_u, fb r i hr hi, uM_g, gM_round fb hr (Nat.le_refl B) _ i (by omega), gM_valL fb _ _ i (by omega), out_round r i hi]
/-- the errors of a late round, cell by cell -/
theorem bR_cells (fb : FromB l k x L B) {r : Nat} (hr : B ≤ r) {cs : List CK} (nd : cs.Nodup) (all : ∀ j, j < l.length → sK l k x L j ∈ cs) : ∀ i, i ≤ l.length → bR l k x L w v0 r i = sumC (fun c => errL w (uM l k x L w v0 (r * l.length) c) (outsC l k x L c i)) cs
  | 0, _ => by
    rw [show (fun c => errL w (uM l k x L w v0 (r * l.length) c) (outsC l k x L c 0)) = fun _ => 0 from rfl, sumC_zero]
    rfl
  | i + 1, h => by
    rw [bR, bR_cells fb hr nd all i (by omega)]
    have hw := wrong_cell (w := w) (v0 := v0) fb hr (show i < l.length by omega)
    have e : ∀ c ∈ cs, errL w (uM l k x L w v0 (r * l.length) c) (outsC l k x L c (i + 1)) = errL w (uM l k x L w v0 (r * l.length) c) (outsC l k x L c i) + if sK l k x L i = c then (if wrongAt l k x L w v0 (r * l.length + i) then 1 else 0) else 0 := fun c _ => by
      rw [outsC_succ]
      by_cases e : sK l k x L i = c
      · rw [if_pos e, if_pos e, errL_snoc]
        rw [e] at hw
        by_cases g : prd w (valL w (uM l k x L w v0 (r * l.length) c) (outsC l k x L c i)) = outAt l i
        · rw [if_pos g, if_neg (fun z => hw.mp z g)]
        · rw [if_neg g, if_pos (hw.mpr g)]
      · rw [if_neg e, if_neg e, List.append_nil]
        rfl
    rw [sumC_eq e, sumC_in nd (all i (by omega))]
/-- the changes at a cell, the first outcome held against the last -/
def chgC (l : List (Int × Int)) (k : Str) (x : Option Int) (L : Nat) (c : CK) : Nat := chgL (lastO 0 (outsC l k x L c l.length)) (outsC l k x L c l.length)
theorem outsC_ne {j : Nat} (hj : j < l.length) : outsC l k x L (sK l k x L j) l.length ≠ [] := fun z => by
  have : j ∈ posL l k x L (sK l k x L j) l.length := posL_mem.mpr ⟨hj, rfl⟩
  unfold outsC at z
  rw [List.map_eq_nil_iff] at z
  rw [z] at this
  exact (nomatch this)
theorem outsC_bits (fair : Fair l) (hl : 1 ≤ l.length) (c : CK) (i : Nat) (hi : i ≤ l.length) : ∀ o ∈ outsC l k x L c i, Bit o := fun o ho => by
  unfold outsC at ho
  obtain ⟨j, hj, rfl⟩ := List.mem_map.mp ho
  have hj := (posL_mem.mp hj).1
  have := outM_bit fair hl (0 * l.length + j)
  rw [out_round 0 j (by omega)] at this
  exact this
theorem stays_at (fb : FromB l k x L B) (hw : 1 ≤ w) (h0 : 0 ≤ v0) (h1 : v0 ≤ top w) (j : Nat) (c : CK) : valL w (uM l k x L w v0 ((B + (top w).toNat + j) * l.length) c) (outsC l k x L c l.length) = uM l k x L w v0 ((B + (top w).toNat + j) * l.length) c := by
  rw [← gM_valL fb c _ l.length (Nat.le_refl _), uM_fix fb hw h0 h1 c j]
  have a := uM_in fb hw h0 h1 c 0 l.length (Nat.le_refl _)
  rw [← a, Nat.add_zero, ← Nat.succ_mul]
  exact uM_fix fb hw h0 h1 c 1
theorem eR_changes (fair : Fair l) (hl : 1 ≤ l.length) (fb : FromB l k x L B) (hw : 1 ≤ w) (h0 : 0 ≤ v0) (h1 : v0 ≤ top w) {cs : List CK} (nd : cs.Nodup) (all : ∀ j, j < l.length → sK l k x L j ∈ cs) (only : ∀ c ∈ cs, ∃ j, j < l.length ∧ c = sK l k x L j) (j : Nat) :
    sumC (chgC l k x L) cs ≤ 2 * eR l k x L w v0 (B + (top w).toNat + j) ∧ sumC (fun c => if 0 < chgC l k x L c then 1 else 0) cs ≤ eR l k x L w v0 (B + (top w).toNat + j) ∧ (w = 1 → sumC (chgC l k x L) cs = eR l k x L w v0 (B + (top w).toNat + j)) := by
  have tot : eR l k x L w v0 (B + (top w).toNat + j) = _ := bR_cells fb (show B ≤ B + (top w).toNat + j by omega) nd all l.length (Nat.le_refl _)
  have inn := fun c => vM_in (l := l) (k := k) (x := x) (L := L) hw h0 h1 ((B + (top w).toNat + j) * l.length) c
  have one : ∀ c ∈ cs, chgC l k x L c ≤ 2 * errL w (uM l k x L w v0 ((B + (top w).toNat + j) * l.length) c) (outsC l k x L c l.length) := fun c hc => by
    obtain ⟨i, hi, rfl⟩ := only c hc
    exact around_le hw (inn _).1 (inn _).2 (outsC_bits fair hl _ _ (Nat.le_refl _)) (outsC_ne hi) (stays_at fb hw h0 h1 j _)
  rw [tot]
  refine ⟨?_, ?_, fun e => ?_⟩
  · rw [← sumC_two]
    exact sumC_le one
  · refine sumC_le fun c hc => ?_
    have := one c hc
    split <;> omega
  · refine sumC_eq fun c hc => ?_
    obtain ⟨i, hi, rfl⟩ := only c hc
    have ez := stays_at fb hw h0 h1 j (sK l k x L i)
    have i1 := inn (sK l k x L i)
    subst e
    exact around_one i1.1 i1.2 (outsC_bits fair hl _ _ (Nat.le_refl _)) (outsC_ne hi) ez
end
end Pf
namespace Pf
open PySem PySem.Spec PyProof.Rows L2 Gk Fold
/-! ### a short loop's branches by their own outcomes -/
def wsum (f : Nat → Bool) (p : Nat) : Nat → Nat
  | 0 => 0
  | t + 1 => wsum f p t + if f (p + t) then 1 else 0
theorem wsum_shift (f : Nat → Bool) (p : Nat) : ∀ t, wsum f p (t + 1) = (if f p then 1 else 0) + wsum f (p + 1) t
  | 0 => by
    show 0 + (if f (p + 0) then 1 else 0) = _ + 0
    rw [Nat.add_zero]
    omega
  | t + 1 => by
    rw [wsum, wsum_shift f p t, wsum, show p + 1 + t = p + (t + 1) by omega]
    omega
theorem wsum_const {f : Nat → Bool} {m : Nat} (per : ∀ q, f (q + m) = f q) : ∀ p, wsum f p m = wsum f 0 m
  | 0 => rfl
  | p + 1 => by
    rw [← wsum_const per p]
    have a := wsum_shift f p m
    rw [wsum, per p] at a
    omega
theorem wsum_ext {f : Nat → Bool} {p q : Nat} : ∀ {n}, (∀ t, t < n → f (p + t) = f (q + t)) → wsum f p n = wsum f q n
  | 0, _ => rfl
  | n + 1, h => by
    rw [wsum, wsum, wsum_ext fun t ht => h t (by omega), h n (by omega)]
theorem next_same {f : Nat → Bool} {m p q : Nat} (hm : 1 ≤ m) (per : ∀ q, f (q + m) = f q) (h : ∀ t, t < m - 1 → f (p + t) = f (q + t)) : f (p + (m - 1)) = f (q + (m - 1)) := by
  have a := wsum_const per p
  have b := wsum_const per q
  obtain ⟨n, rfl⟩ : ∃ n, m = n + 1 := ⟨m - 1, by omega⟩
  rw [wsum] at a b
  have c := wsum_ext h
  rw [show n + 1 - 1 = n by omega] at c ⊢
  cases e1 : f (p + n) <;> cases e2 : f (q + n) <;> simp [e1, e2] at a b ⊢ <;> omega
theorem own_same {l : List (Int × Int)} (fair : Fair l) (hl : 1 ≤ l.length) (h12 : l.length ≤ 12) {i j : Nat} (hi : i < l.length) (hj : j < l.length) (e : sK l "own" none 11 i = sK l "own" none 11 j) : outAt l i = outAt l j := by
  have h64 : l.length ≤ 64 := by omega
  unfold sK cK at e
  rw [if_neg (by decide +kernel), if_neg (by decide +kernel), if_neg (by decide +kernel), if_neg (by decide +kernel)] at e
  injection e with e
  injection e with e1 e
  injection e with e2 _
  injection e1 with e1
  injection e2 with e2
  have e2 := txt_inj e2
  have bi := brAt_small fair hl i
  have bj := brAt_small fair hl j
  have eb : brAt l i = brAt l j := by omega
  have pos := hB_pos fair hl h64 "own" j
  have per : ∀ q, (hB l "own" (brAt l j)).getD ((q + (hB l "own" (brAt l j)).length) % (hB l "own" (brAt l j)).length) false = (hB l "own" (brAt l j)).getD (q % (hB l "own" (brAt l j)).length) false := fun q => by rw [Nat.add_mod_right]
  have small : (hB l "own" (brAt l j)).length ≤ 12 := by
    unfold hB
    rw [if_pos rfl, bo_len]
    exact Nat.le_trans (outs_len _ _) h12
  rw [hR_past hl, hR_past hl, eb] at e2
  have d1 := cj_dig (l := l) hl (k := "own") (b := brAt l j) (j := i) (.inr eb)
  have d2 := cj_dig (l := l) hl (k := "own") (b := brAt l j) (j := j) (.inr rfl)
  generalize hbs : hB l "own" (brAt l j) = bs at *
  have at_ : ∀ (c t : Nat), t < 11 → (past bs (c + 11 * bs.length) 11)[t]? = some (bs.getD ((c + 11 * bs.length + t - 11) % bs.length) false) := fun c t ht => by
    rw [past_at ht]
    unfold dig
    have := Nat.le_mul_of_pos_right 11 pos
    rw [if_pos (by omega)]
  have m11 := Nat.le_mul_of_pos_right 11 pos
  have w := next_same (f := fun q => bs.getD (q % bs.length) false) (m := bs.length) (p := cj l "own" (brAt l j) i + 11 * bs.length - (bs.length - 1)) (q := cj l "own" (brAt l j) j + 11 * bs.length - (bs.length - 1)) pos per fun t ht => by
    have a := at_ (cj l "own" (brAt l j) i) (11 - (bs.length - 1) + t) (by omega)
    have b := at_ (cj l "own" (brAt l j) j) (11 - (bs.length - 1) + t) (by omega)
    rw [e2, b] at a
    have := Option.some.inj a
    show bs.getD _ false = bs.getD _ false
    rw [show cj l "own" (brAt l j) i + 11 * bs.length - (bs.length - 1) + t = cj l "own" (brAt l j) i + 11 * bs.length + (11 - (bs.length - 1) + t) - 11 by omega, ← this]
    congr 2
    omega
  rw [show cj l "own" (brAt l j) i + 11 * bs.length - (bs.length - 1) + (bs.length - 1) = cj l "own" (brAt l j) i + 11 * bs.length by omega, show cj l "own" (brAt l j) j + 11 * bs.length - (bs.length - 1) + (bs.length - 1) = cj l "own" (brAt l j) j + 11 * bs.length by omega, Nat.add_mul_mod_self_right, Nat.add_mul_mod_self_right, d1, d2] at w
  rw [Nat.mod_eq_of_lt hi, Nat.mod_eq_of_lt hj] at w
  have oi := outM_bit fair hl (0 * l.length + i)
  have oj := outM_bit fair hl (0 * l.length + j)
  rw [out_round 0 i hi] at oi
  rw [out_round 0 j hj] at oj
  have ei : outAt l i = (l.getD i (0, 0)).2 := rfl
  have ej : outAt l j = (l.getD j (0, 0)).2 := rfl
  rw [← ei, ← ej] at w
  rcases oi with a | a <;> rcases oj with b | b <;> rw [a, b] at w ⊢ <;> simp at w
theorem own_sure {l : List (Int × Int)} (fair : Fair l) (hl : 1 ≤ l.length) (h12 : l.length ≤ 12) : ¬ Clash l "own" none 11 := by
  rintro ⟨i, j, ij, jn, same, ne⟩
  exact ne (own_same fair hl h12 (by omega) jn same)
end Pf
namespace Pf
open PySem PySem.Spec PyProof.Rows L2 Gk Fold
/-! ### as much history as the pairs less one is enough -/
theorem plain_main {l : List (Int × Int)} (fair : Fair l) (hl : 1 ≤ l.length) (h64 : l.length ≤ 64) {k : Str} {L : Nat} (hL : l.length ≤ L + 1) {i j : Nat} (hi : i < l.length) (hj : j < l.length)
    (eb : hB l k (brAt l i) = hB l k (brAt l j)) (e2 : hR l k L L i = hR l k L L j) : outAt l i = outAt l j := by
  have pos := hB_pos fair hl h64 k j
  have small : (hB l k (brAt l j)).length ≤ L + 1 := by
    unfold hB
    rw [bo_len]
    split
    · exact Nat.le_trans (outs_len _ _) hL
    · rw [List.length_map]; exact hL
  rw [hR_past hl, hR_past hl, eb] at e2
  have d1 := cj_dig (l := l) hl (k := k) (b := brAt l i) (j := i) (.inr rfl)
  have d2 := cj_dig (l := l) hl (k := k) (b := brAt l j) (j := j) (.inr rfl)
  rw [eb] at d1
  generalize hbs : hB l k (brAt l j) = bs at *
  have per : ∀ q, bs.getD ((q + bs.length) % bs.length) false = bs.getD (q % bs.length) false := fun q => by rw [Nat.add_mod_right]
  have mL := Nat.le_mul_of_pos_right L pos
  have at_ : ∀ (c t : Nat), t < L → (past bs (c + L * bs.length) L)[t]? = some (bs.getD ((c + L * bs.length + t - L) % bs.length) false) := fun c t ht => by
    rw [past_at ht]
    unfold dig
    rw [if_pos (by omega)]
  generalize hci : cj l k (brAt l i) i = ci at *
  generalize hcj : cj l k (brAt l j) j = c2 at *
  have w := next_same (f := fun q => bs.getD (q % bs.length) false) (m := bs.length) (p := ci + L * bs.length - (bs.length - 1)) (q := c2 + L * bs.length - (bs.length - 1)) pos per fun t ht => by
    have a := at_ ci (L - (bs.length - 1) + t) (by omega)
    have b := at_ c2 (L - (bs.length - 1) + t) (by omega)
    rw [e2, b] at a
    have := Option.some.inj a
    show bs.getD _ false = bs.getD _ false
    rw [show ci + L * bs.length - (bs.length - 1) + t = ci + L * bs.length + (L - (bs.length - 1) + t) - L by omega, ← this]
    congr 2
    omega
  rw [show ci + L * bs.length - (bs.length - 1) + (bs.length - 1) = ci + L * bs.length by omega, show c2 + L * bs.length - (bs.length - 1) + (bs.length - 1) = c2 + L * bs.length by omega, Nat.add_mul_mod_self_right, Nat.add_mul_mod_self_right, d1, d2] at w
  rw [Nat.mod_eq_of_lt hi, Nat.mod_eq_of_lt hj] at w
  have oi := outM_bit fair hl (0 * l.length + i)
  have oj := outM_bit fair hl (0 * l.length + j)
  rw [out_round 0 i hi] at oi
  rw [out_round 0 j hj] at oj
  have ei : outAt l i = (l.getD i (0, 0)).2 := rfl
  have ej : outAt l j = (l.getD j (0, 0)).2 := rfl
  rw [← ei, ← ej] at w
  rcases oi with a | a <;> rcases oj with b | b <;> rw [a, b] at w ⊢ <;> simp at w
theorem plain_same {l : List (Int × Int)} (fair : Fair l) (hl : 1 ≤ l.length) (h64 : l.length ≤ 64) {k : Str} (hk : k = "own" ∨ k = "split" ∨ k = "shared") {L : Nat} (hL : l.length ≤ L + 1) {i j : Nat} (hi : i < l.length) (hj : j < l.length)
    (e : sK l k none L i = sK l k none L j) : outAt l i = outAt l j := by
  have bi := brAt_small fair hl i
  have bj := brAt_small fair hl j
  rcases hk with rfl | rfl | rfl
  · unfold sK cK at e
    rw [if_neg (by decide +kernel), if_neg (by decide +kernel), if_neg (by decide +kernel), if_neg (by decide +kernel)] at e
    injection e with e
    injection e with e1 e
    injection e with e2 _
    injection e1 with e1
    injection e2 with e2
    have e2 := txt_inj e2
    have eb : brAt l i = brAt l j := by omega
    exact plain_main fair hl h64 hL hi hj (by rw [eb]) e2
  · unfold sK cK at e
    rw [if_neg (by decide +kernel), if_neg (by decide +kernel), if_neg (by decide +kernel), if_neg (by decide +kernel)] at e
    injection e with e
    injection e with e1 e
    injection e with e2 _
    injection e2 with e2
    have e2 := txt_inj e2
    refine plain_main fair hl h64 hL hi hj ?_ e2
    unfold hB
    rw [if_neg (by decide +kernel), if_neg (by decide +kernel)]
  · unfold sK cK at e
    rw [if_neg (by decide +kernel), if_pos rfl, if_neg (by decide +kernel), if_pos rfl] at e
    injection e with e
    injection e with e
    have e2 := txt_inj e
    refine plain_main fair hl h64 hL hi hj ?_ e2
    unfold hB
    rw [if_neg (by decide +kernel), if_neg (by decide +kernel)]
theorem plain_sure {l : List (Int × Int)} (fair : Fair l) (hl : 1 ≤ l.length) (h64 : l.length ≤ 64) {k : Str} (hk : k = "own" ∨ k = "split" ∨ k = "shared") : ¬ Clash l k none (l.length - 1) := by
  rintro ⟨i, j, ij, jn, same, ne⟩
  exact ne (plain_same fair hl h64 hk (by omega) (by omega) jn same)
/-- the least length without a clash -/
structure LeastP (l : List (Int × Int)) (k : Str) (n : Nat) : Prop where
  ok : ¬ Clash l k none n
  no : ∀ m, m < n → Clash l k none m
theorem LeastP.one {l : List (Int × Int)} {k : Str} {n m : Nat} (a : LeastP l k n) (b : LeastP l k m) : n = m := by
  rcases Nat.lt_trichotomy n m with h | h | h
  · exact absurd (b.no n h) a.ok
  · exact h
  · exact absurd (a.no m h) b.ok
theorem LeastP.le {l : List (Int × Int)} {k : Str} {n m : Nat} (a : LeastP l k n) (h : ¬ Clash l k none m) : n ≤ m := by
  rcases Nat.lt_or_ge m n with g | g
  · exact absurd (a.no m g) h
  · exact g
end Pf
namespace Pf
open PySem PySem.Spec PyProof.Rows L2 Gk Fold
/-! ### a list again and again -/
def strm {α : Type} (l : List α) (q : Nat) : Option α := l[q % l.length]?
theorem flat_at {α : Type} {l : List α} (h : 1 ≤ l.length) : ∀ k i, i < k * l.length → ((List.replicate k l).flatten)[i]? = l[i % l.length]?
  | 0, i, hi => by omega
  | k + 1, i, hi => by
    rw [List.replicate_succ, List.flatten_cons]
    rw [Nat.succ_mul] at hi
    by_cases c : i < l.length
    · rw [List.getElem?_append_left c, Nat.mod_eq_of_lt c]
    · rw [List.getElem?_append_right (by omega), flat_at h k _ (by omega)]
      congr 1
      rw [← Nat.mod_eq_sub_mod (by omega)]
theorem strm_many {α : Type} {l : List α} {s : Nat} (h : ∀ q, strm l (q + s) = strm l q) (q : Nat) : ∀ k : Nat, strm l (q + k * s) = strm l q
  | 0 => by rw [Nat.zero_mul, Nat.add_zero]
  | k + 1 => by rw [Nat.succ_mul, ← Nat.add_assoc, h, strm_many h q k]
theorem rep_str {α : Type} {l : List α} {s : Nat} (s1 : 1 ≤ s) (sn : s ≤ l.length) : Rep l s ↔ l.length % s = 0 ∧ ∀ q, strm l (q + s) = strm l q := by
  have tl : (l.take s).length = s := by rw [List.length_take]; omega
  constructor
  · intro h
    have m := h.many sn
    have d : s ∣ l.length := ⟨_, m.symm⟩
    have at_ : ∀ i, i < l.length → l[i]? = l[i % s]? := fun i hi => by
      have e : l[i]? = ((List.replicate (l.length / s) (l.take s)).flatten)[i]? := by rw [show (List.replicate (l.length / s) (l.take s)).flatten = l from h]
      rw [e, flat_at (by omega) _ _ (by rw [tl, Nat.mul_comm, m]; exact hi), tl, List.getElem?_take_of_lt (Nat.mod_lt _ s1)]
    refine ⟨Nat.mod_eq_zero_of_dvd d, fun q => ?_⟩
    unfold strm
    rw [at_ _ (Nat.mod_lt _ (by omega)), at_ (q % l.length) (Nat.mod_lt _ (by omega)), Nat.mod_mod_of_dvd _ d, Nat.mod_mod_of_dvd _ d, Nat.add_mod_right]
  · rintro ⟨m, h⟩
    have dm : l.length / s * s = l.length := Nat.div_mul_cancel (Nat.dvd_of_mod_eq_zero m)
    refine List.ext_getElem? fun i => ?_
    by_cases hi : i < l.length
    · rw [flat_at (by omega) _ _ (by rw [tl, dm]; exact hi), tl, List.getElem?_take_of_lt (Nat.mod_lt _ s1)]
      have k := strm_many h (i % s) (i / s)
      rw [Nat.mul_comm, Nat.mod_add_div] at k
      unfold strm at k
      rw [Nat.mod_eq_of_lt hi, Nat.mod_eq_of_lt (Nat.lt_of_lt_of_le (Nat.mod_lt _ s1) sn)] at k
      exact k.symm
    · rw [List.getElem?_eq_none (by rw [Gk.flat_len, tl, dm]; omega), List.getElem?_eq_none (by omega)]
theorem rot_len {α : Type} {l : List α} {r : Nat} (hr : r ≤ l.length) : (rot l r).length = l.length := by
  unfold rot
  rw [List.length_append, List.length_drop, List.length_take]
  omega
theorem strm_rot {α : Type} {l : List α} {r : Nat} (hr : r < l.length) (q : Nat) : strm (rot l r) q = strm l (q + r) := by
  have hq : q % l.length < l.length := Nat.mod_lt _ (by omega)
  unfold strm
  rw [rot_len (by omega), show (q + r) % l.length = (q % l.length + r) % l.length by rw [Nat.mod_add_mod]]
  generalize q % l.length = i at hq
  unfold rot
  by_cases c : i + r < l.length
  · rw [List.getElem?_append_left (by rw [List.length_drop]; omega), List.getElem?_drop, Nat.mod_eq_of_lt c, Nat.add_comm]
  · rw [List.getElem?_append_right (by rw [List.length_drop]; omega), List.length_drop, Nat.mod_eq_sub_mod (by omega), Nat.mod_eq_of_lt (by omega), List.getElem?_take_of_lt (by omega)]
    congr 1
    omega
theorem strm_two {α : Type} {l : List α} (h1 : 1 ≤ l.length) (q : Nat) : strm (l ++ l) q = strm l q := by
  unfold strm
  have d : l.length ∣ (l ++ l).length := ⟨2, by rw [List.length_append]; omega⟩
  have hq : q % (l ++ l).length < (l ++ l).length := Nat.mod_lt _ (by rw [List.length_append]; omega)
  rw [← Nat.mod_mod_of_dvd q d]
  generalize q % (l ++ l).length = i at hq
  rw [List.length_append] at hq
  by_cases c : i < l.length
  · rw [List.getElem?_append_left c, Nat.mod_eq_of_lt c]
  · rw [List.getElem?_append_right (by omega), Nat.mod_eq_sub_mod (by omega), Nat.mod_eq_of_lt (by omega)]
theorem strm_map {α β : Type} (g : α → β) (l : List α) (q : Nat) : strm (l.map g) q = (strm l q).map g := by
  unfold strm
  rw [List.length_map, List.getElem?_map]
theorem strm_len {α : Type} (l : List α) (q : Nat) : strm l (q + l.length) = strm l q := by
  unfold strm
  rw [Nat.add_mod_right]
/-! ### roots -/
theorem per_sub {α : Type} {f : Nat → α} {a b : Nat} (ha : ∀ q, f (q + a) = f q) (hb : ∀ q, f (q + b) = f q) (h : a ≤ b) (q : Nat) : f (q + (b - a)) = f q := by
  rw [← ha (q + (b - a)), show q + (b - a) + a = q + b by omega, hb]
theorem per_gcd {α : Type} {f : Nat → α} : ∀ (n a b : Nat), a + b ≤ n → (∀ q, f (q + a) = f q) → (∀ q, f (q + b) = f q) → ∀ q, f (q + Nat.gcd a b) = f q
  | 0, a, b, h, ha, hb => by
    obtain rfl : a = 0 := by omega
    obtain rfl : b = 0 := by omega
    exact ha
  | n + 1, a, b, h, ha, hb => by
    by_cases a0 : a = 0
    · subst a0
      rw [Nat.gcd_zero_left]
      exact hb
    by_cases b0 : b = 0
    · subst b0
      rw [Nat.gcd_zero_right]
      exact ha
    rcases Nat.le_total a b with c | c
    · have := per_gcd n a (b - a) (by omega) ha (per_sub ha hb c)
      rwa [Nat.gcd_sub_self_right c] at this
    · have := per_gcd n (a - b) b (by omega) (per_sub hb ha c) hb
      rwa [Nat.gcd_sub_self_left c] at this
theorem root_two {α : Type} {l : List α} {s t : Nat} (a : RootIs (l ++ l) s) (b : RootIs l t) : s = t := by
  have h1 : 1 ≤ l.length := Nat.le_trans b.lo b.hi
  have len : (l ++ l).length = l.length + l.length := List.length_append
  have st : s ≤ t := by
    refine Nat.le_of_not_lt fun lt => a.least t b.lo lt ?_
    obtain ⟨m, p⟩ := (rep_str b.lo b.hi).mp b.rep
    refine (rep_str b.lo (by have := b.hi; omega)).mpr ⟨?_, fun q => by rw [strm_two h1, strm_two h1, p]⟩
    rw [len]
    exact Nat.mod_eq_zero_of_dvd (Nat.dvd_add (Nat.dvd_of_mod_eq_zero m) (Nat.dvd_of_mod_eq_zero m))
  have ps : ∀ q, strm l (q + s) = strm l q := fun q => by
    have := ((rep_str a.lo a.hi).mp a.rep).2 q
    rwa [strm_two h1, strm_two h1] at this
  have pg := per_gcd _ s l.length (Nat.le_refl _) ps (strm_len l)
  have g0 : 1 ≤ Nat.gcd s l.length := Nat.gcd_pos_of_pos_left _ a.lo
  have gs : Nat.gcd s l.length ≤ s := Nat.gcd_le_left _ a.lo
  have rg : Rep l (Nat.gcd s l.length) := (rep_str g0 (by have := b.hi; omega)).mpr ⟨Nat.mod_eq_zero_of_dvd (Nat.gcd_dvd_right _ _), pg⟩
  have tg : t ≤ Nat.gcd s l.length := Nat.le_of_not_lt fun lt => b.least _ g0 lt rg
  omega
theorem rep_rot {α : Type} {l : List α} {r s : Nat} (hr : r < l.length) (s1 : 1 ≤ s) (sn : s ≤ l.length) : Rep (rot l r) s ↔ Rep l s := by
  have len := rot_len (l := l) (r := r) (by omega)
  rw [rep_str s1 sn, rep_str s1 (by omega), len]
  refine and_congr Iff.rfl ⟨fun h q => ?_, fun h q => ?_⟩
  · have e := h (q + (l.length - r))
    rw [strm_rot hr, strm_rot hr, show q + (l.length - r) + s + r = q + s + l.length by omega, show q + (l.length - r) + r = q + l.length by omega, strm_len, strm_len] at e
    exact e
  · rw [strm_rot hr, strm_rot hr, show q + s + r = q + r + s by omega, h]
theorem root_rot {α : Type} {l : List α} {r s t : Nat} (hr : r < l.length) (a : RootIs (rot l r) s) (b : RootIs l t) : s = t := by
  have len := rot_len (l := l) (r := r) (by omega)
  have sl : s ≤ l.length := by rw [← len]; exact a.hi
  rcases Nat.lt_trichotomy s t with c | c | c
  · exact absurd ((rep_rot hr a.lo sl).mp a.rep) (b.least s a.lo c)
  · exact c
  · exact absurd ((rep_rot hr b.lo b.hi).mpr b.rep) (a.least t b.lo c)
/-! ### two traces whose moments are alike -/
theorem br_strm (l : List (Int × Int)) (m : Nat) : brAt l m = ((strm l m).getD (0, 0)).1 := by
  unfold brAt strm
  rw [List.getD_eq_getElem?_getD]
theorem out_strm (l : List (Int × Int)) (m : Nat) : outM l m = ((strm l m).getD (0, 0)).2 := by
  unfold outM strm
  rw [List.getD_eq_getElem?_getD]
theorem hist_like {l l' : List (Int × Int)} {k : Str} {L a b : Nat} {f : Bool → Bool} (h1 : 1 ≤ l.length)
    (same : ∀ i j, ownO k (brAt l' (a + i)) = ownO k (brAt l' (a + j)) ↔ ownO k (brAt l (b + i)) = ownO k (brAt l (b + j)))
    (outF : ∀ j, decide (outM l' (a + j) = 1) = f (decide (outM l (b + j) = 1))) :
    ∀ d, d ≤ L → ∀ m, d * l.length ≤ m → ∀ j, (hM l' k L (a + m) (ownO k (brAt l' (a + j)))).drop (L - d) = ((hM l k L (b + m) (ownO k (brAt l (b + j)))).drop (L - d)).map f
  | 0, _ => fun m _ j => by
    rw [List.drop_eq_nil_of_le (by rw [hM_len]; omega), List.drop_eq_nil_of_le (by rw [hM_len]; omega)]
    rfl
  | d + 1, hd => fun m hm j => by
    have ih := hist_like (L := L) h1 same outF d (by omega)
    rw [Nat.succ_mul] at hm
    have push : ∀ q, d * l.length ≤ q → ownO k (brAt l (b + j)) = ownO k (brAt l (b + q)) → (hM l' k L (a + (q + 1)) (ownO k (brAt l' (a + j)))).drop (L - (d + 1)) = ((hM l k L (b + (q + 1)) (ownO k (brAt l (b + j)))).drop (L - (d + 1))).map f := fun q hq e => by
      have e2 := (same j q).mpr e
      rw [← Nat.add_assoc, ← Nat.add_assoc, hM_push e, hM_push e2, drop_push (hM_len _ _ _ _ _) hd, drop_push (hM_len _ _ _ _ _) hd, ih q hq j, List.map_append, outF]
      rfl
    obtain ⟨Q, q1, q2, q3⟩ := seen_in (m := b + m) h1 (k := k) (j := b + j) rfl (by omega)
    obtain ⟨q, rfl⟩ : ∃ q, Q = b + q := ⟨Q - b, by omega⟩
    have on : ∀ i, (hM l' k L (a + (q + 1 + i)) (ownO k (brAt l' (a + j)))).drop (L - (d + 1)) = ((hM l k L (b + (q + 1 + i)) (ownO k (brAt l (b + j)))).drop (L - (d + 1))).map f := fun i => by
      induction i with
      | zero => exact push q (by omega) q3
      | succ i hi =>
        by_cases c : ownO k (brAt l (b + j)) = ownO k (brAt l (b + (q + 1 + i)))
        · exact push (q + 1 + i) (by omega) c
        · have c2 : ¬ ownO k (brAt l' (a + j)) = ownO k (brAt l' (a + (q + 1 + i))) := fun z => c ((same _ _).mp z)
          rw [show a + (q + 1 + (i + 1)) = a + (q + 1 + i) + 1 by omega, hM_stay c2, show b + (q + 1 + (i + 1)) = b + (q + 1 + i) + 1 by omega, hM_stay c]
          exact hi
    have := on (m - (q + 1))
    rwa [show q + 1 + (m - (q + 1)) = m by omega] at this
theorem at_like {l l' : List (Int × Int)} {k : Str} {L a b : Nat} {f : Bool → Bool} (h1 : 1 ≤ l.length)
    (same : ∀ i j, ownO k (brAt l' (a + i)) = ownO k (brAt l' (a + j)) ↔ ownO k (brAt l (b + i)) = ownO k (brAt l (b + j)))
    (outF : ∀ j, decide (outM l' (a + j) = 1) = f (decide (outM l (b + j) = 1))) {m : Nat} (hm : L * l.length ≤ m) : hAtM l' k L (a + m) = (hAtM l k L (b + m)).map f := by
  have := hist_like (L := L) h1 same outF L (Nat.le_refl _) m hm m
  rw [Nat.sub_self, List.drop_zero, List.drop_zero] at this
  exact this
/-! ### clashes, told by moments -/
theorem cM_at {l : List (Int × Int)} (fair : Fair l) (h1 : 1 ≤ l.length) (h2 : l.length ≤ 64) {k : Str} {x : Option Int} {L m : Nat} (hm : L * l.length ≤ m) : cM l k x L m = sK l k x L (m % l.length) := by
  have e := Nat.div_add_mod m l.length
  have hr : L ≤ m / l.length := (Nat.le_div_iff_mul_le h1).mpr hm
  have := cM_steady fair h1 h2 (k := k) (x := x) hr (m % l.length)
  rwa [Nat.mul_comm, e] at this
theorem out_at_mod (l : List (Int × Int)) (m : Nat) : outM l m = outAt l (m % l.length) := rfl
theorem clash_strm {l : List (Int × Int)} (fair : Fair l) (h1 : 1 ≤ l.length) (h2 : l.length ≤ 64) {k : Str} {x : Option Int} {L B : Nat} (hB : L * l.length ≤ B) :
    Clash l k x L ↔ ∃ m1 m2, B ≤ m1 ∧ B ≤ m2 ∧ cM l k x L m1 = cM l k x L m2 ∧ outM l m1 ≠ outM l m2 := by
  constructor
  · rintro ⟨i, j, ij, jn, e, ne⟩
    have big : B ≤ B * l.length := Nat.le_mul_of_pos_right _ h1
    have hi : (B * l.length + i) % l.length = i := by rw [Nat.mul_comm, Nat.mul_add_mod, Nat.mod_eq_of_lt (by omega)]
    have hj : (B * l.length + j) % l.length = j := by rw [Nat.mul_comm, Nat.mul_add_mod, Nat.mod_eq_of_lt jn]
    refine ⟨B * l.length + i, B * l.length + j, by omega, by omega, ?_, ?_⟩
    · rw [cM_at fair h1 h2 (by omega), cM_at fair h1 h2 (by omega), hi, hj, e]
    · rw [out_at_mod, out_at_mod, hi, hj]
      exact ne
  · rintro ⟨m1, m2, b1, b2, e, ne⟩
    rw [cM_at fair h1 h2 (by omega), cM_at fair h1 h2 (by omega)] at e
    rw [out_at_mod, out_at_mod] at ne
    have l1 : m1 % l.length < l.length := Nat.mod_lt _ h1
    have l2 : m2 % l.length < l.length := Nat.mod_lt _ h1
    rcases Nat.lt_trichotomy (m1 % l.length) (m2 % l.length) with c | c | c
    · exact ⟨_, _, c, l2, e, ne⟩
    · rw [c] at ne
      exact absurd rfl ne
    · exact ⟨_, _, c, l1, e.symm, ne.symm⟩
theorem cK_plain {k : Str} (hk : k = "own" ∨ k = "split" ∨ k = "shared") {b b' : Nat} {h h' : List Bool} : cK k none b h = cK k none b' h' ↔ (k = "shared" ∨ b = b') ∧ h = h' := by
  rcases hk with rfl | rfl | rfl
  · unfold cK
    rw [if_neg (by decide +kernel), if_neg (by decide +kernel), if_neg (by decide +kernel), if_neg (by decide +kernel)]
    constructor
    · intro e
      injection e with e
      injection e with e1 e
      injection e with e2 _
      injection e1 with e1
      injection e2 with e2
      exact ⟨.inr (by omega), txt_inj e2⟩
    · rintro ⟨a | a, rfl⟩
      · exact absurd a (by decide +kernel)
      · rw [a]
  · unfold cK
    rw [if_neg (by decide +kernel), if_neg (by decide +kernel), if_neg (by decide +kernel), if_neg (by decide +kernel)]
    constructor
    · intro e
      injection e with e
      injection e with e1 e
      injection e with e2 _
      injection e1 with e1
      injection e2 with e2
      exact ⟨.inr (by omega), txt_inj e2⟩
    · rintro ⟨a | a, rfl⟩
      · exact absurd a (by decide +kernel)
      · rw [a]
  · unfold cK
    rw [if_neg (by decide +kernel), if_pos rfl, if_neg (by decide +kernel), if_pos rfl]
    constructor
    · intro e
      injection e with e
      injection e with e
      exact ⟨.inl rfl, txt_inj e⟩
    · rintro ⟨_, rfl⟩
      rfl
/-- the moments of l' from a on are those of l from b on, by other names -/
structure Like (l l' : List (Int × Int)) (a b : Nat) (f : Bool → Bool) : Prop where
  br : ∀ i j, brAt l' (a + i) = brAt l' (a + j) ↔ brAt l (b + i) = brAt l (b + j)
  out : ∀ j, decide (outM l' (a + j) = 1) = f (decide (outM l (b + j) = 1))
  inj : ∀ u v, f u = f v → u = v
theorem Like.own {l l' : List (Int × Int)} {a b : Nat} {f : Bool → Bool} (h : Like l l' a b f) (k : Str) (i j : Nat) : ownO k (brAt l' (a + i)) = ownO k (brAt l' (a + j)) ↔ ownO k (brAt l (b + i)) = ownO k (brAt l (b + j)) := by
  unfold ownO
  split
  · exact ⟨fun e => congrArg some ((h.br i j).mp (Option.some.inj e)), fun e => congrArg some ((h.br i j).mpr (Option.some.inj e))⟩
  · exact Iff.rfl
theorem Like.clash {l l' : List (Int × Int)} {a b : Nat} {f : Bool → Bool} (h : Like l l' a b f) (fair : Fair l) (h1 : 1 ≤ l.length) (h2 : l.length ≤ 64) (fair' : Fair l') (h1' : 1 ≤ l'.length) (h2' : l'.length ≤ 64) {k : Str} (hk : k = "own" ∨ k = "split" ∨ k = "shared") (L : Nat) : Clash l' k none L ↔ Clash l k none L := by
  have hB : L * l'.length ≤ a + (L * l.length + L * l'.length) := by omega
  have hB2 : L * l.length ≤ b + (L * l.length + L * l'.length) := by omega
  rw [clash_strm fair' h1' h2' hB, clash_strm fair h1 h2 hB2]
  generalize hJ : L * l.length + L * l'.length = J
  have key : ∀ i j, J ≤ i → J ≤ j → ((cM l' k none L (a + i) = cM l' k none L (a + j) ∧ outM l' (a + i) ≠ outM l' (a + j)) ↔ (cM l k none L (b + i) = cM l k none L (b + j) ∧ outM l (b + i) ≠ outM l (b + j))) := fun i j hi hj => by
    unfold cM
    rw [cK_plain hk, cK_plain hk, at_like h1 (h.own k) h.out (by omega), at_like h1 (h.own k) h.out (by omega)]
    have nb : ((brAt l' (a + i)).toNat = (brAt l' (a + j)).toNat) ↔ ((brAt l (b + i)).toNat = (brAt l (b + j)).toNat) := by
      have := brAt_small fair' h1' (a + i)
      have := brAt_small fair' h1' (a + j)
      have := brAt_small fair h1 (b + i)
      have := brAt_small fair h1 (b + j)
      have hb := h.br i j
      constructor
      · intro e
        have := hb.mp (by omega)
        omega
      · intro e
        have := hb.mpr (by omega)
        omega
    have nh : ((hAtM l k L (b + i)).map f = (hAtM l k L (b + j)).map f) ↔ hAtM l k L (b + i) = hAtM l k L (b + j) := List.map_inj_right (fun u v e => h.inj u v e)
    have no : outM l' (a + i) ≠ outM l' (a + j) ↔ outM l (b + i) ≠ outM l (b + j) := by
      have o1 := outM_bit fair' h1' (a + i)
      have o2 := outM_bit fair' h1' (a + j)
      have o3 := outM_bit fair h1 (b + i)
      have o4 := outM_bit fair h1 (b + j)
      have e1 := h.out i
      have e2 := h.out j
      constructor
      · intro ne e
        rw [e, ← e2] at e1
        have e1 := decide_eq_decide.mp e1
        exact ne (by omega)
      · intro ne e
        rw [e, e2] at e1
        have e1 := decide_eq_decide.mp (h.inj _ _ e1)
        exact ne (by omega)
    rw [nb, nh, no]
  constructor
  · rintro ⟨m1, m2, b1, b2, e⟩
    obtain ⟨i, rfl⟩ : ∃ i, m1 = a + i := ⟨m1 - a, by omega⟩
    obtain ⟨j, rfl⟩ : ∃ j, m2 = a + j := ⟨m2 - a, by omega⟩
    exact ⟨b + i, b + j, by omega, by omega, (key i j (by omega) (by omega)).mp e⟩
  · rintro ⟨m1, m2, b1, b2, e⟩
    obtain ⟨i, rfl⟩ : ∃ i, m1 = b + i := ⟨m1 - b, by omega⟩
    obtain ⟨j, rfl⟩ : ∃ j, m2 = b + j := ⟨m2 - b, by omega⟩
    exact ⟨a + i, a + j, by omega, by omega, (key i j (by omega) (by omega)).mpr e⟩
theorem Like.least {l l' : List (Int × Int)} {a b : Nat} {f : Bool → Bool} (h : Like l l' a b f) (fair : Fair l) (h1 : 1 ≤ l.length) (h2 : l.length ≤ 64) (fair' : Fair l') (h1' : 1 ≤ l'.length) (h2' : l'.length ≤ 64) {k : Str} (hk : k = "own" ∨ k = "split" ∨ k = "shared") {n n' : Nat} (e : LeastP l k n) (e' : LeastP l' k n') : n' = n := by
  refine e'.one ⟨fun c => e.ok ((h.clash fair h1 h2 fair' h1' h2' hk n).mp c), fun m hm => (h.clash fair h1 h2 fair' h1' h2' hk m).mpr (e.no m hm)⟩
end Pf
/-! if and for in the body of a generator def that is drained. -/
namespace Gk
open PySem PySem.Spec PyProof.Rows L2 GenW
section
variable {X : Cx}
def tGIf (c : TT) (t u : TGn) : TGn := fun D ys σ H => c σ H fun b H1 => if b = true then t D ys σ H1 else u D ys σ H1
theorem gs_if {test : Expr} {body orelse : List Stmt} {pos : Pos} {tc : TT} {tb te : TGn} (hc : PT X test tc) (hb : GSs X body tb) (he : GSs X orelse te) : GS X (.If test body orelse pos) (tGIf tc tb te) := by
  refine ⟨fun A S ip R n ys s₀ c fs K J gd lv s σ H D g hn k hI ht => ?_⟩
  rw [exec_If]
  show Seg _ _ _ _ _ s₀ c (.at pos fun _ => ((isTrue test X.env (eval test X.env)) >>= fun b => if b = true then execs body X.env else execs orelse X.env).wrap K J gd lv) fs s
  obtain ⟨acc, cc, r, I⟩ := hI
  refine seg_at (seg_bind_wrap ?_)
  rw [g.over]
  refine wpAny_mono (hc.run _ s σ H _ I ht) (fun b s' hb' => ?_) fun x s' hx => k.exc n s₀ x s' hx
  obtain ⟨H1, I1, q⟩ := hb'
  cases b with
  | true =>
    rw [if_pos rfl] at q
    rw [if_pos rfl]
    exact hb.run A S ip R n ys s₀ c fs K J gd lv s' σ H1 D g hn k ⟨acc, cc, r, I1⟩ q
  | false =>
    rw [if_neg Bool.false_ne_true] at q
    rw [if_neg Bool.false_ne_true]
    exact he.run A S ip R n ys s₀ c fs K J gd lv s' σ H1 D g hn k ⟨acc, cc, r, I1⟩ q
end

/-! ### for -/
section
variable {prog : Program} {w : World} {A : Around} {R : GenEnd} {Y : Protocol} {n : Nat} {s₀ : Shared} {fs : List Frame} {s : Shared} {env : Env}
theorem seg_forLoopX {target : Expr} {it : Value} {body : List Stmt} (J : Value → Sem PySem.Fin) (hJ : ∀ e, J e = (do noteFrame e env; theTreesLotGoes e : Sem Unit).bind fun _ => .raise e)
    (h : wpAny (model prog w) (A.over (.forLoop target it body [] env) fs) (pyNext it) (fun r s1 => match r with
      | none => Seg (model prog w) A R Y n s₀ (.forLoop target it body [] env) (.pure (.again (.block [] env))) fs s1
      | some v => wpAny (model prog w) (A.over (.forLoop target it body [] env) fs) (letOwnedTupleGo target it v) (fun _ s2 => wpAny (model prog w) (A.over (.forLoop target it body [] env) fs) (assign target env v) (fun _ s3 =>
          Seg (model prog w) A R Y n s₀ (.forLoop target it body [] env) ((execs body env).wrap (fun f => match f with
            | .next | .cont => .pure (.again (.forLoop target it body [] env))
            | .brk => .pure (.done .next)
            | .ret v => .pure (.done (.ret v))) J id id) fs s3) (fun x s3 => Seg (model prog w) A R Y n s₀ (.forLoop target it body [] env) (J x) fs s3) s2) (fun _ _ => False) s1) (fun _ _ => False) s) :
    Seg (model prog w) A R Y n s₀ (.forLoop target it body [] env) ((model prog w).den (.forLoop target it body [] env)) fs s := by
  show Seg _ A R Y n s₀ _ ((forTurn target it body [] env).onRaise (fun x => do noteFrame x env; theTreesLotGoes x)) fs s
  rw [Sem.onRaise_eq_wrap]
  unfold forTurn
  refine seg_bind_wrap (wpAny_standAt ?_)
  refine seg_bind_wrap (wpAny_onRaise (wpAny_mono h (fun r s1 h1 => ?_) fun _ _ z => z.elim))
  cases r with
  | none => exact h1
  | some v =>
    dsimp only at h1 ⊢
    refine seg_bind_wrap (wpAny_mono h1 (fun _ s2 h2 => ?_) fun _ _ z => z.elim)
    refine seg_bind_wrap (wpAny_mono h2 (fun _ s3 h3 => ?_) fun x s3 h3 => ?_)
    · rw [Sem.bind_eq_wrap', Sem.wrap_wrap]
      rw [Sem.wrap_congr (execs body env) _ _ (K' := fun f => match f with
              | .next | .cont => .pure (.again (.forLoop target it body [] env))
              | .brk => .pure (.done .next)
              | .ret v => .pure (.done (.ret v))) (H' := J) (fun f => by cases f <;> rfl) (fun e => by rw [hJ]; rfl)]
      exact h3
    · rw [hJ] at h3
      exact h3
end
section
variable {X : Cx}
/-- the generator's place with its loop's iterators pinned -/
theorem gc_pins {S : Addr} {ip pl : List (Addr × Obj)} {A : Around} {c : Code} {fs : List Frame} {gd : Bool → Bool} (g : GC X S ip A c fs gd) (h : ∀ p ∈ pl, p.1 ≠ S) : GC X S (ip ++ pl) A c fs gd where
  pn := g.pn
  ip := fun p hp => by
    rcases List.mem_append.mp hp with hp | hp
    · exact g.ip p hp
    · exact h p hp
  apart := g.apart
  over := g.over
  split := g.split
  guard := g.guard
  gd := g.gd
theorem pinsAt_ne {fp : List Addr} {h : Heap} {S : Addr} (hf : ∀ b ∈ fp, b ≠ S) : ∀ p ∈ pinsAt fp h, p.1 ≠ S := by
  intro p hp
  obtain ⟨b, hb, e⟩ := List.mem_filterMap.mp hp
  cases eo : h.get? b with
  | none => rw [eo] at e; cases e
  | some o => rw [eo] at e; cases e; exact hf b hb
def tGFor (wi : TI) (g : TG) (tb : TGn) : TGn := fun D ys σ H => wi σ H fun J H1 => ∃ W : Nat → Nat → List V → L2.St → Hp → Prop, (∃ m, W 0 m ys σ H1) ∧ ∀ i m ys σ H, W i m ys σ H →
  (J.stop i H ∧ D.nx ys σ H) ∨ (J.go i H ∧ ∃ N : List V → L2.St → Hp → Prop, (∀ ys' σ' H', N ys' σ' H' → ∃ m', m' < m ∧ W (i + 1) m' ys' σ' H') ∧ ∀ x H', J.yld i H x H' → g x σ H' fun σ2 H2 => tb { D with nx := N, ct := N, bk := D.nx } ys σ2 H2)
theorem gs_for {tg iter : Expr} {body : List Stmt} {wi : TI} {g : TG} {tb : TGn} {pos : Pos} (hc : X.calm = true) (hp : PassesOwn (model X.prog X.w) X.A X.env X.xe) (hi : PI X tg iter wi) (hg : PG X tg g) (hb : GSs X body tb)
    (hs : ∀ x, foldedSetIterable iter X.env x = pure x := by intro _; rfl) : GS X (.For tg iter body [] pos) (tGFor wi g tb) := by
  refine ⟨fun A S ip R n ys s₀ c fs K J gd lv s σ H D gc hn k hI ht => ?_⟩
  rw [exec_For]
  show Seg _ _ _ _ _ s₀ c (.at pos fun _ => (eval iter X.env >>= fun v => foldedSetIterable iter X.env v >>= fun x => standAt iter.pos >>= fun _ => holding [x] (pyIter x) >>= fun it => runOwn (.forLoop tg it body [] X.env) X.env).wrap K J gd lv) fs s
  obtain ⟨acc, cc, r, I⟩ := hI
  refine seg_at (seg_bind_wrap ?_)
  rw [gc.over]
  refine wpAny_mono (hi.run _ s σ H _ I ht) (fun v s1 h1 => ?_) fun x s' hx => k.exc n s₀ x s' hx
  refine seg_bind_wrap (wpAny_of_eq (hs v) ?_)
  refine seg_bind_wrap (wpAny_standAt ?_)
  refine seg_bind_wrap (wpAny_holding ?_)
  rw [gc.over]
  refine wpAny_mono h1 (fun itv s2 h2 => ?_) fun x s' hx => k.exc n s₀ x s' hx
  obtain ⟨it, fp, tn, Jt, H2, e, I2, T, st2, f2, W, ⟨m0, w0⟩, turn⟩ := h2
  subst e
  have fne : ∀ b ∈ fp, b ≠ S := fun b hb z => (f2 b hb).2.2.2.2.2 (S, lstObj acc cc) (List.mem_append_right _ List.mem_cons_self) z.symm
  have stat : ∀ {H' : Hp} {acc' : Array Value} {cc' : Nat}, (∀ b ∈ fp, H' b = none) → ∀ b ∈ fp, FpOk X ((S, lstObj acc' cc') :: ip) H' b := fun {H' acc' cc'} hn b hb => by
    obtain ⟨_, q2, q3, q4, q5, q6⟩ := f2 b hb
    refine ⟨hn b hb, q2, q3, q4, q5, fun p hp => ?_⟩
    rcases List.mem_append.mp hp with hp | hp
    · exact q6 p (List.mem_append_left _ hp)
    · rcases List.mem_cons.mp hp with hp | hp
      · rw [hp]; exact Ne.symm (fne b hb)
      · exact q6 p (List.mem_append_right _ (List.mem_cons_of_mem _ hp))
  show Seg _ _ _ _ _ s₀ c (.call (.forLoop tg (.ref it) body [] X.env) none (gd false) (lv []) fun r => ((match r with | .ok f => (.pure f : Sem Flow) | .error e => .raise e).onRaise (L2.cameBack X.env)).wrap K J gd lv) fs s2
  refine seg_call fun p => ?_
  have gl := fun (kk : Result → Sem PySem.Fin) => gc_loop (k := kk) (c' := .forLoop tg (.ref it) body [] X.env) (l := lv []) (kp := []) (p := p) gc rfl rfl
  have ee : ∀ (n : Nat) (s₀ : Shared) (x : Value) (s' : Shared), X.xe x s' → Seg (model X.prog X.w) A R (GY X S) n s₀ (.forLoop tg (.ref it) body [] X.env)
      ((do noteFrame x X.env; theTreesLotGoes x : Sem Unit).bind fun _ => .raise x)
      (.ret (fun r => ((match r with | .ok f => (.pure f : Sem Flow) | .error e => .raise e).onRaise (L2.cameBack X.env)).wrap K J gd lv) none (gd false) (lv []) c p [] :: fs) s' := fun n s₀ x s' hx => by
    rw [Sem.bind_eq_wrap]
    refine seg_wrap ?_
    rw [(gl _).over]
    refine wpAny_bind (wpAny_mono (hp x s' hx) (fun _ s'' hcb => wpAny_theTreesLotGoes ?_) fun y s'' hcb => ?_)
    · exact seg_leaf (.error x) (seg_cameBack gc k hcb)
    · exact seg_leaf (.error y) (seg_cameBack gc k hcb)
  have loop : ∀ (m i n : Nat) (ys : List V) (s₀ s : Shared) (σ : L2.St) (H : Hp), n + ys.length = sizeLine → GI X S ip ys σ H s → tn i s.heap → (∀ b ∈ fp, H b = none) → W i m ys σ H →
      Seg (model X.prog X.w) A R (GY X S) n s₀ (.forLoop tg (.ref it) body [] X.env) ((model X.prog X.w).den (.forLoop tg (.ref it) body [] X.env))
        (.ret (fun r => ((match r with | .ok f => (.pure f : Sem Flow) | .error e => .raise e).onRaise (L2.cameBack X.env)).wrap K J gd lv) none (gd false) (lv []) c p [] :: fs) s := by
    intro m
    induction m using Nat.strongRecOn with
    | ind m ih =>
      intro i n ys s₀ s3 σ3 H3 hn hI3 st3 fr3 w3
      obtain ⟨acc3, cc3, r3, I3⟩ := hI3
      refine seg_forLoopX (fun e => (do noteFrame e X.env; theTreesLotGoes e : Sem Unit).bind fun _ => .raise e) (fun _ => rfl) ?_
      rw [(gl _).over]
      rcases turn i m ys σ3 H3 w3 with ⟨stop, qn⟩ | ⟨go, N, hN, step⟩
      · refine wpAny_mono (T.done X rfl rfl rfl hc i _ s3 σ3 H3 (fun _ _ => False) I3 (stat fr3) st3 stop) (fun r s4 ⟨hr, I4⟩ => ?_) fun _ _ z => z.elim
        subst hr
        dsimp only
        refine seg_again rfl ?_
        exact seg_leaf (.ok .next) (k.ok n ys s₀ s4 .next hn ⟨σ3, H3, ⟨acc3, cc3, r3, I4⟩, qn⟩)
      · refine wpAny_mono (T.item X rfl rfl rfl hc i _ s3 σ3 H3 (fun _ _ => False) I3 (stat fr3) st3 go) (fun r s4 ⟨u, hr, h4⟩ => ?_) fun _ _ z => z.elim
        subst hr
        dsimp only
        refine wpAny_mono h4 (fun _ s5 ⟨x, H5, I5, r5, y5, st5, fr5⟩ => ?_) fun _ _ z => z.elim
        have I5' := I5.pinned (stat fr5) (T.obj _ _ st5)
        refine wpAny_mono (hg.run _ s5 σ3 H5 x u _ I5' r5 (step x H5 y5)) (fun _ s6 ⟨σ6, H6, I6, q6⟩ => ?_) fun x s' hx => ee n s₀ x s' hx
        have again : ∀ {ys' : List V} {s7 : Shared} {σ7 : L2.St} {H7 : Hp}, GI X S (ip ++ pinsAt fp s5.heap) ys' σ7 H7 s7 → N ys' σ7 H7 → ∃ m', m' < m ∧ GI X S ip ys' σ7 H7 s7 ∧ tn (i + 1) s7.heap ∧ (∀ b ∈ fp, H7 b = none) ∧ W (i + 1) m' ys' σ7 H7 := fun {ys' s7 σ7 H7} hI7 n7 => by
          obtain ⟨m', hm, w7⟩ := hN ys' σ7 H7 n7
          obtain ⟨acc7, cc7, r7, I7⟩ := hI7
          have I7' : Inv X (((S, lstObj acc7 cc7) :: ip) ++ pinsAt fp s5.heap) σ7 H7 s7 := I7
          refine ⟨m', hm, ⟨acc7, cc7, r7, I7'.unpinned⟩, T.keep _ _ _ st5 fun b hb o e => (I7'.pin (b, o) (List.mem_append_right _ (List.mem_append_right _ (mem_pinsAt hb e)))).1, fun b hb => ?_, w7⟩
          obtain ⟨o, e, d⟩ := T.obj _ _ st5 b hb
          exact (I7'.pin (b, o) (List.mem_append_right _ (List.mem_append_right _ (mem_pinsAt hb e)))).2.1
        have G6 : GI X S (ip ++ pinsAt fp s5.heap) ys σ6 H6 s6 := ⟨acc3, cc3, r3, I6⟩
        have un : ∀ {ys' : List V} {s7 : Shared} {σ7 : L2.St} {H7 : Hp}, GI X S (ip ++ pinsAt fp s5.heap) ys' σ7 H7 s7 → GI X S ip ys' σ7 H7 s7 := fun {ys' s7 σ7 H7} hI7 => by
          obtain ⟨acc7, cc7, r7, I7⟩ := hI7
          have I7' : Inv X (((S, lstObj acc7 cc7) :: ip) ++ pinsAt fp s5.heap) σ7 H7 s7 := I7
          exact ⟨acc7, cc7, r7, I7'.unpinned⟩
        refine hb.run A S (ip ++ pinsAt fp s5.heap) R n ys s₀ _ _ _ _ id id s6 σ6 H6 { D with nx := N, ct := N, bk := D.nx } (gc_pins (gl _) (pinsAt_ne fne)) hn ⟨fun n' ys' s₀' s7 f hn' hs => ?_, fun n' s₀' x s7 hx => ee n' s₀' x s7 hx⟩ G6 q6
        cases f with
        | next =>
          obtain ⟨σ7, H7, I7, n7⟩ := hs
          obtain ⟨m', hm, J7, st7, fr7, w7⟩ := again I7 n7
          exact seg_again rfl (ih m' hm (i + 1) n' ys' s₀' s7 σ7 H7 hn' J7 st7 fr7 w7)
        | cont =>
          obtain ⟨σ7, H7, I7, n7⟩ := hs
          obtain ⟨m', hm, J7, st7, fr7, w7⟩ := again I7 n7
          exact seg_again rfl (ih m' hm (i + 1) n' ys' s₀' s7 σ7 H7 hn' J7 st7 fr7 w7)
        | brk =>
          obtain ⟨σ7, H7, I7, q7⟩ := hs
          exact seg_leaf (.ok .next) (k.ok n' ys' s₀' s7 .next hn' ⟨σ7, H7, un I7, q7⟩)
        | ret v =>
          obtain ⟨x7, σ7, H7, I7, r7, q7⟩ := hs
          exact seg_leaf (.ok (.ret v)) (k.ok n' ys' s₀' s7 (.ret v) hn' ⟨x7, σ7, H7, un I7, r7, q7⟩)
  exact loop m0 0 n ys s₀ s2 σ H2 hn ⟨acc, cc, r, I2⟩ st2 (fun b hb => (f2 b hb).1) w0
/-- for over lo, lo + 1, .. in a generator that is drained -/
theorem for_rangeG {lo : Int} {n : Nat} {g : TG} {tb : TGn} {D : GEnds} {ys : List V} {σ : L2.St} {H : Hp} (Pv : Nat → List V → L2.St → Hp → Prop) (h0 : Pv 0 ys σ H)
    (hs : ∀ i ys σ H, i < n → Pv i ys σ H → g (.int (lo + i)) σ H fun σ2 H2 => tb { D with nx := Pv (i + 1), ct := Pv (i + 1), bk := D.nx } ys σ2 H2) (hd : ∀ ys σ H, Pv n ys σ H → D.nx ys σ H) :
    ∃ W : Nat → Nat → List V → L2.St → Hp → Prop, (∃ m, W 0 m ys σ H) ∧ ∀ i m ys σ H, W i m ys σ H →
      ((Itr lo n).stop i H ∧ D.nx ys σ H) ∨ ((Itr lo n).go i H ∧ ∃ N : List V → L2.St → Hp → Prop, (∀ ys' σ' H', N ys' σ' H' → ∃ m', m' < m ∧ W (i + 1) m' ys' σ' H') ∧ ∀ x H', (Itr lo n).yld i H x H' → g x σ H' fun σ2 H2 => tb { D with nx := N, ct := N, bk := D.nx } ys σ2 H2) := by
  refine ⟨fun i m ys σ H => m = n - i ∧ i ≤ n ∧ Pv i ys σ H, ⟨n, by simp, Nat.zero_le _, h0⟩, ?_⟩
  rintro i m ys σ H ⟨rfl, hi, p⟩
  by_cases hlt : i < n
  · refine .inr ⟨hlt, Pv (i + 1), fun ys' σ' H' p' => ⟨n - (i + 1), by omega, rfl, hlt, p'⟩, fun x H' y => ?_⟩
    obtain ⟨e, y⟩ := y
    subst e y
    exact hs i ys σ _ hlt p
  · have e : i = n := by omega
    subst e
    exact .inl ⟨Nat.le_refl _, hd ys σ H p⟩
end
end Gk
/-! list(f(..)) of a generator def. -/
namespace Gk
open PySem PySem.Spec PyProof.Rows L2 GenW
/-- the context of the body of a generator def that is drained and raises nothing of its own -/
theorem passes_none {X : Cx} {P : Program} {w : World} : Passes (CX P w) X L2.E0 := fun _ _ _ _ _ _ _ h => by
  obtain ⟨_, _, _, _, _, _, _, _, _, _, _, _, z⟩ := h
  exact z.elim
section
variable {P : Program} {w : World} {K : PySem.W.Frag} {mg : Str → Option Value} {base : Heap}
theorem gG_ok {x qual : Str} {st : Stmt} {f : Addr} {fd : FuncData} {N ps : List Str} {k : Nat} {sp : SpG} (F : L2.Fun K x qual st f fd) (S : GScope N ps (defScope st))
    (len : ∀ vs H Q E, sp vs H Q E → vs.length = ps.length)
    (hbody : ∀ (cdv : Value) (A : Around) (outer : List Env) (s : Shared) (H : Hp) (vs : List V) (Q : List V → Hp → Prop) (E : XK) (pn : List (Addr × Obj)), Room k (A.deeper (envOfC qual (defScope st) s.heap.objs.size f cdv)) → sp vs H Q E →
      ∃ t, GSs (gcxOf P w K mg base N qual (defScope st) f cdv A outer s H E pn) (defBody st) t ∧ t { nx := fun ys _ H' => Q ys H', rt := fun ys v H' => v = .non ∧ Q ys H' } [] (start N vs) H) :
    GFn P w K mg base (k + 1) f fd ps sp := by
  obtain ⟨oc, od, kV, doc, pm, an, cdv, ct, osl, rfl, lk, hcd⟩ := F.ex
  exact gfn_of lk hcd S len fun A outer s H vs Q E pn hr h => hbody cdv A outer s H vs Q E pn hr h
structure Dgn (P : Program) (w : World) (K : PySem.W.Frag) (mg : Str → Option Value) (base : Heap) (k : Nat) (x : Str) (ps : List Str) (sp : SpG) : Prop where
  ex : ∃ (f : Addr) (fd : FuncData), GFn P w K mg base k f fd ps sp ∧ mg x = some (.ref f) ∧ PySem.W.keepIn K (.ref f) = true ∧ Binds K fd ps []
end
section
variable {X : Cx} {k j : Nat} {ps : List Str} {sp : SpG} {x : Str} {p p2 pos pos2 : Pos} {e : Expr} {es : List Expr} {t : TA}
theorem pe_listD (D : Dgn X.prog X.w X.K X.mg X.base k x ps sp) (hr : Room j X.A) (hj : k + 3 ≤ j) (hx : Gl X x) (hg : Gl X "list") (hml : X.mg "list" = none)
    (ha : PA X (e :: es) t) (hdb : (x == ("__debug__" : Str)) = false := by decide) (he : starEach (e :: es) X.env = (false, eval e X.env) :: starEach es X.env := by rfl) (hpl : (backTo pos (starEach es X.env)).any (·.1) = false := by rfl)
    (he2 : starEach [.Call (.Name x p) (e :: es) [] pos] X.env = (false, eval (.Call (.Name x p) (e :: es) [] pos) X.env) :: starEach [] X.env := by rfl) :
    PE X (.Call (.Name "list" p2) [.Call (.Name x p) (e :: es) [] pos] [] pos2) (tListG (tCallG sp [] L2.E0 t)) := by
  obtain ⟨f, fd, F, hm, hk, hb⟩ := D.ex
  exact pe_listG (pgen_call F (hr.mono (by omega)) hx hm hk hb .nil ha hdb he hpl) passes_none (fun _ _ _ z => z.elim) (hr.mono hj) hg hml (by rfl) (by decide) (by decide) he2
end
end Gk
namespace Pf
open PySem PySem.Spec PyProof.Rows L2 Gk
section
variable {P : Program} {w : World} {K : PySem.W.Frag} {mg : Str → Option Value} {base : Heap}
/-- all clashes, drained -/
def spClashG (K : PySem.W.Frag) : SpG := fun vs H Q _ => ∃ (t c : Addr) (l : List (Int × Int)) (k : Str) (z : Int) (x : Option Int), vs = [.ref t, .ref c] ∧ PairsAt K H t l ∧ Fair l ∧ 1 ≤ l.length ∧ l.length ≤ 64 ∧ SqT K H c (planV k z x) ∧ PlanOk k z x ∧
  ∀ H' ys, Same H H' → DpAll K H' ys ((clashL l k z x).map pd) → Q ys H'
theorem gn_clash {f : Addr} {fd : FuncData} (DS : Dfn P w K mg base 5 "steady_cells" ["trace", "scheme"] (spSCells K)) (ml : mg "len" = none) (mr : mg "range" = none)
    (F : L2.Fun K "clashes" "clashes" sClash f fd) : GFn P w K mg base 6 f fd ["trace", "scheme"] (spClashG K) := by
  refine gG_ok F gcClash (fun vs H Q E h => ?_) (fun cdv A outer s H vs Q E pn hr h => ?_)
  · obtain ⟨t, c, l, k, z, x, rfl, _⟩ := h
    rfl
  · obtain ⟨t, c, l, k, z, x, rfl, hl, fair, l1, l64, hc, ok, q⟩ := h
    obtain ⟨xst, sqt, hAt, lt⟩ := PairsAt.out hl
    refine ⟨_, gss_cons (gs_ps (ps_set (i := 2) gcClash.nd rfl (.inl rfl) (pe_d DS hr (by decide) (by rfl) (pa_cons (pv 0) (pa_cons (pv 1) pa_nil)))))
      (gss_cons (gs_for rfl (passes_of rfl) (pi_range1 rfl mr (pa_cons (pe_callB call_len_seq (by rfl) ml PySem.boot_len (pa_cons (pv 0) pa_nil)) pa_nil)) (pg_name (i := 3) gcClash.nd rfl (.inl rfl))
        (gss_cons (gs_for rfl (passes_of rfl) (pi_range2 rfl mr (pa_cons (pe_op op_add (pv 3) pe_int) (pa_cons (pe_callB call_len_seq (by rfl) ml PySem.boot_len (pa_cons (pv 0) pa_nil)) pa_nil))) (pg_name (i := 4) gcClash.nd rfl (.inl rfl))
          (gss_cons (gs_if (pt_mid (PW.pt (pw_and (pt_cmpR (op_eqD hr.units) (pe_ix ix_tup (pv 2) (pv 3) (fun _ _ => rfl)) (pe_ix ix_tup (pv 2) (pv 4) (fun _ _ => rfl)) (nomark _))
              (pw_and1 (pt_cmpR op_ne (pe_ix ix_tup (pe_ix ix_tup (pv 0) (pv 3) (fun _ _ => rfl)) pe_int (fun _ _ => rfl)) (pe_ix ix_tup (pe_ix ix_tup (pv 0) (pv 4) (fun _ _ => rfl)) pe_int (fun _ _ => rfl)) (nomark _))))))
            (gss_cons (gs_yield (pe_tup (pa_cons (pv 3) (pa_cons (pv 4) pa_nil)))) gss_nil) gss_nil) gss_nil)) gss_nil)) gss_nil), ?_⟩
    refine ⟨.ref t, rfl, .ref c, rfl, t, c, l, k, z, x, rfl, hl, fair, l1, l64, hc, ok, fun G1 c1 as1 s1 sqA dpA => ?_⟩
    refine ⟨.ref t, rfl, t, _, rfl, .inr (Same.seqT s1 sqt), _, rfl, by omega, by omega, for_rangeG (lo := 0) (n := ((xst.length : Nat) : Int).toNat)
        (fun i ys σ H' => (∃ y3 y4, σ = [some (.ref t), some (.ref c), some (.ref c1), y3, y4]) ∧ Same G1 H' ∧ DpAll K H' ys ((allP (clashP l k z x) l.length i).map pd)) ⟨⟨none, none, rfl⟩, Same.refl _, .nil⟩ (fun i ys σ H4 hi hp => ?_) (fun ys σ H4 hp => ?_)⟩
    · obtain ⟨⟨y3, y4, rfl⟩, sm, dps⟩ := hp
      have hil : i < l.length := by omega
      generalize hv : (0 : Int) + (i : Nat) = v
      obtain rfl : v = ((i : Nat) : Int) := by omega
      have sC := s1.trans sm
      refine ⟨.int ((i : Nat) : Int), rfl, _, _, rfl, rfl, .ref t, rfl, t, _, rfl, .inr (Same.seqT sC sqt), _, _, rfl, ⟨by omega, by omega, by omega, by omega⟩, for_rangeG (lo := ((i : Nat) : Int) + 1) (n := (((xst.length : Nat) : Int) - (((i : Nat) : Int) + 1)).toNat)
        (fun j ys σ H' => (∃ y4, σ = [some (.ref t), some (.ref c), some (.ref c1), some (.int ((i : Nat) : Int)), y4]) ∧ Same G1 H' ∧ DpAll K H' ys ((allP (clashP l k z x) l.length i ++ rowP (clashP l k z x) i j).map pd)) ⟨⟨_, rfl⟩, sm, by rw [rowP, List.append_nil]; exact dps⟩ (fun j ys5 σ H5 hj hp => ?_) (fun ys5 σ H5 hp => ?_)⟩
      · obtain ⟨⟨y4, rfl⟩, sm5, dp5⟩ := hp
        generalize hw : ((i : Nat) : Int) + 1 + ((j : Nat) : Int) = u
        obtain rfl : u = ((i + 1 + j : Nat) : Int) := by omega
        have hjl : i + 1 + j < l.length := by omega
        have sq5 := Same.seqT (s1.trans sm5) sqt
        have hA5 := pairs_keep hAt (Same.keep (s1.trans sm5))
        have dc := cells_keep dpA (Same.keep sm5)
        obtain ⟨v1, g1, e1⟩ := cells_at dc hil
        obtain ⟨v2, g2, e2⟩ := cells_at dc hjl
        obtain ⟨a3, b3, g3, e3⟩ := out_at hA5 hil
        obtain ⟨a4, b4, g4, e4⟩ := out_at hA5 hjl
        refine ⟨fun b G => G = H5 ∧ b = clashP l k z x i (i + 1 + j), ?_, fun b G hb => ?_⟩
        · refine ⟨.ref c1, rfl, .int ((i : Nat) : Int), rfl, c1, as1, _, v1, rfl, rfl, Same.seqT sm5 sqA, atI_of g1, .ref c1, rfl, .int ((i + 1 + j : Nat) : Int), rfl, c1, as1, _, v2, rfl, rfl, Same.seqT sm5 sqA, atI_of g2, _, _, e1, e2, cl_shaped fair l1 ok _, cl_shaped fair l1 ok _, _, rfl, ite2 (fun a => ?_) (fun a => ?_)⟩
          · refine ⟨.ref t, rfl, .int ((i : Nat) : Int), rfl, t, xst, _, .ref a3, rfl, rfl, sq5, atI_of g3, a3, _, 1, .int (outAt l i), rfl, rfl, e3, rfl, .ref t, rfl, .int ((i + 1 + j : Nat) : Int), rfl, t, xst, _, .ref a4, rfl, rfl, sq5, atI_of g4, a4, _, 1, .int (outAt l (i + 1 + j)), rfl, rfl, e4, rfl, rfl, _, rfl, rfl, ?_⟩
            unfold clashP
            rw [a, Bool.true_and]
            congr 1
            rw [Bool.eq_iff_iff, decide_eq_true_eq, decide_eq_true_eq]
            exact ⟨fun z => V.int.inj z, fun z => by rw [z]⟩
          · refine ⟨rfl, ?_⟩
            unfold clashP
            rw [Bool.eq_false_iff.mpr a, Bool.false_and]
        · obtain ⟨rfl, rfl⟩ := hb
          refine ite2 (fun a => ?_) (fun a => ?_)
          · refine ⟨?_, .int ((i : Nat) : Int), rfl, .int ((i + 1 + j : Nat) : Int), rfl, by show 2 ≤ sizeLine; decide, fun T nT => ⟨⟨_, rfl⟩, sm5.trans (same_new nT), ?_⟩⟩
            · have e1 := lc_len dp5
              rw [List.length_append] at e1
              have e2 := allP_len (clashP l k z x) l.length i
              have e3 := rowP_len (clashP l k z x) i j
              have e4 : i * l.length ≤ 64 * 64 := Nat.mul_le_mul (by omega) l64
              have e5 : 64 * 64 + 64 < sizeLine := by decide
              omega
            · rw [rowP, if_pos a, ← List.append_assoc, List.map_append]
              exact DpAll.app (pairs_keep dp5 (Same.keep (same_new nT))) (.cons (dp2 (.inl (.inl upd_same))) .nil)
          · refine ⟨⟨_, rfl⟩, sm5, ?_⟩
            rw [rowP, if_neg a, List.append_nil]
            exact dp5
      · obtain ⟨⟨y4, rfl⟩, sm5, dp5⟩ := hp
        refine ⟨⟨_, _, rfl⟩, sm5, ?_⟩
        rw [show (((xst.length : Nat) : Int) - (((i : Nat) : Int) + 1)).toNat = l.length - (i + 1) by omega] at dp5
        rw [allP]
        exact dp5
    · obtain ⟨⟨y3, y4, rfl⟩, sm, dps⟩ := hp
      rw [show ((xst.length : Nat) : Int).toNat = l.length by omega] at dps
      exact q _ _ (s1.trans sm) dps
end
end Pf
namespace Pf
open PySem PySem.Spec PyProof.Rows L2 Gk Fold
/-! ### the four other traces -/
theorem strm_some {α : Type} {l : List α} (h1 : 1 ≤ l.length) (m : Nat) : ∃ p ∈ l, strm l m = some p := by
  have h : m % l.length < l.length := Nat.mod_lt _ h1
  exact ⟨l[m % l.length], List.getElem_mem h, List.getElem?_eq_getElem h⟩
theorem rot_mem {α : Type} {l : List α} {r : Nat} {p : α} (h : p ∈ rot l r) : p ∈ l := by
  rcases List.mem_append.mp h with h | h
  · exact List.mem_of_mem_drop h
  · exact List.mem_of_mem_take h
theorem fair_rot {l : List (Int × Int)} (fair : Fair l) (r : Nat) : Fair (rot l r) := fun x hx => fair x (rot_mem hx)
theorem fair_two {l : List (Int × Int)} (fair : Fair l) : Fair (l ++ l) := fun x hx => (List.mem_append.mp hx).elim (fair x) (fair x)
theorem like_rot {l : List (Int × Int)} {r : Nat} (hr : r < l.length) : Like l (rot l r) 0 r id := by
  have b : ∀ i, brAt (rot l r) (0 + i) = brAt l (r + i) := fun i => by rw [br_strm, br_strm, strm_rot hr, Nat.zero_add, Nat.add_comm]
  have o : ∀ i, outM (rot l r) (0 + i) = outM l (r + i) := fun i => by rw [out_strm, out_strm, strm_rot hr, Nat.zero_add, Nat.add_comm]
  exact ⟨fun i j => by rw [b, b], fun j => by rw [o]; rfl, fun _ _ e => e⟩
theorem like_two {l : List (Int × Int)} (h1 : 1 ≤ l.length) : Like l (l ++ l) 0 0 id := by
  have b : ∀ i, brAt (l ++ l) i = brAt l i := fun i => by rw [br_strm, br_strm, strm_two h1]
  have o : ∀ i, outM (l ++ l) i = outM l i := fun i => by rw [out_strm, out_strm, strm_two h1]
  exact ⟨fun i j => by rw [b, b], fun j => by rw [o]; rfl, fun _ _ e => e⟩
theorem like_named {l : List (Int × Int)} (h1 : 1 ≤ l.length) {φ : Int → Int} (inj : ∀ p ∈ l, ∀ q ∈ l, φ p.1 = φ q.1 → p.1 = q.1) : Like l (l.map fun p => (φ p.1, p.2)) 0 0 id := by
  have b : ∀ i, ∃ p ∈ l, brAt (l.map fun p => (φ p.1, p.2)) i = φ p.1 ∧ brAt l i = p.1 := fun i => by
    obtain ⟨p, hp, e⟩ := strm_some h1 i
    exact ⟨p, hp, by rw [br_strm, strm_map, e]; rfl, by rw [br_strm, e]; rfl⟩
  have o : ∀ i, outM (l.map fun p => (φ p.1, p.2)) i = outM l i := fun i => by
    obtain ⟨p, hp, e⟩ := strm_some h1 i
    rw [out_strm, out_strm, strm_map, e]
    rfl
  refine ⟨fun i j => ?_, fun j => by rw [o]; rfl, fun _ _ e => e⟩
  obtain ⟨p, hp, p1, p2⟩ := b (0 + i)
  obtain ⟨q, hq, q1, q2⟩ := b (0 + j)
  rw [p1, p2, q1, q2]
  exact ⟨inj p hp q hq, fun e => by rw [e]⟩
theorem like_flip {l : List (Int × Int)} (fair : Fair l) (h1 : 1 ≤ l.length) : Like l (l.map fun p => (p.1, 1 - p.2)) 0 0 not := by
  have b : ∀ i, brAt (l.map fun p => (p.1, 1 - p.2)) i = brAt l i := fun i => by
    obtain ⟨p, hp, e⟩ := strm_some h1 i
    rw [br_strm, br_strm, strm_map, e]
    rfl
  have o : ∀ i, outM (l.map fun p => (p.1, 1 - p.2)) i = 1 - outM l i := fun i => by
    obtain ⟨p, hp, e⟩ := strm_some h1 i
    rw [out_strm, out_strm, strm_map, e]
    rfl
  refine ⟨fun i j => by rw [b, b], fun j => ?_, fun u v e => Bool.not_inj e⟩
  rw [o]
  rcases outM_bit fair h1 (0 + j) with e | e <;> rw [e] <;> rfl
theorem fair_flip {l : List (Int × Int)} (fair : Fair l) : Fair (l.map fun p => (p.1, 1 - p.2)) := fun x hx => by
  obtain ⟨p, hp, rfl⟩ := List.mem_map.mp hx
  obtain ⟨a, b⟩ := fair p hp
  refine ⟨a, ?_⟩
  show 1 - p.2 = 0 ∨ 1 - p.2 = 1
  omega
theorem fair_named {l : List (Int × Int)} (fair : Fair l) {φ : Int → Int} (h : ∀ p ∈ l, 0 ≤ φ p.1 ∧ φ p.1 ≤ 7) : Fair (l.map fun p => (φ p.1, p.2)) := fun x hx => by
  obtain ⟨p, hp, rfl⟩ := List.mem_map.mp hx
  exact ⟨h p hp, (fair p hp).2⟩
/-! ### clashes of the turned trace -/
theorem sK_rot {l : List (Int × Int)} (fair : Fair l) (h1 : 1 ≤ l.length) (h2 : l.length ≤ 64) {r : Nat} (hr : r < l.length) {k : Str} {x : Option Int} {L : Nat} (i : Nat) : sK (rot l r) k x L i = sK l k x L ((i + r) % l.length) := by
  have len := rot_len (l := l) (r := r) (by omega)
  have lk := like_rot hr
  rw [← cM_steady (l := rot l r) (fair_rot fair r) (by omega) (by omega) (Nat.le_refl L) i, len]
  have m := cM_at fair h1 h2 (k := k) (x := x) (L := L) (m := r + (L * l.length + i)) (by omega)
  rw [show r + (L * l.length + i) = i + r + L * l.length by omega, Nat.add_mul_mod_self_right] at m
  rw [← m]
  have e := at_like (k := k) (L := L) h1 (lk.own k) lk.out (m := L * l.length + i) (by omega)
  rw [List.map_id, Nat.zero_add] at e
  unfold cM
  rw [e, show i + r + L * l.length = r + (L * l.length + i) by omega, br_strm, br_strm, strm_rot hr, show L * l.length + i + r = r + (L * l.length + i) by omega]
theorem outAt_rot {l : List (Int × Int)} {r : Nat} (hr : r < l.length) {i : Nat} (hi : i < l.length) : outAt (rot l r) i = outAt l ((i + r) % l.length) := by
  have len := rot_len (l := l) (r := r) (by omega)
  have e1 : outAt (rot l r) i = outM (rot l r) i := by rw [out_at_mod, len, Nat.mod_eq_of_lt hi]
  rw [e1, ← out_at_mod, out_strm, out_strm, strm_rot hr]
theorem clashP_rot {l : List (Int × Int)} (fair : Fair l) (h1 : 1 ≤ l.length) (h2 : l.length ≤ 64) {r : Nat} (hr : r < l.length) {k : Str} {z : Int} {x : Option Int} {i j : Nat} (hi : i < l.length) (hj : j < l.length) :
    clashP (rot l r) k z x i j = clashP l k z x ((i + r) % l.length) ((j + r) % l.length) := by
  unfold clashP
  rw [sK_cl, sK_cl, sK_rot fair h1 h2 hr, sK_rot fair h1 h2 hr, outAt_rot hr hi, outAt_rot hr hj]
theorem clashP_sym {l : List (Int × Int)} {k : Str} {z : Int} {x : Option Int} (i j : Nat) : clashP l k z x i j = clashP l k z x j i := by
  unfold clashP
  rw [sK_cl, sK_cl]
  congr 1
  · exact decide_eq_decide.mpr ⟨fun e => e.symm, fun e => e.symm⟩
  · congr 1
    exact decide_eq_decide.mpr ⟨fun e => e.symm, fun e => e.symm⟩
/-- pairs in their order -/
def LtP (p q : Int × Int) : Prop := p.1 < q.1 ∨ (p.1 = q.1 ∧ p.2 < q.2)
theorem rowP_pw (p : Nat → Nat → Bool) (i : Nat) : ∀ m, (rowP p i m).Pairwise LtP
  | 0 => .nil
  | m + 1 => by
    unfold rowP
    refine List.pairwise_append.mpr ⟨rowP_pw p i m, ?_, fun u hu v hv => ?_⟩
    · split
      · exact List.pairwise_singleton _ _
      · exact .nil
    · obtain ⟨a, b, rfl, ha, _, hb, _⟩ := rowP_in hu
      split at hv
      · rw [List.mem_singleton.mp hv]
        refine .inr ⟨by show (a : Int) = (i : Int); rw [ha], ?_⟩
        show (b : Int) < ((i + 1 + m : Nat) : Int)
        omega
      · exact (nomatch hv)
theorem allP_lt {p : Nat → Nat → Bool} {n : Nat} : ∀ {i : Nat} {x : Int × Int}, x ∈ allP p n i → x.1 < (i : Nat)
  | 0, _, h => (nomatch h)
  | i + 1, x, h => by
    unfold allP at h
    rcases List.mem_append.mp h with h | h
    · have := allP_lt h
      omega
    · obtain ⟨a, b, rfl, ha, _⟩ := rowP_in h
      show (a : Int) < _
      omega
theorem allP_pw (p : Nat → Nat → Bool) (n : Nat) : ∀ i, (allP p n i).Pairwise LtP
  | 0 => .nil
  | i + 1 => by
    unfold allP
    refine List.pairwise_append.mpr ⟨allP_pw p n i, rowP_pw p i _, fun u hu v hv => .inl ?_⟩
    have := allP_lt hu
    obtain ⟨a, b, rfl, ha, _⟩ := rowP_in hv
    show u.1 < (a : Int)
    omega
theorem ltP_ne {ps : List (Int × Int)} (h : ps.Pairwise LtP) : ps.Nodup := h.imp fun {a b} c e => by
  subst e
  unfold LtP at c
  omega
theorem lt_one : ∀ {ps qs : List (Int × Int)}, ps.Perm qs → ps.Pairwise (fun a b => ¬ LtP b a) → qs.Pairwise LtP → ps = qs
  | [], qs, h, _, _ => (List.Perm.nil_eq h)
  | p :: ps, [], h, _, _ => by
    have := h.length_eq
    cases this
  | p :: ps, q :: qs, h, hp, hq => by
    obtain ⟨p1, p2⟩ := List.pairwise_cons.mp hp
    obtain ⟨q1, q2⟩ := List.pairwise_cons.mp hq
    have e : p = q := by
      rcases List.mem_cons.mp (h.mem_iff.mp List.mem_cons_self) with e | e
      · exact e
      · rcases List.mem_cons.mp (h.mem_iff.mpr List.mem_cons_self) with g | g
        · exact g.symm
        · exact absurd (q1 _ e) (p1 _ g)
    subst e
    rw [lt_one h.cons_inv p2 q2]
theorem clashL_mem {l : List (Int × Int)} {k : Str} {z : Int} {x : Option Int} {p : Int × Int} : p ∈ clashL l k z x ↔ ∃ a b : Nat, p = ((a : Int), (b : Int)) ∧ a < b ∧ b < l.length ∧ clashP l k z x a b = true :=
  ⟨fun h => allP_in (Nat.le_refl _) h, fun ⟨a, b, e, h1, h2, h3⟩ => by rw [e]; exact allP_has (by omega) h1 h2 h3⟩
/-- where a position stands in the turned trace -/
def sg (n r a : Nat) : Nat := if r ≤ a then a - r else a + n - r
theorem sg_lt {n r a : Nat} (hr : r < n) (ha : a < n) : sg n r a < n := by
  unfold sg
  split <;> omega
theorem sg_back {n r a : Nat} (hr : r < n) (ha : a < n) : (sg n r a + r) % n = a := by
  unfold sg
  split
  · rw [Nat.mod_eq_of_lt (by omega)]; omega
  · rw [Nat.mod_eq_sub_mod (by omega), Nat.mod_eq_of_lt (by omega)]; omega
theorem sg_inj {n r a b : Nat} (hr : r < n) (ha : a < n) (hb : b < n) (e : sg n r a = sg n r b) : a = b := by
  rw [← sg_back hr ha, e, sg_back hr hb]
theorem sg_on {n r i : Nat} (hr : r < n) (hi : i < n) : sg n r ((i + r) % n) = i := by
  have h : (i + r) % n < n := Nat.mod_lt _ (by omega)
  by_cases c : i + r < n
  · rw [Nat.mod_eq_of_lt c]
    unfold sg
    rw [if_pos (by omega)]
    omega
  · rw [Nat.mod_eq_sub_mod (by omega), Nat.mod_eq_of_lt (by omega)]
    unfold sg
    rw [if_neg (by omega)]
    omega
theorem sg_int {n : Nat} (h1 : 1 ≤ n) {d : Int} {a : Nat} (ha : a < n) : ((a : Int) - d) % (n : Int) = ((sg n (d % (n : Int)).toNat a : Nat) : Int) := by
  have m0 : 0 ≤ d % (n : Int) := Int.emod_nonneg _ (by omega)
  have m1 : d % (n : Int) < n := Int.emod_lt_of_pos _ (by omega)
  have dm := Int.mul_ediv_add_emod d (n : Int)
  generalize hr : (d % (n : Int)).toNat = r
  have er : d % (n : Int) = (r : Int) := by omega
  rw [er] at dm m1
  have e : (a : Int) - d = ((sg n r a : Nat) : Int) + (n : Int) * (if r ≤ a then -(d / (n : Int)) else -(d / (n : Int)) - 1) := by
    unfold sg
    by_cases c : r ≤ a
    · rw [if_pos c, if_pos c, Int.mul_neg]
      omega
    · rw [if_neg c, if_neg c, Int.mul_sub, Int.mul_neg, Int.mul_one]
      omega
  rw [e, Int.add_mul_emod_self_left, Int.emod_eq_of_lt (by omega) (by have := sg_lt (n := n) (r := r) (a := a) (by omega) ha; omega)]
def ordP (a b : Int) : Int × Int := if a ≤ b then (a, b) else (b, a)
def shP (d n : Int) (p : Int × Int) : Int × Int := ordP ((p.1 - d) % n) ((p.2 - d) % n)
theorem ordP_eq {a b c d : Int} (h : ordP a b = ordP c d) : (a = c ∧ b = d) ∨ (a = d ∧ b = c) := by
  unfold ordP at h
  split at h <;> split at h <;> (have h1 := congrArg Prod.fst h; have h2 := congrArg Prod.snd h; dsimp only at h1 h2; omega)
theorem shift_perm {l : List (Int × Int)} (fair : Fair l) (h1 : 1 ≤ l.length) (h2 : l.length ≤ 64) {k : Str} {z : Int} {x : Option Int} (d : Int) :
    ((clashL l k z x).map (shP d (l.length : Nat))).Perm (clashL (rot l (d % (l.length : Nat)).toNat) k z x) := by
  have m0 : 0 ≤ d % (l.length : Int) := Int.emod_nonneg _ (by omega)
  have m1 : d % (l.length : Int) < l.length := Int.emod_lt_of_pos _ (by omega)
  have key : ∀ a, a < l.length → ((a : Int) - d) % (l.length : Int) = ((sg l.length (d % (l.length : Int)).toNat a : Nat) : Int) := fun a ha => sg_int h1 ha
  generalize hr : (d % (l.length : Int)).toNat = r at key
  have hrn : r < l.length := by omega
  have len := rot_len (l := l) (r := r) (by omega)
  have sh : ∀ a b : Nat, a < l.length → b < l.length → shP d (l.length : Nat) ((a : Int), (b : Int)) = ordP ((sg l.length r a : Nat) : Int) ((sg l.length r b : Nat) : Int) := fun a b ha hb => by
    unfold shP
    rw [show (((a : Nat) : Int), ((b : Nat) : Int)).1 = (a : Int) from rfl, show (((a : Nat) : Int), ((b : Nat) : Int)).2 = (b : Int) from rfl, key a ha, key b hb]
  have nd1 : ((clashL l k z x).map (shP d (l.length : Nat))).Nodup := by
    have pw := allP_pw (clashP l k z x) l.length l.length
    refine List.pairwise_map.mpr (List.Pairwise.imp_of_mem (fun {p q} hp hq lt e => ?_) pw)
    obtain ⟨a, b, rfl, ab, bn, _⟩ := clashL_mem.mp hp
    obtain ⟨a', b', rfl, ab', bn', _⟩ := clashL_mem.mp hq
    rw [sh a b (by omega) bn, sh a' b' (by omega) bn'] at e
    unfold LtP at lt
    dsimp only at lt
    rcases ordP_eq e with ⟨e1, e2⟩ | ⟨e1, e2⟩
    · have := sg_inj hrn (show a < l.length by omega) (show a' < l.length by omega) (by omega)
      have := sg_inj hrn bn bn' (by omega)
      omega
    · have := sg_inj hrn (show a < l.length by omega) bn' (by omega)
      have := sg_inj hrn bn (show a' < l.length by omega) (by omega)
      omega
  refine (List.perm_ext_iff_of_nodup nd1 (ltP_ne (allP_pw _ _ _))).mpr fun p => ⟨fun hp => ?_, fun hp => ?_⟩
  · obtain ⟨q, hq, rfl⟩ := List.mem_map.mp hp
    obtain ⟨a, b, rfl, ab, bn, cp⟩ := clashL_mem.mp hq
    rw [sh a b (by omega) bn]
    have la := sg_lt hrn (show a < l.length by omega)
    have lb := sg_lt hrn bn
    have ne : sg l.length r a ≠ sg l.length r b := fun e => by
      have := sg_inj hrn (show a < l.length by omega) bn e
      omega
    have c1 := clashP_rot fair h1 h2 hrn (k := k) (z := z) (x := x) la lb
    rw [sg_back hrn (by omega), sg_back hrn bn] at c1
    unfold ordP
    split
    · exact clashL_mem.mpr ⟨_, _, rfl, by omega, by omega, by rw [c1]; exact cp⟩
    · exact clashL_mem.mpr ⟨_, _, rfl, by omega, by omega, by rw [clashP_sym, c1]; exact cp⟩
  · obtain ⟨i, j, rfl, ij, jn, cp⟩ := clashL_mem.mp hp
    rw [len] at jn
    rw [clashP_rot fair h1 h2 hrn (by omega) jn] at cp
    have li : (i + r) % l.length < l.length := Nat.mod_lt _ h1
    have lj : (j + r) % l.length < l.length := Nat.mod_lt _ h1
    have bi := sg_on hrn (show i < l.length by omega)
    have bj := sg_on hrn jn
    rcases Nat.lt_trichotomy ((i + r) % l.length) ((j + r) % l.length) with c | c | c
    · refine List.mem_map.mpr ⟨_, clashL_mem.mpr ⟨_, _, rfl, c, lj, cp⟩, ?_⟩
      rw [sh _ _ li lj, bi, bj]
      unfold ordP
      rw [if_pos (by omega)]
    · rw [c] at bi
      omega
    · refine List.mem_map.mpr ⟨_, clashL_mem.mpr ⟨_, _, rfl, c, li, by rw [clashP_sym]; exact cp⟩, ?_⟩
      rw [sh _ _ lj li, bi, bj]
      unfold ordP
      rw [if_neg (by omega)]
/-! ### the cells of a trace that is written twice -/
theorem cl_two {l : List (Int × Int)} (fair : Fair l) (h1 : 1 ≤ l.length) (h2 : l.length ≤ 64) {k : Str} {z : Int} {x : Option Int} (i : Nat) : cl (l ++ l) k z x i = cl l k z x (i % l.length) := by
  have lk := like_two h1
  have len : (l ++ l).length = 2 * l.length := by rw [List.length_append]; omega
  have hb : brAt (l ++ l) i = brAt l (i % l.length) := by rw [brAt_at, br_strm, br_strm, strm_two h1]
  unfold cl
  rw [hb]
  congr 1
  have dm := Nat.div_add_mod i l.length
  have e1 : hR (l ++ l) k z.toNat z.toNat i = hAtM (l ++ l) k z.toNat (z.toNat * (2 * l.length) + i) := by
    rw [hAtM_hist (by omega)]
    unfold hR
    rw [len]
  have e2 := at_like (k := k) (L := z.toNat) h1 (lk.own k) lk.out (m := z.toNat * (2 * l.length) + i) (by
    have : z.toNat * (2 * l.length) = z.toNat * l.length + z.toNat * l.length := by rw [Nat.mul_left_comm]; omega
    omega)
  rw [List.map_id, Nat.zero_add] at e2
  have e3 : z.toNat * (2 * l.length) + i = (2 * z.toNat + i / l.length) * l.length + i % l.length := by
    have t : z.toNat * (2 * l.length) = 2 * z.toNat * l.length := by rw [Nat.mul_left_comm, Nat.mul_assoc]
    rw [t, Nat.add_mul, Nat.mul_comm (i / l.length), Nat.add_assoc, dm]
  rw [e1, e2, e3, hAtM_hist h1]
  exact hR_late fair h1 h2 k (Nat.le_trans (show z.toNat ≤ 2 * z.toNat by omega) (Nat.le_add_right _ _)) _
theorem cells_two {l : List (Int × Int)} (fair : Fair l) (h1 : 1 ≤ l.length) (h2 : l.length ≤ 64) {k : Str} {z : Int} {x : Option Int} : cellsD (l ++ l) k z x (l ++ l).length = cellsD l k z x l.length ++ cellsD l k z x l.length := by
  rw [cellsD_cl, cellsD_cl, List.length_append, List.range_add, List.map_append, List.map_map]
  congr 1
  · refine List.map_congr_left fun i hi => ?_
    rw [cl_two fair h1 h2, Nat.mod_eq_of_lt (List.mem_range.mp hi)]
  · refine List.map_congr_left fun i hi => ?_
    show cl (l ++ l) k z x (l.length + i) = _
    rw [cl_two fair h1 h2, Nat.add_mod_left, Nat.mod_eq_of_lt (List.mem_range.mp hi)]
end Pf
namespace Pf
open PySem PySem.Spec PyProof.Rows L2 Gk
abbrev nClg : List Str := ["_law_loop_here", "_law_cells", "_law_found", "_law_at", "_law_mine", "_law_rest", "_law_to"]
theorem op_eqDK {X : Cx} (K : PySem.W.Frag) (hu : X.A.units + 64 < cLine) (h : X.K = K := by rfl) : OpR X (compareOp .Eq) (rEqD K) := by
  subst h
  exact op_eqD hu
/-- the later positions with the same cell -/
def restN (l : List (Int × Int)) (k : Str) (z : Int) (x : Option Int) (i : Nat) : Nat → List Nat
  | 0 => []
  | m + 1 => restN l k z x i m ++ (if PyData.eqv (cl l k z x (i + 1 + m)) (cl l k z x i) = true then [i + 1 + m] else [])
theorem restN_len (l : List (Int × Int)) (k : Str) (z : Int) (x : Option Int) (i : Nat) : ∀ m, (restN l k z x i m).length ≤ m
  | 0 => Nat.le_refl _
  | m + 1 => by
    have := restN_len l k z x i m
    unfold restN
    rw [List.length_append]
    split
    · show _ + 1 ≤ m + 1
      omega
    · show _ + 0 ≤ m + 1
      omega
theorem restN_in {l : List (Int × Int)} {k : Str} {z : Int} {x : Option Int} {i j : Nat} : ∀ {m : Nat}, j ∈ restN l k z x i m → i < j ∧ j < i + 1 + m
  | 0, h => (nomatch h)
  | m + 1, h => by
    unfold restN at h
    rcases List.mem_append.mp h with h | h
    · have := restN_in h
      omega
    · split at h
      · rw [List.mem_singleton.mp h]
        omega
      · exact (nomatch h)
def sepL (l : List (Int × Int)) (i : Nat) (js : List Nat) : List (Int × Int) := (js.filter fun j => !decide (outAt l i = outAt l j)).map fun j => (((i : Nat) : Int), ((j : Nat) : Int))
theorem sepL_row (l : List (Int × Int)) (k : Str) (z : Int) (x : Option Int) (i : Nat) : ∀ m, sepL l i (restN l k z x i m) = rowP (clashP l k z x) i m
  | 0 => rfl
  | m + 1 => by
    have h := sepL_row l k z x i m
    unfold sepL at h
    unfold sepL restN rowP
    rw [List.filter_append, List.map_append, h]
    congr 1
    rw [PySem.W.eqv_comm]
    unfold clashP
    by_cases c1 : PyData.eqv (cl l k z x i) (cl l k z x (i + 1 + m)) = true
    · rw [if_pos c1, c1, Bool.true_and]
      by_cases c2 : outAt l i = outAt l (i + 1 + m)
      · simp [c2]
      · simp [c2]
    · rw [if_neg c1, Bool.eq_false_iff.mpr c1, Bool.false_and]
      rfl
section
variable {P : Program} {w : World} {K : PySem.W.Frag} {mg : Str → Option Value} {base : Heap}
def spClg (K : PySem.W.Frag) : Sp := fun vs H Q _ => ∃ (t c : Addr) (l : List (Int × Int)) (k : Str) (z : Int) (x : Option Int) (cs : List V), vs = [.ref t, .ref c] ∧ PairsAt K H t l ∧ Fair l ∧ 1 ≤ l.length ∧ l.length ≤ 64 ∧ SqL K H c cs ∧ DpAll K H cs (cellsD l k z x l.length) ∧ PlanOk k z x ∧
  ∀ H' r as, Same H H' → H r = none → H' r = some (.lst as) → DpAll K H' as ((clashL l k z x).map pd) → Q (.ref r) H'
end
end Pf
/-! a def with keyword-only defaults, called by position: f(e, ..) -/
namespace Gk
open PySem PySem.Spec PyProof.Rows L2
structure DfD (P : Program) (w : World) (K : PySem.W.Frag) (mg : Str → Option Value) (base : Heap) (k : Nat) (x : Str) (ps : List Str) (dvs : List V) (sp : Sp) : Prop where
  ex : ∃ (f : Addr) (fd : FuncData) (ds : List Value), FnOk P w K mg base L2.CX0 k f fd ps sp ∧ mg x = some (.ref f) ∧ PySem.W.keepIn K (.ref f) = true ∧ Binds K fd ps ds ∧ Vals dvs ds
section
variable {X : Cx} {k j : Nat} {x : Str} {ps : List Str} {dvs : List V} {sp : Sp} {p pos : Pos} {e : Expr} {es : List Expr} {t : TA}
theorem pe_dd (D : DfD X.prog X.w X.K X.mg X.base k x ps dvs sp) (hr : Room j X.A) (hk : k ≤ j) (hg : Gl X x) (ha : PA X (e :: es) t)
    (hdb : (x == ("__debug__" : Str)) = false := by decide) (he : starEach (e :: es) X.env = (false, eval e X.env) :: starEach es X.env := by rfl)
    (hpl : (backTo pos (starEach es X.env)).any (·.1) = false := by rfl) : PE X (.Call (.Name x p) (e :: es) [] pos) (tCall sp dvs L2.E0 t) := by
  obtain ⟨f, fd, ds, F, m, kp, b, r⟩ := D.ex
  exact L2.pe_call (F.mono hk) hr hg m kp b r L2.pass0 ha hdb he hpl
end
/-- what fills up: the keyword-only defaults, from what K holds of the def -/
theorem kw_binds {K : PySem.W.Frag} {x qual : Str} {params : Arguments} {body : List Stmt} {scope : Scope} {ps : List Str} {f D : Addr} {oc doc pm cdv ct : Value} {od an : Option Addr} {osl : Array (Option Value)} (n : Nat) (kws : List (Str × V))
    (lk : K.lookup f = some ⟨oc, od, .func (PySem.W.fnOf x qual params body scope .none (.ref D) doc pm an cdv ct), osl⟩) (hc : PySem.W.codeIn K cdv qual = true) (kp : PySem.W.keepIn K (.ref f) = true) (hk : kws ≠ []) (hn : n + kws.length = ps.length)
    (hq : ∀ q ∈ kws, ∃ u, PySem.W.nsIn K D q.1 = some (some u) ∧ RelV q.2 u)
    (h : ∀ (D : Addr) (doc pm : Value) (an : Option Addr) (cdv ct : Value) (us ks : List Value), us.length = n → ks.length = kws.length →
      KwChain D ((kws.map (·.1)).zip ks) (bindArgs (PySem.W.fnOf x qual params body scope .none (.ref D) doc pm an cdv ct) ⟨us, []⟩) (ps.zip (us ++ ks))) :
    ∃ ds, Vals (kws.map (·.2)) ds ∧ Binds K (PySem.W.fnOf x qual params body scope .none (.ref D) doc pm an cdv ct) ps ds := by
  have F : FunD K x qual params body scope [] kws f (PySem.W.fnOf x qual params body scope .none (.ref D) doc pm an cdv ct) := ⟨⟨oc, od, .none, .ref D, doc, pm, an, cdv, ct, osl, rfl, lk, hc, .inl ⟨rfl, rfl⟩, .inr ⟨D, rfl, hq⟩⟩, kp⟩
  exact F.binds0 n hk hn h
end Gk
namespace Gk
open PySem PySem.Spec PyProof.Rows L2
/-- the same called by names, some lacking -/
theorem kw_kbinds {K : PySem.W.Frag} {x qual : Str} {params : Arguments} {body : List Stmt} {scope : Scope} {ps : List Str} {f D : Addr} {oc doc pm cdv ct : Value} {od an : Option Addr} {osl : Array (Option Value)} (n : Nat) (ks : List Str) (kws ms : List (Str × V)) (g : {α : Type} → List α → List α → List α → List α)
    (lk : K.lookup f = some ⟨oc, od, .func (PySem.W.fnOf x qual params body scope .none (.ref D) doc pm an cdv ct), osl⟩) (hc : PySem.W.codeIn K cdv qual = true) (kp : PySem.W.keepIn K (.ref f) = true) (hk : kws ≠ []) (hq : ∀ q ∈ kws, ∃ u, PySem.W.nsIn K D q.1 = some (some u) ∧ RelV q.2 u) (hms : ∀ q ∈ ms, q ∈ kws)
    (hrel : ∀ {vs mz zs : List V} {us mv ws : List Value}, Vals vs us → Vals mz mv → Vals zs ws → Vals (g vs mz zs) (g us mv ws))
    (h : ∀ (D : Addr) (doc pm : Value) (an : Option Addr) (cdv ct : Value) (us mv ws : List Value), us.length = n → mv.length = ms.length → ws.length = ks.length →
      KwChain D ((ms.map (·.1)).zip mv) (bindArgs (PySem.W.fnOf x qual params body scope .none (.ref D) doc pm an cdv ct) ⟨us, ks.zip ws⟩) (ps.zip (g us mv ws))) :
    ∃ mv : List Value, KBn K (PySem.W.fnOf x qual params body scope .none (.ref D) doc pm an cdv ct) ps n ks (fun us ws => g us mv ws) (fun vs zs => g vs (ms.map (·.2)) zs) := by
  have F : FunD K x qual params body scope [] kws f (PySem.W.fnOf x qual params body scope .none (.ref D) doc pm an cdv ct) := ⟨⟨oc, od, .none, .ref D, doc, pm, an, cdv, ct, osl, rfl, lk, hc, .inl ⟨rfl, rfl⟩, .inr ⟨D, rfl, hq⟩⟩, kp⟩
  exact F.kbinds0 n ks ms g hk hms hrel h
/-- f(e, .., k = v, ..) of a def -/
structure DfN (P : Program) (w : World) (K : PySem.W.Frag) (mg : Str → Option Value) (base : Heap) (k : Nat) (x : Str) (ps : List Str) (n : Nat) (ks : List Str) (gV : List V → List V → List V) (sp : Sp) : Prop where
  ex : ∃ (f : Addr) (fd : FuncData) (g : List Value → List Value → List Value), FnOk P w K mg base L2.CX0 k f fd ps sp ∧ mg x = some (.ref f) ∧ PySem.W.keepIn K (.ref f) = true ∧ KBn K fd ps n ks g gV
section
variable {X : Cx} {k j n : Nat} {x : Str} {ps ks : List Str} {gV : List V → List V → List V} {sp : Sp} {p pos : Pos} {e : Expr} {es : List Expr} {kws : List Keyword} {t tk : TA}
theorem pe_dn (D : DfN X.prog X.w X.K X.mg X.base k x ps n ks gV sp) (hr : Room j X.A) (hk : k ≤ j) (hg : Gl X x) (ha : PA X (e :: es) t) (hkw : PK X kws tk)
    (hall : (backToKw pos (keywordEach kws X.env)).all (·.1.isSome) = true := by rfl) (hks : (backToKw pos (keywordEach kws X.env)).filterMap (·.1) = ks := by rfl)
    (hdb : (x == ("__debug__" : Str)) = false := by decide) (he : starEach (e :: es) X.env = (false, eval e X.env) :: starEach es X.env := by rfl)
    (hpl : ((backTo pos (starEach (e :: es) X.env)).any (·.1) || (backToKw pos (keywordEach kws X.env)).any (·.1.isNone)) = false := by rfl) :
    PE X (.Call (.Name x p) (e :: es) kws pos) (tCallN n ks.length sp gV L2.E0 t tk) := by
  obtain ⟨f, fd, g, F, m, kp, b⟩ := D.ex
  exact L2.pe_callN (F.mono hk) hr hg m kp b L2.pass0 ha hkw hall hks hdb he hpl
end
end Gk
namespace Gk
open PySem PySem.Spec PyProof.Rows L2
/-! ### a list from a tuple, its place told apart from the table of modules -/
def rLstN (K : PySem.W.Frag) : List V → Hp → VK → Prop := fun xs H Q => ∃ p ys, xs = [.ref p] ∧ SqT K H p ys ∧ ∀ l, H l = none → (l == sysModules) = false → Q (.ref l) (upd H l (.lst ys))
theorem call_listN {X : Cx} : CallR X (.type "list") (rLstN X.K) := by
  intro pins s σ H xs us Q I r h
  obtain ⟨p, ys, rfl, hq, q⟩ := h
  obtain ⟨u, rfl, rx⟩ := vals1 r
  cases rx
  obtain ⟨its, r', pl, hz⟩ := I.tuple hq
  have hlen := r'.length
  obtain ⟨o, ho, hc, n, hd⟩ := pl
  refine call_list_seq p (.inr rfl) ho hc hd (fun h' c' kp e => ?_) (by simp only [List.size_toArray] <;> omega)
  exact ⟨.ref s.heap.objs.size, _, I.laid (t' := s.toks) kp (Nat.le_refl _) (show ObjOk X.prog X.w _ h' _ (.lst ys) from ⟨hz, its, c', r', e⟩), rfl, q _ (I.hok.fresh (Nat.le_refl _)) (not_modules I)⟩
/-! ### readings, taken apart -/
theorem go_op {r : R2} {ta tb : TE} {σ : L2.St} {H : Hp} {Q : VK} (h : ta σ H fun x H1 => tb σ H1 fun y H2 => r x y H2 Q) : tOp r ta tb σ H Q := h
theorem go_ret {te : TE} {D : Ends} {σ : L2.St} {H : Hp} (h : te σ H D.rt) : tRet te D σ H := h
theorem go_asg {te : TE} {g : TG} {u : TS} {D : Ends} {σ : L2.St} {H : Hp} (h : te σ H fun v H' => g v σ H' (u D)) : tSeq (tAsg te g) u D σ H := h
theorem go_as {te : TE} {g : TG} {D : Ends} {σ : L2.St} {H : Hp} (h : te σ H fun v H' => g v σ H' D.nx) : tAsg te g D σ H := h
theorem go_name {i : Nat} {v : V} {σ : L2.St} {H : Hp} {Q : L2.St → Hp → Prop} (h : Q (σ.set i (some v)) H) : gName i v σ H Q := h
section
variable {M : Addr → Prop} {K : PySem.W.Frag} {σ : L2.St} {H H0 : Hp}
theorem tup_of {v : V} {ds : List PyData} (h : Dv M K H v (.tuple ds)) : ∃ a xs, v = .ref a ∧ SqT K H a xs ∧ (∀ H', Off M H H' → SqT K H' a xs) ∧ DvAll M K H xs ds := by
  cases h with
  | tup h n r => exact ⟨_, _, rfl, .inl h, fun H' k => .inl (k.rd n h), r⟩
  | tupK h r => exact ⟨_, _, rfl, .inr h, fun _ _ => .inr h, r⟩
theorem sq_tup {a : Addr} {xs : List V} (h : H a = some (.tup xs)) : SqT K H a xs := .inl (.inl h)
/-- a tuple that other rules made, as data -/
theorem dv_sq {a : Addr} {xs : List V} {ds : List PyData} (h : SqT K H a xs) (n : ¬ M a) (r : DvAll M K H xs ds) : Dv M K H (.ref a) (.tuple ds) := h.elim (fun h => .tup h n r) fun h => .tupK h r
/-- two tuples joined -/
theorem cat_go {x y : V} {ds es : List PyData} {Q : VK} (hx : Dv M K H x (.tuple ds)) (hy : Dv M K H y (.tuple es)) (l : ds.length + es.length ≤ 1000000) (z : Stands M H)
    (q : ∀ v H', Same H H' → Dv M K H' v (.tuple (ds ++ es)) → Q v H') : rCatA K x y H Q := by
  obtain ⟨a, xs, rfl, ha, na, da⟩ := tup_of hx
  obtain ⟨b, ys, rfl, hb, nb, db⟩ := tup_of hy
  have l1 := da.len
  have l2 := db.len
  refine ⟨a, b, xs, ys, rfl, rfl, ha, hb, by rw [sizeLine_eq]; omega, fun e => ?_, fun _ e => ?_, fun _ _ p n => q _ _ (same_new n) (.tup (.inl upd_same) (z.new n) ((da.app db).off (Off.same (same_new n))))⟩
  · subst e
    cases da
    exact q _ _ (Same.refl _) hy
  · subst e
    cases db
    rw [List.append_nil] at q
    exact q _ _ (Same.refl _) hx
theorem mk_cat {t u : TE} {ds es : List PyData} (h : Mk M K t σ H0 (.tuple ds)) (g : Mk M K u σ H0 (.tuple es)) (l : ds.length + es.length ≤ 1000000) : Mk M K (tOp (rCatA K) t u) σ H0 (.tuple (ds ++ es)) := fun H M' Q s u' w z q =>
  h H M' _ s u' w z fun v1 H1 s1 d1 => g H1 M' _ (s.trans s1) u' w (z.same s1) fun v2 H2 s2 d2 => cat_go (d1.off (Off.same s2)) d2 l ((z.same s1).same s2) fun v H' s3 d3 => q _ _ ((s1.trans s2).trans s3) d3
/-- a bound that is read -/
def Pt (tl : TO) (σ : L2.St) (o : Option Int) : Prop := ∀ H Q, Q o H → tl σ H Q
theorem pt_none : Pt tNoPart σ none := fun _ _ q => q
theorem pt_v {i : Nat} {n : Int} (e : σ[i]? = some (some (.int n))) : Pt (tPart (tVar i)) σ (some n) := fun _ _ q => ⟨_, e, n, rfl, q⟩
theorem pt_v1 {i : Nat} {n : Int} (e : σ[i]? = some (some (.int n))) : Pt (tPart (tOp (rI0 fun i j => .int (i + j)) (tVar i) (tC (.int 1)))) σ (some (n + 1)) := fun _ _ q => ⟨_, e, n, 1, rfl, rfl, _, rfl, q⟩
def cutD {α : Type} (xs : List α) (lo hi : Option Int) : List α := (xs.drop (HT.sIx xs.length 0 lo)).take (HT.sIx xs.length xs.length hi - HT.sIx xs.length 0 lo)
theorem cutD_to {α : Type} {xs : List α} (n : Nat) : cutD xs none (some (n : Int)) = xs.take n := by
  unfold cutD
  rw [HT.sIx_none, HT.sIx_nat]
  show ((xs.drop 0).take (min n xs.length - 0)) = _
  rw [List.drop_zero, Nat.sub_zero, Nat.min_comm, List.take_eq_take_iff]
  omega
theorem cutD_from {α : Type} {xs : List α} (n : Nat) : cutD xs (some (n : Int)) none = xs.drop n := by
  unfold cutD
  rw [HT.sIx_none, HT.sIx_nat]
  by_cases h : n ≤ xs.length
  · rw [Nat.min_eq_left h, List.take_of_length_le (by rw [List.length_drop]; exact Nat.le_refl _)]
  · rw [Nat.min_eq_right (by omega), List.drop_eq_nil_of_le (Nat.le_refl _), List.drop_eq_nil_of_le (by omega)]
    exact List.take_nil
theorem mk_cut {t : TE} {tl th : TO} {lo hi : Option Int} {ds : List PyData} (h : Mk M K t σ H0 (.tuple ds)) (pl : Pt tl σ lo) (ph : Pt th σ hi) : Mk M K (tSl (rSlA K) t tl th) σ H0 (.tuple (cutD ds lo hi)) := fun H M' Q s u w z q =>
  h H M' _ s u w z fun v1 H1 s1 d1 => pl _ _ (ph _ _ (by
    obtain ⟨a, xs, rfl, ha, na, da⟩ := tup_of d1
    have l1 := da.len
    refine ⟨a, xs, rfl, ha, fun e => ?_, fun _ p n => q _ _ (s1.trans (same_new n)) (.tup (.inl upd_same) ((z.same s1).new n) ?_)⟩
    · have : cutD ds lo hi = ds := by
        unfold cutD
        rw [← l1, e.1, e.2, List.drop_zero, Nat.sub_zero]
        exact List.take_of_length_le (Nat.le_of_eq l1.symm)
      rw [this] at q
      exact q _ _ s1 d1
    · refine DvAll.off ?_ (Off.same (same_new n))
      unfold cutV cutD
      rw [l1]
      exact (da.drop _).take _))
theorem mk_to {t : TE} {tl th : TO} {n : Nat} {ds : List PyData} (h : Mk M K t σ H0 (.tuple ds)) (pl : Pt tl σ none) (ph : Pt th σ (some (n : Int))) : Mk M K (tSl (rSlA K) t tl th) σ H0 (.tuple (ds.take n)) := by
  have := mk_cut h pl ph
  rwa [cutD_to] at this
theorem mk_from {t : TE} {tl th : TO} {n : Nat} {ds : List PyData} (h : Mk M K t σ H0 (.tuple ds)) (pl : Pt tl σ (some (n : Int))) (ph : Pt th σ none) : Mk M K (tSl (rSlA K) t tl th) σ H0 (.tuple (ds.drop n)) := by
  have := mk_cut h pl ph
  rwa [cutD_from] at this
theorem mk_rev {t : TE} {ds : List PyData} (h : Mk M K t σ H0 (.tuple ds)) : Mk M K (tRevU K t) σ H0 (.tuple ds.reverse) := fun H M' Q s u w z q =>
  h H M' _ s u w z fun v1 H1 s1 d1 => by
    obtain ⟨a, xs, rfl, ha, na, da⟩ := tup_of d1
    exact ⟨a, xs, rfl, ha, fun p n => q _ _ (s1.trans (same_new n)) (.tup (.inl upd_same) ((z.same s1).new n) (da.rev.off (Off.same (same_new n))))⟩
theorem mk_list {t : TE} {ds : List PyData} (h : Mk M K t σ H0 (.tuple ds)) : Mk M K (tCB (rLstN K) (tCons t tNil)) σ H0 (.list ds) := fun H M' Q s u w z q =>
  h H M' _ s u w z fun v1 H1 s1 d1 => by
    obtain ⟨a, xs, rfl, ha, na, da⟩ := tup_of d1
    exact ⟨a, xs, rfl, ha, fun p n y => q _ _ (s1.trans (same_new n)) (.lst upd_same ((z.same s1).new n) y (da.off (Off.same (same_new n))))⟩
/-- a plain value that is read -/
theorem mk_gv {t : TE} {v : V} {d : PyData} (g : ∀ H Q, Q v H → t σ H Q) (h : ∀ M H, Dv M K H v d) : Mk M K t σ H0 d := fun H M' Q s u w z q => g _ _ (q _ _ (Same.refl _) (h M' H))
end
/-! ### sizes -/
theorem int_cps (i : Int) : fin (.str (Str.ofString (toString i))) 0 = true := by
  simp only [fin, Array.all_eq_true', decide_eq_true_eq]
  intro c hc
  refine Nat.lt_of_not_le fun h => int_text_free' c ⟨by omega, .inr (by omega)⟩ i ?_
  exact Array.mem_toList_iff.mpr hc
mutual
theorem fin_mono {B C : Nat} (h : B ≤ C) : ∀ d : PyData, fin d B = true → fin d C = true
  | .none, _ => rfl
  | .bool _, _ => rfl
  | .int i, g => by
    simp only [fin, decide_eq_true_eq] at g ⊢
    omega
  | .str x, g => by simpa only [fin] using g
  | .list xs, g => by
    simp only [fin] at g ⊢
    exact fin_monoAll h xs g
  | .tuple xs, g => by
    simp only [fin] at g ⊢
    exact fin_monoAll h xs g
  | .dict kvs, g => by
    simp only [fin] at g ⊢
    exact fin_monoKv h kvs g
theorem fin_monoAll {B C : Nat} (h : B ≤ C) : ∀ ds : List PyData, finAll ds B = true → finAll ds C = true
  | [], _ => rfl
  | x :: xs, g => by
    simp only [finAll, Bool.and_eq_true] at g ⊢
    exact ⟨fin_mono h x g.1, fin_monoAll h xs g.2⟩
theorem fin_monoKv {B C : Nat} (h : B ≤ C) : ∀ kvs : List (PyData × PyData), finKv kvs B = true → finKv kvs C = true
  | [], _ => rfl
  | (k, v) :: r, g => by
    simp only [finKv, Bool.and_eq_true] at g ⊢
    exact ⟨⟨fin_mono h k g.1.1, fin_mono h v g.1.2⟩, fin_monoKv h r g.2⟩
end
theorem finAll_iff {B : Nat} : ∀ {ds : List PyData}, finAll ds B = true ↔ ∀ d ∈ ds, fin d B = true
  | [] => by simp [finAll]
  | x :: xs => by
    simp only [finAll, Bool.and_eq_true, List.mem_cons, forall_eq_or_imp]
    rw [finAll_iff]
theorem bigAll_app : ∀ ds es : List PyData, bigAll (ds ++ es) + 1 = bigAll ds + bigAll es
  | [], es => by simp only [List.nil_append, bigAll]; omega
  | d :: ds, es => by
    have := bigAll_app ds es
    simp only [List.cons_append, bigAll]
    omega
theorem bigAll_rev : ∀ ds : List PyData, bigAll ds.reverse = bigAll ds
  | [] => rfl
  | d :: ds => by
    have := bigAll_app ds.reverse [d]
    have h := bigAll_rev ds
    rw [List.reverse_cons]
    simp only [bigAll] at this ⊢
    omega
theorem bigAll_len : ∀ ds : List PyData, ds.length + 1 ≤ bigAll ds
  | [] => Nat.le_refl _
  | d :: ds => by
    have := bigAll_len ds
    simp only [List.length_cons, bigAll]
    omega
theorem bigAll_split (ds : List PyData) (n : Nat) : bigAll (ds.take n) + bigAll (ds.drop n) = bigAll ds + 1 := by
  have := bigAll_app (ds.take n) (ds.drop n)
  rw [List.take_append_drop] at this
  omega
theorem depthAll_iff {n : Nat} : ∀ {ds : List PyData}, PyData.depthAll ds ≤ n ↔ ∀ d ∈ ds, d.depth ≤ n
  | [] => by simp [PyData.depthAll]
  | x :: xs => by
    simp only [PyData.depthAll, List.mem_cons, forall_eq_or_imp]
    rw [← depthAll_iff (ds := xs)]
    omega
end Gk
namespace Pf
open PySem PySem.Spec PyProof.Rows L2 Gk Fold
abbrev sSchOf : Stmt := topS 5
theorem scSchOf : FnScope ["word", "length", "bits"] ["word", "length", "bits"] (defScope sSchOf) := ⟨rfl, rfl, rfl, by decide +kernel, rfl, by decide +kernel, by decide +kernel⟩
abbrev sLeastL : Stmt := topS 26
abbrev nLeastL : List Str := ["trace", "word", "bits", "length"]
theorem scLeastL : FnScope nLeastL ["trace", "word", "bits"] (defScope sLeastL) := ⟨rfl, rfl, rfl, by decide +kernel, rfl, by decide +kernel, by decide +kernel⟩
abbrev pLSch : List Str := ["_law_kind", "_law_size", "_law_width"]
abbrev pLLea : List Str := ["_law_loop_here", "_law_kind", "_law_width", "_law_most"]
abbrev nLLea : List Str := ["_law_loop_here", "_law_kind", "_law_width", "_law_most", "_law_size"]
def Plain (k : Str) : Prop := k = "own" ∨ k = "split" ∨ k = "shared"
theorem plain_plan {k : Str} {z : Int} (hk : Plain k) (h0 : 0 ≤ z) (h1 : z ≤ 64) : PlanOk k z none := ⟨h0, h1, .inr ⟨hk, rfl⟩⟩
theorem plain_nf {k : Str} (hk : Plain k) : ¬ V.str k = V.str "folded" := by rcases hk with rfl | rfl | rfl <;> decide +kernel
theorem eqv_nil16 {l : List (Int × Int)} : PyData.eqv (.list (l.map pd)) (.list []) = decide (l = []) := by
  cases l with
  | nil => rfl
  | cons d ds => rfl
theorem tiny_shaped16 {l : List (Int × Int)} (h : Tiny l) : SeqAt.shaped (.list (l.map pd)) = true := by
  have d := depth_pd l
  refine tame_shaped (by simpa only [Gk.tame] using tame_tiny h) ?_
  simp only [PyData.depth]
  omega
section
variable {P : Program} {w : World} {K : PySem.W.Frag} {mg : Str → Option Value} {base : Heap}
def spSchOf (K : PySem.W.Frag) : Sp := fun vs H Q _ => ∃ (k : Str) (z b : Int), vs = [.str k, .int z, .int b] ∧ Plain k ∧ ∀ H' p, Same H H' → SqT K H' p [.str k, .int z] → Q (.ref p) H'
theorem ok_schOf {f : Addr} {fd : FuncData} (F : L2.Fun K "scheme_of" "scheme_of" sSchOf f fd) : FnOk P w K mg base L2.CX0 1 f fd ["word", "length", "bits"] (spSchOf K) := by
  refine F.ok scSchOf (fun vs H Q E h => ?_) (fun cdv A outer s H vs Q E hr h => ?_)
  · obtain ⟨k, z, b, rfl, _⟩ := h
    rfl
  · obtain ⟨k, z, b, rfl, hk, q⟩ := h
    refine ⟨_, pss_cons (ps_if (pt_cmpR op_eq (pv 0) pe_str (nomark _)) (pss_one (ps_ret (pe_tup (pa_cons (pv 0) (pa_cons (pv 1) (pa_cons (pv 2) pa_nil)))))) pss_nil)
      (pss_one (ps_ret (pe_tup (pa_cons (pv 0) (pa_cons (pv 1) pa_nil))))), ?_⟩
    refine ⟨.str k, rfl, rfl, _, rfl, ite2 (fun e => absurd (of_decide_eq_true e) (plain_nf hk)) (fun _ => ?_)⟩
    exact ⟨.str k, rfl, .int z, rfl, by show 2 ≤ sizeLine; decide, fun p np => q _ p (same_new np) (.inl (.inl upd_same))⟩
def spLeastP (K : PySem.W.Frag) : Sp := fun vs H Q _ => ∃ (t : Addr) (l : List (Int × Int)) (k : Str) (b : Int), vs = [.ref t, .str k, .int b] ∧ Plain k ∧ PairsAt K H t l ∧ Fair l ∧ 1 ≤ l.length ∧ l.length ≤ 64 ∧
  ∀ H' (n : Nat), Same H H' → n ≤ l.length - 1 → LeastP l k n → Q (.int (n : Int)) H'
theorem ok_leastP {f : Addr} {fd : FuncData} (DS : Dfn P w K mg base 11 "is_sure" ["trace", "scheme"] (spSure K)) (DC : Dfn P w K mg base 1 "scheme_of" ["word", "length", "bits"] (spSchOf K)) (cL : ∃ u, mg "MOST_LENGTH" = some u ∧ RelV (.int 64) u) (mr : mg "range" = none)
    (F : L2.Fun K "least_length" "least_length" sLeastL f fd) : FnOk P w K mg base L2.CX0 12 f fd ["trace", "word", "bits"] (spLeastP K) := by
  refine F.ok scLeastL (fun vs H Q E h => ?_) (fun cdv A outer s H vs Q E hr h => ?_)
  · obtain ⟨t, l, k, b, rfl, _⟩ := h
    rfl
  · obtain ⟨t, l, k, b, rfl, hk, hl, fair, l1, l64, q⟩ := h
    refine ⟨_, pss_cons (ps_for PassesOwn.never rfl (pi_range1 rfl mr (pa_cons (pe_op op_add (C8.pe_gc (by rfl) cL) pe_int) pa_nil)) (pg_name (i := 3) scLeastL.nd rfl (.inl rfl))
        (pss_one (ps_if (pt_val (pe_d DS hr (by decide) (by rfl) (pa_cons (pv 0) (pa_cons (pe_d DC hr (by decide) (by rfl) (pa_cons (pv 1) (pa_cons (pv 3) (pa_cons (pv 2) pa_nil)))) pa_nil)))) (pss_one (ps_ret (pv 3))) pss_nil)))
      (pss_one (ps_ret pe_non)), ?_⟩
    refine ⟨_, _, rfl, rfl, _, rfl, by decide, by decide, ?_⟩
    refine for_range (lo := 0) (n := (64 + 1 : Int).toNat) (fun i σ H' => (∃ y, σ = [some (.ref t), some (.str k), some (.int b), y]) ∧ Same H H' ∧ ∀ j, j < i → Clash l k none j) ⟨⟨_, rfl⟩, Same.refl H, fun j h => absurd h (by omega)⟩ (fun i σ H1 hi hp => ?_) (fun σ H1 hp => ?_)
    · obtain ⟨⟨y, rfl⟩, s1, no⟩ := hp
      have hi : i < 65 := hi
      refine ⟨.ref t, rfl, .str k, rfl, .int (0 + (i : Nat)), rfl, .int b, rfl, k, 0 + (i : Nat), b, rfl, hk, fun H2 c s2 hc => ?_⟩
      refine ⟨t, c, l, k, 0 + (i : Nat), none, rfl, hl.keep (Same.keep (s1.trans s2)), fair, l1, l64, hc, plain_plan hk (by omega) (by omega), fun H3 s3 => ?_⟩
      have e0 : (0 + ((i : Nat) : Int)).toNat = i := by omega
      refine ⟨_, rfl, ite2 (fun e => ?_) (fun e => ?_)⟩
      · have e := of_decide_eq_true e
        refine ⟨.int (0 + (i : Nat)), rfl, ?_⟩
        rw [Int.zero_add]
        have le : LeastP l k i := ⟨fun c => by
          rw [← e0] at c
          exact clash_iff.mpr c e, no⟩
        exact q H3 i ((s1.trans s2).trans s3) (le.le (plain_sure fair l1 l64 hk)) le
      · refine ⟨⟨_, rfl⟩, (s1.trans s2).trans s3, fun j hj => ?_⟩
        by_cases z : j = i
        · rw [z, ← e0]
          exact clash_iff.mp fun y => e (decide_eq_true y)
        · exact no j (by omega)
    · obtain ⟨_, _, no⟩ := hp
      exact absurd (no (l.length - 1) (by show l.length - 1 < 65; omega)) (plain_sure fair l1 l64 hk)
/-- the law's own least length -/
def spLLea (K : PySem.W.Frag) : Sp := fun vs H Q _ => ∃ (t : Addr) (l : List (Int × Int)) (k : Str) (b : Int) (mo : Nat), vs = [.ref t, .str k, .int b, .int (mo : Int)] ∧ Plain k ∧ PairsAt K H t l ∧ Fair l ∧ 1 ≤ l.length ∧ l.length ≤ 63 ∧ mo = l.length ∧
  ∀ H' (n : Nat), Same H H' → LeastP l k n → Q (.int (n : Int)) H'
end
end Pf
/-! An own exception whose __init__ says super().__init__(text); self.f = value. -/
namespace Gk
open PySem PySem.Spec PyProof.Rows L2

section
variable {prog : Program} {w : World} {A : Around} {E : Value → Shared → Prop} {h : Heap} {g : Array GenState} {d : Drawn} {t : Nat} {os : OsState}
variable {nm q : Str} {C N : Addr} {bs bm : List Value} {hdct : Bool} {sn : List Str} {sub : List Value} {ab : Bool} {col : Option Bool} {dd : Option Addr} {k0 k1 k2 k3 k5 : Option Value}
open PySem.HandSPX in
theorem call_mw {u e t0 : Addr} {rest : List Value} {Q : Value → Shared → Prop}
    (hC : h.get? C = some (excClassObj nm q C N bs bm hdct sn sub ab col dd k0 k1 k2 k3 k5 "ValueError.__new__")) (he : h.get? e = some (HandSPX.excO C t0)) (hu : h.get? u = some (PySem.W.kxs_mw "ValueError.__init__" e)) (hrest : rest.length ≤ sizeLine)
    (hq : ∀ h' t1, (∀ b o, b ≠ e → h.get? b = some o → h'.get? b = some o) → h'.get? e = some (HandSPX.excO C t1) → Q .none ⟨h', g, d, t, os⟩) :
    wpAny (model prog w) A (call (.ref u) rest) Q E ⟨h, g, d, t, os⟩ := by
  refine wpAny_call (codeAny_of_tree ?_)
  show wpAny _ A.in1 (callAny (.ref u) ⟨rest, []⟩) _ _ _
  simp only [callAny]
  refine wpAny_bind (wpAny_load hu ?_)
  simp only [PySem.W.kxs_mw, show (Value.type "method-wrapper" == Value.type "method" || Value.type "method-wrapper" == Value.type "builtin_function_or_method" || Value.type "method-wrapper" == Value.type "method-wrapper") = true by decide, if_true]
  refine PySem.W.KFB.if_so (by decide) ?_
  refine wpAny_bind (PySem.ESX.check_bound F.excBase_ValueError hC he rfl ?_)
  refine wpAny_bind (wpAny_pure (wpAny_pure ?_))
  refine ⟨Code.quiet_builtin _ (by decide +kernel), codeAny_builtin F.excBase_ValueError.initEntry ?_⟩
  rw [Around.under_plainId F.excBase_ValueError.init.plain _]
  wp_walk
  refine hq _ h.objs.size (fun b o hb ho => ?_) ?_
  · rw [Heap.get?_update_other _ _ (Ne.symm hb)]
    exact Heap.get?_push_of_some _ ho
  · rw [Heap.get?_update_self _ (Heap.get?_push_of_some _ he) rfl]
    rfl
end

/-- what is written of an own exception's __init__: its def at f, its cell at cc, its class at C -/
structure EInit (P : Program) (K : PySem.W.Frag) (C f cc : Addr) (fd : FuncData) (qual : Str) (params : Arguments) (body : List Stmt) (scope : Scope) (cda : Addr) : Prop where
  oex : OexC K C
  fn : ∃ oc od osl kV doc pm an ct, K.lookup f = some ⟨oc, od, .func (PySem.W.ksFn "__init__" qual params body scope .none kV doc pm an (.ref cda) ct cc), osl⟩ ∧ fd = PySem.W.ksFn "__init__" qual params body scope .none kV doc pm an (.ref cda) ct cc
  code : PySem.W.codeIn K (.ref cda) qual = true
  file : ∃ ccl cdd vs ccs file tf, K.lookup cda = some ⟨ccl, cdd, .fields vs, ccs⟩ ∧ vs[2]? = some (.str file tf) ∧ ((P.main.file : Str) == file) = true
  top : (P.main.scope.names.lookup ("super" : Str)).isSome = false
  cell : ∃ cl cld csl, K.lookup cc = some ⟨cl, cld, .cell (some (.ref C)), csl⟩
  sup : PySem.W.ks_superIn K C C "__init__" = some (some (.builtin "ValueError.__init__"))
  self : PySem.W.mroIn K C (.ref C) = some true
  ve : PySem.W.subIn K (.ref C) (.type "ValueError") = some true
  any : PySem.W.nsIn K cStatics "thirdparty.any" = some none
  iC : PySem.W.findIn K (.ref C) "__init__" = some (some (.ref f))
  tI : PySem.W.typeIn K (.ref f) = some (.type "function")
  kf : PySem.W.keepIn K (.ref f) = true

/-- the context of that __init__ -/
def ecx (P : Program) (w : World) (K : PySem.W.Frag) (mg : Str → Option Value) (base : Heap) (N : List Str) (qual : Str) (scope : Scope) (f : Addr) (cda cc : Addr) (A : Around) (outer : List Env) (s : Shared) (H : Hp) : Cx where
  prog := P
  w := w
  K := K
  mg := mg
  base := base
  A := A.deeper (PySem.W.ksEnv qual scope s.heap.objs.size f (.ref cda) cc)
  N := N
  s_0 := s
  H_0 := H
  env := PySem.W.ksEnv qual scope s.heap.objs.size f (.ref cda) cc
  outer := outer
  stack := PySem.W.ksEnv qual scope s.heap.objs.size f (.ref cda) cc :: outer
  ex := []
  calm := true
  fn := fun _ => false
  pn := []
  xe := fun _ _ => False
/-- its scope -/
structure EScope (N : List Str) (sc : Scope) : Prop where
  kind : sc.kind = .function
  co : sc.isCoroutine = false
  gen : sc.isGenerator = false
  loc : ∀ x ∈ N, sc.names.lookup x = some .local
  nocell : ∀ y ∈ sc.names, y.2 ≠ .cell
  free : ∀ y ∈ sc.names, y.2 = .free → y.1 = "__class__"
  cls : sc.names.lookup ("__class__" : Str) = some .free
  sup : sc.names.lookup ("super" : Str) = some .globalImplicit

end Gk
namespace Gk
open PySem PySem.Spec PyProof.Rows L2
section
variable {P : Program} {w : World} {K : PySem.W.Frag} {mg : Str → Option Value} {base : Heap} {C f cc cda : Addr} {fd : FuncData} {qual : Str} {params : Arguments} {body : List Stmt} {scope : Scope}
theorem einv {par : Str} {A : Around} {outer : List Env} {s : Shared} {H : Hp} {u0 u1 : Value} {v0 v1 : V} {h0 : Heap} {tk : Nat} (T : EInit P K C f cc fd qual params body scope cda) (S : EScope ["self", par] scope) (hp : (("self" : Str) == par) = false) (hd : A.handled = none) (e0 : Env0 P w K mg base A outer s H)
    (r0 : RelV v0 u0) (r1 : RelV v1 u1) (hns : h0.Ns s.heap.objs.size (fun x => ([(par, u1), ("self", u0)] : List (Str × Value)).lookup x)) (k : ∀ b o, s.heap.get? b = some o → h0.get? b = some o) :
    Inv (ecx P w K mg base ["self", par] qual scope f cda cc A outer s H) [] [some v0, some v1] H { s with heap := h0, toks := tk } := by
  obtain ⟨cl, cld, csl, hcell⟩ := T.cell
  have KXb : K.In base := e0.mod.kin
  have bcc := KXb _ _ hcell
  have one : ∀ x c, (ecx P w K mg base ["self", par] qual scope f cda cc A outer s H).env.cells.lookup x = some c → x = "__class__" ∧ c = cc := fun x c h => by
    have h : ([("__class__", cc)] : List (Str × Addr)).lookup x = some c := h
    rw [List.lookup_cons] at h
    split at h
    · rename_i e
      exact ⟨by simpa using e, (Option.some.inj h).symm⟩
    · cases h
  have ok : (ecx P w K mg base ["self", par] qual scope f cda cc A outer s H).Ok := by
    refine ⟨e0.mod, S.kind, rfl, rfl, Nat.le_refl _, fun y z c h1 h2 => ?_, fun y hy => ?_, fun y c hf => (nomatch hf), fun _ => hd, Around.frames_deeper e0.frames, .inr ⟨rfl, rfl⟩, fun b z => (by cases z), e0.bs, e0.bsz, fun b _ _ z => (by cases z), fun b z => (by cases z), e0.funs, e0.frf⟩
    · rw [(one y c h1).1, (one z c h2).1]
    · refine ⟨cc, ?_⟩
      have hy : scope.names.lookup y = some .cell ∨ scope.names.lookup y = some .free := hy
      rcases hy with hy | hy
      · exact absurd rfl (S.nocell _ (PySem.mem_of_lookup hy))
      · have e := S.free _ (PySem.mem_of_lookup hy) rfl
        have e : y = "__class__" := e
        subst e
        rfl
  have look : ∀ (i : Nat) (y : Str) (v : V), (["self", par] : List Str)[i]? = some y → ([some v0, some v1] : List (Option V))[i]? = some (some v) → ∃ u, RelV v u ∧ Look (ecx P w K mg base ["self", par] qual scope f cda cc A outer s H).env h0 (fun x => ([(par, u1), ("self", u0)] : List (Str × Value)).lookup x) y u := by
    intro i y v h1 h2
    rcases i with _ | _ | i
    · have e1 : ("self" : Str) = y := Option.some.inj h1
      have e2 : v0 = v := Option.some.inj (Option.some.inj h2)
      subst e1 e2
      refine ⟨u0, r0, .inl ⟨S.loc _ (List.mem_cons_self ..), ?_⟩⟩
      dsimp only
      rw [List.lookup_cons, hp]
      rfl
    · have e1 : par = y := Option.some.inj h1
      have e2 : v1 = v := Option.some.inj (Option.some.inj h2)
      subst e1 e2
      refine ⟨u1, r1, .inl ⟨S.loc _ (List.mem_cons_of_mem _ (List.mem_cons_self ..)), ?_⟩⟩
      dsimp only
      rw [List.lookup_cons, show (par == par) = true from by simp]
    · cases h1
  exact ⟨ok, rfl, e0.bare, Un.kept k, ⟨_, hns, fun i y v h1 h2 _ => look i y v h1 h2⟩, fun y c h => by
      obtain ⟨_, rfl⟩ := one y c h
      exact ⟨_, _, k _ _ (e0.bs _ _ bcc).1, rfl⟩, e0.hok.fresh (Nat.le_refl _), fun y c h => by
      obtain ⟨_, rfl⟩ := one y c h
      exact (e0.bs _ _ bcc).2, fun p hp => (by cases hp), e0.hok.kept k, rfl⟩
end
end Gk
namespace Gk
open PySem PySem.Spec PyProof.Rows L2
section
variable {P : Program} {w : World} {K : PySem.W.Frag} {mg : Str → Option Value} {base : Heap} {C f cc cda : Addr} {fd : FuncData} {qual : Str} {params : Arguments} {body : List Stmt} {scope : Scope}
/-- super().__init__(text) -/
theorem sup_init {par : Str} {A : Around} {outer : List Env} {s0 s : Shared} {H0 H : Hp} {a : Addr} {v : V} {txt : Str} {k : Nat} {p0 p1 p2 p3 p4 pos : Pos} {rest : List Stmt} {Q : Flow → Shared → Prop}
    (T : EInit P K C f cc fd qual params body scope cda) (S : EScope ["self", par] scope) {pl : Sem Bool} (he : eval (.Call (.Attribute (.Call (.Name "super" p0) [] [] p1) "__init__" p2) [.Constant (.str txt) k p3] [] p4) (PySem.W.ksEnv qual scope s0.heap.objs.size f (.ref cda) cc) = (do
      let ov ← attributeBase (.Call (.Name "super" p0) [] [] p1) "__init__" (PySem.W.ksEnv qual scope s0.heap.objs.size f (.ref cda) cc) (eval (.Call (.Name "super" p0) [] [] p1) (PySem.W.ksEnv qual scope s0.heap.objs.size f (.ref cda) cc))
      standAt p2.atName
      let (f', first) ← holding [ov] (getMethod ov "__init__" pl)
      callWith p4 f' first (backTo p4 (starEach [.Constant (.str txt) k p3] (PySem.W.ksEnv qual scope s0.heap.objs.size f (.ref cda) cc))) []))
    (hi : interactive (PySem.W.ksEnv qual scope s0.heap.objs.size f (.ref cda) cc) = false) (hpar : (params.posonlyargs ++ params.args).head?.map (·.arg) = some "self") (hsup : mg "super" = none)
    (I : Inv (ecx P w K mg base ["self", par] qual scope f cda cc A outer s0 H0) [] [some (.ref a), some v] H s) (ha : H a = some (exo a C none))
    (h : ∀ s', Inv (ecx P w K mg base ["self", par] qual scope f cda cc A outer s0 H0) [] [some (.ref a), some v] H s' → PySem.wpAt (model P w) (A.deeper (PySem.W.ksEnv qual scope s0.heap.objs.size f (.ref cda) cc)) (.func body (PySem.W.ksEnv qual scope s0.heap.objs.size f (.ref cda) cc)) (execs rest (PySem.W.ksEnv qual scope s0.heap.objs.size f (.ref cda) cc)) Q (fun _ _ => False) s') :
    PySem.wpAt (model P w) (A.deeper (PySem.W.ksEnv qual scope s0.heap.objs.size f (.ref cda) cc)) (.func body (PySem.W.ksEnv qual scope s0.heap.objs.size f (.ref cda) cc))
      (execs (.Expr (.Call (.Attribute (.Call (.Name "super" p0) [] [] p1) "__init__" p2) [.Constant (.str txt) k p3] [] p4) pos :: rest) (PySem.W.ksEnv qual scope s0.heap.objs.size f (.ref cda) cc)) Q (fun _ _ => False) s := by
  obtain ⟨oc, od, osl, kV, doc, pm, an, ct, lk, efd⟩ := T.fn
  obtain ⟨ccl, cdd, vs, ccs, file, tf, lcode, hvs, hfile⟩ := T.file
  obtain ⟨cl, cld, csl, lcell⟩ := T.cell
  obtain ⟨nm, q, N, bs, bm, sn, sub, ab, col, dd, k0, k1, k2, k3, k5, hC, hbm⟩ := T.oex.cls
  obtain ⟨ar, har, earg⟩ : ∃ ar, (params.posonlyargs ++ params.args).head? = some ar ∧ ar.arg = "self" := by
    cases e : (params.posonlyargs ++ params.args).head? with
    | none => rw [e] at hpar; cases hpar
    | some ar => rw [e] at hpar; exact ⟨ar, rfl, Option.some.inj hpar⟩
  have X : K.In s.heap := I.kIn
  have hcl : PySem.W.clsIn K C = some { name := nm, bases := bs, mro := .ref C :: bm, ns := N, qualname := q, hasDict := true, slotNames := sn, subclasses := sub, abstract := ab, collection := col, hasDel := false } := by unfold PySem.W.clsIn; rw [hC] <;> rfl
  obtain ⟨t1, ho⟩ := exo_at I.hok ha
  obtain ⟨m, hns, hloc⟩ := id I.loc
  have hm : m "self" = some (.ref a) := by
    obtain ⟨u, ru, l⟩ := hloc 0 "self" (.ref a) rfl rfl (.inl (S.loc _ (List.mem_cons_self ..)))
    obtain rfl : u = Value.ref a := ru
    rcases l with ⟨_, l⟩ | ⟨k, _⟩
    · exact l
    · have z : scope.names.lookup ("self" : Str) = some .local := S.loc _ (List.mem_cons_self ..)
      rcases k with k | k
      · have k : scope.names.lookup ("self" : Str) = some .cell := k
        rw [z] at k; cases k
      · have k : scope.names.lookup ("self" : Str) = some .free := k
        rw [z] at k; cases k
  obtain ⟨mb, hb1, hb2⟩ := I.mod.blt
  refine ks_wpAt_execs_cons (ks_wpAt_Expr_any (ks_wpAt_MethodCall (pl := pl) ?_ he) hi)
  refine ks_wpAt_super_base (env := PySem.W.ksEnv qual scope s0.heap.objs.size f (.ref cda) cc) S.sup S.cls (by decide) rfl (X _ _ lk) rfl har rfl (X _ _ lcode) rfl hvs hfile T.top ?_
  refine PySem.W.ks_loadName_global S.kind S.sup (Calls.loadGlobal_builtin (env := PySem.W.ksEnv qual scope s0.heap.objs.size f (.ref cda) cc) (I.mod.glob.keeps I.bk) hsup (hb1.keeps I.bk) ((hb2 "super" (by decide)).trans (show bootBuiltins "super" = some (.type "super") from by first | boot_by_name | rfl | kernel_rfl)) ⟨rfl, ?_⟩)
  refine wpAny_loadName_free S.kind S.cls rfl ⟨_, X _ _ lcell, rfl⟩ ?_
  rw [earg]
  refine wpAny_loadName_local S.kind (S.loc _ (List.mem_cons_self ..)) hns hm ?_
  obtain ⟨hh, g, d, tk, os⟩ := s
  refine ks_wpAny_isType_cls (X _ _ hC) rfl ⟨rfl, ?_⟩
  refine ks_wpAny_call_super (X _ _ hC) rfl ho rfl (fun c e => by cases e) (PySem.W.looks_mroIn X T.self) (fun h1 e1 kp1 => ?_)
  have X1 : K.In h1 := X.keeps kp1
  have I1 : PySem.W.InstAt h1 a { cls := .ref C, dict := none, data := .fields #[.ref t1, .none, .none, .none, .bool false, .none] } C none := ⟨kp1 _ _ ho, rfl, rfl, trivial⟩
  have hsup' := T.sup
  unfold PySem.W.ks_superIn at hsup'
  rw [hcl] at hsup'
  refine PySem.W.kxs_getMethod PySem.W.kxs_ValueError e1 (PySem.W.looks_opaque X1 T.any) (l₀ := .ref C :: bm) (fun A Q E s k q => wpAny_bind ((PySem.W.looks_clsIn X1 hcl) A _ E s k (wpAny_pure q))) rfl X1 hsup' (I1.type.andThen (PySem.W.looks_subIn X1 T.ve)) (PySem.W.ks_ne X1 I1 hcl) (by decide) ?_
  have kp2 : ∀ b o, hh.get? b = some o → (h1.push (PySem.W.kxs_mw "ValueError.__init__" a)).get? b = some o := fun b o e => Heap.get?_push_of_some _ (kp1 b o e)
  have I2 : Inv (ecx P w K mg base ["self", par] qual scope f cda cc A outer s0 H0) [] [some (.ref a), some v] H ⟨h1.push (PySem.W.kxs_mw "ValueError.__init__" a), g, d, tk + 1, os⟩ := I.kept (t' := tk + 1) kp2
  have hu2 : (h1.push (PySem.W.kxs_mw "ValueError.__init__" a)).get? h1.objs.size = some (PySem.W.kxs_mw "ValueError.__init__" a) := Heap.get?_push_size _ rfl
  refine PySem.W.kxs_callWith (i := "ValueError.__init__") (x := a) rfl ?_
  refine Calls.evalArgs_plain ?_
  have lu : hh.objs.size ≤ h1.objs.size := by
    cases e : h1.get? hh.objs.size with
    | none => rw [e1] at e; cases e
    | some o => exact Nat.le_of_lt (Heap.lt_size e)
  have I3 : Inv (ecx P w K mg base ["self", par] qual scope f cda cc A outer s0 H0) [(h1.objs.size, PySem.W.kxs_mw "ValueError.__init__" a)] [some (.ref a), some v] H ⟨h1.push (PySem.W.kxs_mw "ValueError.__init__" a), g, d, tk + 1, os⟩ :=
    I2.pins_of fun p hp => by
      rw [List.mem_singleton.mp hp]
      refine ⟨hu2, I.hok.fresh lu, Nat.ne_of_gt (Nat.lt_of_lt_of_le I.lt lu), I.nofs lu, fun v q => by cases q⟩
  refine wpAny_mono ((pa_cons (pe_str (X := ecx P w K mg base ["self", par] qual scope f cda cc A outer s0 H0) (x := txt) (j := k) (pos := p3)) pa_nil).run p4 _ _ _ H (fun ys G => ys = [.str txt] ∧ G = H) I3 ⟨rfl, rfl⟩) (fun us s4 ⟨ys, H4, I4, r4, ey, eh⟩ => ?_) fun _ _ z => z
  subst ey eh
  obtain ⟨hu4, _⟩ := I4.pin _ (List.mem_append_right _ (List.mem_singleton.mpr rfl))
  refine ⟨hu4, ?_⟩
  obtain ⟨t4, ho4⟩ := exo_at I4.hok ha
  have hlen : us.length ≤ sizeLine := by
    rw [← Paired.length r4, sizeLine_eq]
    show 1 ≤ _
    omega
  have hC4 := I4.kIn _ _ hC
  obtain ⟨h4, g4, d4, tk4, os4⟩ := s4
  refine call_mw hC4 ho4 hu4 hlen fun h' t2 kk hx => ?_
  have J := I4.write (t' := tk4) (x := a) (e := a) (o := exo a C none) (by rw [ha]; exact True.intro) (.inl rfl) kk ⟨_, hx⟩ (exo_ok hx)
  have eu : upd H4 a (exo a C none) = H4 := by
    funext b
    by_cases hb : b = a
    · rw [hb, upd_same, ha]
    · rw [upd_ne hb]
  rw [eu] at J
  exact h _ (J.pins_of (pins' := []) fun p hp => by cases hp)
end
end Gk
namespace Gk
open PySem PySem.Spec PyProof.Rows L2
/-- an own exception's __init__, called at a new instance: it keeps the value under its name -/
def spInit (C : Addr) (fld : Str) : Sp := fun vs H Q _ => ∃ (a : Addr) (v : V), vs = [.ref a, v] ∧ H a = some (exo a C none) ∧ ∀ dx, H dx = none → dx ≠ a → Q .non (upd (upd H dx (exd dx [(fld, v)])) a (exo a C (some dx)))
section
variable {P : Program} {w : World} {K : PySem.W.Frag} {mg : Str → Option Value} {base : Heap} {C f cc cda : Addr} {fd : FuncData} {qual : Str} {params : Arguments} {scope : Scope}
theorem init_ok {par fld txt : Str} {k : Nat} {p0 p1 p2 p3 p4 pos q1 q2 q3 q4 : Pos} {pl : Addr → Sem Bool}
    (T : EInit P K C f cc fd qual params [.Expr (.Call (.Attribute (.Call (.Name "super" p0) [] [] p1) "__init__" p2) [.Constant (.str txt) k p3] [] p4) pos, .Assign [.Attribute (.Name "self" q1) fld q2] (.Name par q3) q4] scope cda) (S : EScope ["self", par] scope)
    (hp : (("self" : Str) == par) = false) (hfld : PySem.W.findIn K (.ref C) fld = some none) (hd1 : (par == ("__debug__" : Str)) = false) (hd2 : (par == ("__classdict__" : Str)) = false) (hsup : mg "super" = none)
    (hpar : (params.posonlyargs ++ params.args).head?.map (·.arg) = some "self")
    (he : ∀ L, eval (.Call (.Attribute (.Call (.Name "super" p0) [] [] p1) "__init__" p2) [.Constant (.str txt) k p3] [] p4) (PySem.W.ksEnv qual scope L f (.ref cda) cc) = (do
      let ov ← attributeBase (.Call (.Name "super" p0) [] [] p1) "__init__" (PySem.W.ksEnv qual scope L f (.ref cda) cc) (eval (.Call (.Name "super" p0) [] [] p1) (PySem.W.ksEnv qual scope L f (.ref cda) cc))
      standAt p2.atName
      let (f', first) ← holding [ov] (getMethod ov "__init__" (pl L))
      callWith p4 f' first (backTo p4 (starEach [.Constant (.str txt) k p3] (PySem.W.ksEnv qual scope L f (.ref cda) cc))) []))
    (hi : ∀ L, interactive (PySem.W.ksEnv qual scope L f (.ref cda) cc) = false)
    (hsw : ∀ L, swapsWith (.Name par q3) (some (.Attribute (.Name "self" q1) fld q2)) q4.line (PySem.W.ksEnv qual scope L f (.ref cda) cc) = pure false) :
    FnOk P w K mg base L2.CX0 1 f fd ["self", par] (spInit C fld) := by
  refine ⟨fun vs H Q E h => by obtain ⟨a, v, rfl, _⟩ := h; rfl, fun A outer s H args us vs Q E hr e0 hb r hsp => ?_⟩
  obtain ⟨a, v, rfl, ha, q⟩ := hsp
  obtain ⟨oc, od, osl, kV, doc, pm, an, ct, lk, efd⟩ := T.fn
  have KX : K.In s.heap := e0.mod.kin.keeps fun b o e => (e0.bs b o e).1
  have lim : s.heap.NoLimit := e0.mod.nolimit.keeps fun b o e => (e0.bs b o e).1
  subst efd
  cases r with
  | @cons _ u0 _ ur r0 rr =>
    cases rr with
    | @cons _ u1 _ ur' r1 rr' =>
      cases rr'
      refine ks_codeAny_call_defAt (binds := (["self", par] : List Str).zip [u0, u1]) hr.depth (KX _ _ lk) rfl lim (PySem.W.codeRec_of KX T.code) rfl hb S.nocell (fun y hy => S.loc _ (List.of_mem_zip (a := y.1) (b := y.2) hy).1) (fun h0 hns hk => ?_) S.co S.gen S.kind
      have I0 := einv (P := P) (w := w) (mg := mg) (tk := s.toks + ((["self", par] : List Str).zip [u0, u1]).length) T S hp hr.hd e0 r0 r1 hns hk
      refine ks_wpAt_mono (Q := fun fl s' => SP (ecx P w K mg base ["self", par] qual scope f cda cc A outer s H) [] { nx := fun _ H' => Q .non H', rt := Q } fl s') (E := fun _ _ => False)
        (sup_init T S (he _) (hi _) hpar hsup I0 ha fun s' I' => PySem.wpAt_of_wpAny ((pss_one (ps_ost (pe_var (i := 0) rfl (.inl (S.loc _ (List.mem_cons_self ..)))) (pe_var (i := 1) rfl (.inl (S.loc _ (List.mem_cons_of_mem _ (List.mem_cons_self ..)))) hd1 hd2) (hsw s.heap.objs.size))).run [] s' _ H _ I' ⟨v, rfl, .ref a, rfl, a, C, rfl, T.oex, hfld, .inl ⟨ha, q⟩⟩))
        (fun fl s' hs => ?_) fun _ _ z => z.elim
      cases fl with
      | next => obtain ⟨σ', H', J, z⟩ := hs; exact ⟨.non, H', J.os, J.bare, J.base, J.hok, rfl, z⟩
      | ret u => obtain ⟨vv, σ', H', J, rv, z⟩ := hs; exact ⟨vv, H', J.os, J.bare, J.base, J.hok, rv, z⟩
      | brk => obtain ⟨_, _, _, z⟩ := hs; exact False.elim z
      | cont => obtain ⟨_, _, _, z⟩ := hs; exact False.elim z
end
end Gk
/-! An own exception with one value, raised and caught by its name. -/
namespace Gk
open PySem PySem.Spec PyProof.Rows L2
structure Xown (P : Program) (w : World) (K : PySem.W.Frag) (mg : Str → Option Value) (base : Heap) (x par fld : Str) (C : Addr) : Prop where
  g : mg x = some (.ref C)
  oex : OexC K C
  ini : ∃ (f : Addr) (fd : FuncData), FnOk P w K mg base L2.CX0 1 f fd ["self", par] (spInit C fld) ∧ PySem.W.findIn K (.ref C) "__init__" = some (some (.ref f)) ∧ PySem.W.typeIn K (.ref f) = some (.type "function") ∧ Binds K fd ["self", par] []
  no : PySem.W.findIn K (.ref C) fld = some none
  te : PySem.W.exmOne K (.ref C) (.ref C) = some true
  xf : XfC K C
theorem spInit_of {C a : Addr} {fld : Str} {v : V} {H1 : Hp} {Q : XK} {E : XK} (na : H1 a = none) (q : ∀ d, H1 d = none → Q (.ref C) (some d) (upd H1 d (.xd [(fld, v)]))) :
    spInit C fld [.ref a, v] (upd H1 a (exo a C none)) (fun v H2 => v = .non ∧ ∃ (d : Addr) (fs : List (Str × V)), H2 a = some (exo a C (some d)) ∧ H2 d = some (exd d fs) ∧ H1 d = none ∧ Q (.ref C) (some d) (upd (del H2 a) d (.xd fs))) E := by
  refine ⟨a, v, rfl, upd_same, fun dx ndx nda => ?_⟩
  rw [upd_ne nda] at ndx
  refine ⟨rfl, dx, [(fld, v)], upd_same, ?_, ndx, ?_⟩
  · rw [upd_ne nda, upd_same]
  · have e : upd (del (upd (upd (upd H1 a (exo a C none)) dx (exd dx [(fld, v)])) a (exo a C (some dx))) a) dx (.xd [(fld, v)]) = upd H1 dx (.xd [(fld, v)]) := by
      funext b
      by_cases hb : b = dx
      · rw [hb, upd_same, upd_same]
      · rw [upd_ne hb, upd_ne hb]
        by_cases ha : b = a
        · rw [ha, del_same, na]
        · rw [del_ne ha, upd_ne ha, upd_ne hb, upd_ne ha]
    rw [e]
    exact q dx ndx
/-- X(e), raised -/
def tRz (C : Addr) (fld : Str) (te : TE) : L2.St → Hp → XK → Prop := fun σ H Q => te σ H fun v H1 => ∀ d, H1 d = none → Q (.ref C) (some d) (upd H1 d (.xd [(fld, v)]))
section
variable {X : Cx} {x par fld : Str} {C : Addr} {j : Nat} {e : Expr} {te : TE} {p pos : Pos}
theorem pmk_own (T : Xown X.prog X.w X.K X.mg X.base x par fld C) (hr : Room j X.A) (hk : 2 ≤ j) (hg : Gl X x) (he : PE X e te) (hdb : (x == ("__debug__" : Str)) = false := by decide)
    (h1 : starEach [e] X.env = (false, eval e X.env) :: starEach [] X.env := by rfl) (hpl : (backTo pos (starEach [] X.env)).any (·.1) = false := by rfl) : PMk X (.Call (.Name x p) [e] [] pos) (tRz C fld te) := by
  obtain ⟨f, fd, F, i1, i2, b⟩ := T.ini
  intro pins s σ H Q I h
  refine pmk_oex (CX := L2.CX0) T.oex i1 i2 F (hr.mono hk) b .nil (fun _ _ _ _ _ _ _ h => h.elim) hg T.g (pa_cons (pe_mid he) pa_nil (hs := h1)) hdb h1 hpl pins s σ H Q I ?_
  exact ⟨_, h, fun v H1 q => ⟨by show 1 ≤ 1000; decide, fun a na => spInit_of na q⟩⟩
theorem ps_raiseOwn {W : WX} {rp : Pos} (T : Xown X.prog X.w X.K X.mg X.base x par fld C) (hc : X.calm = true) (tk : Takes X W) (hr : Room j X.A) (hk : 2 ≤ j) (hg : Gl X x) (he : PE X e te) (hdb : (x == ("__debug__" : Str)) = false := by decide)
    (h1 : starEach [e] X.env = (false, eval e X.env) :: starEach [] X.env := by rfl) (hpl : (backTo pos (starEach [] X.env)).any (·.1) = false := by rfl) :
    PS X (.Raise (some (.Call (.Name x p) [e] [] pos)) none rp) (fun _ σ H => tRz C fld te σ H fun cls d H' => W cls d σ H') := ps_raise hc tk (pmk_own T hr hk hg he hdb h1 hpl)
end
/-- a def that may raise -/
structure DfX (P : Program) (w : World) (K : PySem.W.Frag) (mg : Str → Option Value) (base : Heap) (k : Nat) (x : Str) (ps : List Str) (sp : Sp) : Prop where
  ex : ∃ (f : Addr) (fd : FuncData), FnOk P w K mg base (L2.CX P w) k f fd ps sp ∧ mg x = some (.ref f) ∧ PySem.W.keepIn K (.ref f) = true ∧ Binds K fd ps []
section
variable {X : Cx} {k j : Nat} {x : Str} {ps : List Str} {sp : Sp} {p pos : Pos} {e : Expr} {es : List Expr} {t : TA}
theorem pe_dx {W : WX} (D : DfX X.prog X.w X.K X.mg X.base k x ps sp) (tk : Takes X W) (hr : Room j X.A) (hk : k ≤ j) (hg : Gl X x) (ha : PA X (e :: es) t)
    (hdb : (x == ("__debug__" : Str)) = false := by decide) (he : starEach (e :: es) X.env = (false, eval e X.env) :: starEach es X.env := by rfl)
    (hpl : (backTo pos (starEach es X.env)).any (·.1) = false := by rfl) : PE X (.Call (.Name x p) (e :: es) [] pos) (tCallS sp (WE W) t) := by
  obtain ⟨f, fd, F, m, kp, b⟩ := D.ex
  exact pe_callS (F.mono hk) hr hg m kp b (fun σ => passAt tk σ) ha hdb he hpl
end
end Gk
/-! An own exception's facts, from what is written. -/
namespace Gk
open PySem PySem.Spec PyProof.Rows L2
/-- an error of a class is what the class names -/
theorem exm_same {K : PySem.W.Frag} {S : Addr} (h1 : PySem.W.subIn K (.ref S) (.type "BaseException") = some true) (h2 : PySem.W.isClsIn K S = true) (h3 : PySem.W.typeIn K (.ref S) = some (.type "type")) (h4 : PySem.W.subIn K (.ref S) (.ref S) = some true) :
    PySem.W.exmOne K (.ref S) (.ref S) = some true := by
  have e1 : (PySem.W.subIn K (.ref S) (.type "BaseException") == some true) = true := by rw [h1] <;> rfl
  have e2 : ((PySem.W.clsIn K S).isSome && PySem.W.typeIn K (.ref S) == some (.type "type")) = true := by
    have h2' : (PySem.W.clsIn K S).isSome = true := h2
    rw [h2', h3] <;> rfl
  show (if (PySem.W.subIn K (.ref S) (.type "BaseException") == some true) = true then (if ((PySem.W.clsIn K S).isSome && PySem.W.typeIn K (.ref S) == some (.type "type")) = true then PySem.W.subIn K (.ref S) (.ref S) else none) else none) = some true
  rw [if_pos e1, if_pos e2]
  exact h4
section
variable {P : Program} {w : World} {K : PySem.W.Frag} {mg : Str → Option Value} {base : Heap} {C f cc cda N : Addr} {x par fld qual txt nm q file : Str} {st : Stmt} {k : Nat} {p0 p1 p2 p3 p4 pos q1 q2 q3 q4 : Pos}
variable {bs bm sub : List Value} {sn : List Str} {ab : Bool} {col : Option Bool} {dd od an cdd cld : Option Addr} {m0 m1 m2 m3 m5 : Option Value} {oc kV doc pm ct ccl cl : Value} {osl ccs csl : Array (Option Value)} {vs : Array Value} {tf : Tok}
theorem own_of (S : EScope ["self", par] (defScope st))
    (hbody : defBody st = [.Expr (.Call (.Attribute (.Call (.Name "super" p0) [] [] p1) "__init__" p2) [.Constant (.str txt) k p3] [] p4) pos, .Assign [.Attribute (.Name "self" q1) fld q2] (.Name par q3) q4])
    (hpar : ((defArgs st).posonlyargs ++ (defArgs st).args).head?.map (·.arg) = some "self")
    (hbind : ∀ (kV doc pm : Value) (an : Option Addr) (cdv ct : Value) (cc : Addr) (us : List Value), us.length = 2 → bindArgs (PySem.W.ksFn "__init__" qual (defArgs st) (defBody st) (defScope st) .none kV doc pm an cdv ct cc) ⟨us, []⟩ = pure ((["self", par] : List Str).zip us))
    {pl : Addr → Sem Bool}
    (he : ∀ L, eval (.Call (.Attribute (.Call (.Name "super" p0) [] [] p1) "__init__" p2) [.Constant (.str txt) k p3] [] p4) (PySem.W.ksEnv qual (defScope st) L f (.ref cda) cc) = (do
      let ov ← attributeBase (.Call (.Name "super" p0) [] [] p1) "__init__" (PySem.W.ksEnv qual (defScope st) L f (.ref cda) cc) (eval (.Call (.Name "super" p0) [] [] p1) (PySem.W.ksEnv qual (defScope st) L f (.ref cda) cc))
      standAt p2.atName
      let (f', first) ← holding [ov] (getMethod ov "__init__" (pl L))
      callWith p4 f' first (backTo p4 (starEach [.Constant (.str txt) k p3] (PySem.W.ksEnv qual (defScope st) L f (.ref cda) cc))) []))
    (hsw : ∀ L, swapsWith (.Name par q3) (some (.Attribute (.Name "self" q1) fld q2)) q4.line (PySem.W.ksEnv qual (defScope st) L f (.ref cda) cc) = pure false)
    (hp : (("self" : Str) == par) = false) (hd1 : (par == ("__debug__" : Str)) = false) (hd2 : (par == ("__classdict__" : Str)) = false)
    (g : mg x = some (.ref C)) (hsup : mg "super" = none)
    (xl : K.lookup C = some (excClassObj nm q C N bs bm true sn sub ab col dd m0 m1 m2 m3 m5 "ValueError.__new__")) (hbm : PySem.HandSPX.refsVE bm = true)
    (sa : PySem.W.findIn K (.ref C) "__setattr__" = some (some (.builtin "object.__setattr__"))) (ga : PySem.W.findIn K (.ref C) "__getattribute__" = some (some (.builtin "BaseException.__getattribute__"))) (gg : PySem.W.findIn K (.ref C) "__getattr__" = some none) (no : PySem.W.findIn K (.ref C) fld = some none)
    (iC : PySem.W.findIn K (.ref C) "__init__" = some (some (.ref f))) (tI : PySem.W.typeIn K (.ref f) = some (.type "function"))
    (xli : K.lookup f = some ⟨oc, od, .func (PySem.W.ksFn "__init__" qual (defArgs st) (defBody st) (defScope st) .none kV doc pm an (.ref cda) ct cc), osl⟩) (co : PySem.W.codeIn K (.ref cda) qual = true)
    (xcx : K.lookup cda = some ⟨ccl, cdd, .fields vs, ccs⟩) (xvx : vs[2]? = some (.str file tf)) (xfi : ((P.main.file : Str) == file) = true) (xto : (P.main.scope.names.lookup ("super" : Str)).isSome = false)
    (xce : K.lookup cc = some ⟨cl, cld, .cell (some (.ref C)), csl⟩) (xsu : PySem.W.ks_superIn K C C "__init__" = some (some (.builtin "ValueError.__init__"))) (xse : PySem.W.mroIn K C (.ref C) = some true) (xve : PySem.W.subIn K (.ref C) (.type "ValueError") = some true)
    (xan : PySem.W.nsIn K cStatics "thirdparty.any" = some none) (xkf : PySem.W.keepIn K (.ref f) = true) (xkC : PySem.W.keepIn K (.ref C) = true) (xeC : PySem.W.subIn K (.ref C) (.type "BaseException") = some true) (xtC : PySem.W.typeIn K (.ref C) = some (.type "type")) (xhC : PySem.W.hasDictIn K C = true)
    (xic : PySem.W.isClsIn K C = true) (xsC : PySem.W.subIn K (.ref C) (.ref C) = some true) : Xown P w K mg base x par fld C := by
  have oex : OexC K C := ⟨⟨nm, q, N, bs, bm, sn, sub, ab, col, dd, m0, m1, m2, m3, m5, xl, hbm⟩, sa, xeC, xtC, xkC⟩
  have T : EInit P K C f cc (PySem.W.ksFn "__init__" qual (defArgs st) (defBody st) (defScope st) .none kV doc pm an (.ref cda) ct cc) qual (defArgs st) (defBody st) (defScope st) cda :=
    ⟨oex, ⟨oc, od, osl, kV, doc, pm, an, ct, xli, rfl⟩, co, ⟨ccl, cdd, vs, ccs, file, tf, xcx, xvx, xfi⟩, xto, ⟨cl, cld, csl, xce⟩, xsu, xse, xve, xan, iC, tI, xkf⟩
  refine ⟨g, oex, ⟨f, _, ?_, iC, tI, .all fun us hl => hbind kV doc pm an (.ref cda) ct cc us hl⟩, no, exm_same xeC xic xtC xsC, ⟨ga, gg, xeC, xhC⟩⟩
  rw [hbody] at T
  rw [hbody]
  exact init_ok (w := w) (mg := mg) (base := base) T S hp no hd1 hd2 hsup hpar he (fun L => by
    have e : (PySem.W.ksEnv qual (defScope st) L f (.ref cda) cc).scope.kind = .function := S.kind
    unfold interactive
    rw [e]
    rfl) hsw
end
end Gk
/-! An own exception that is kept behind the suite that caught it. -/
namespace Gk
open PySem PySem.Spec PyProof.Rows L2
/-- a caught exception, held as a value -/
def exk (a : Addr) (cls : Value) (d : Option Addr) : HO := .ext fun h => ∃ oe vs, h.get? a = some oe ∧ Zc cls d oe ∧ oe.data = .fields vs
theorem exk_ok {P : Program} {w : World} {H : Hp} {h : Heap} {a : Addr} {cls : Value} {d : Option Addr} {oe : Obj} {vs : Array Value} (e : h.get? a = some oe) (z : Zc cls d oe) (v : oe.data = .fields vs) : ObjOk P w H h a (exk a cls d) :=
  ⟨⟨oe, vs, e, z, v⟩, ⟨oe, e⟩, fun _ _ ⟨o, us, e1, z1, v1⟩ k => ⟨o, us, k _ e1, z1, v1⟩⟩
theorem exk_at {P : Program} {w : World} {H : Hp} {h : Heap} {a : Addr} {cls : Value} {d : Option Addr} (x : HOk P w H h) (e : H a = some (exk a cls d)) : ∃ oe vs, h.get? a = some oe ∧ Zc cls d oe ∧ oe.data = .fields vs := (x a _ e).1
section
variable {X : Cx} {pins : List (Addr × Obj)} {σ : L2.St} {H : Hp} {s : Shared}
/-- an object of ours that was not told of is told of from here on -/
theorem adopt {a : Addr} {oe : Obj} {vs : Array Value} {o : HO} (I : Inv X pins σ H s) (ha : s.heap.get? a = some oe) (hd : oe.data = .fields vs) (na : H a = none) (nL : a ≠ X.env.locals) (np : ∀ p ∈ X.pn ++ pins, p.1 ≠ a) (n0 : ∀ u, X.s_0.heap.get? a = some u → a ∉ X.ex → False)
    (new : ObjOk X.prog X.w (upd H a o) s.heap a o) : Inv X pins σ (upd H a o) s := by
  have far : ∀ {b : Addr} {u : HO}, H b = some u → (upd H a o) b = some u := fun {b u} e => by
    rw [upd_ne (fun z => by rw [z, na] at e; cases e)]
    exact e
  refine ⟨I.ok, I.os, I.bare, ⟨I.base.keep, I.base.slot, fun b u e n x => ?_, I.base.there, fun b xs e => far (I.base.tups b xs e), fun b p u e => far (I.base.frzs b p u e), fun b ps e => ?_⟩, I.loc, I.cell, ?_, fun x c e => ?_, fun p hp => ?_, I.hok.laidN (fun _ _ q => q) na new, I.len⟩
  · have : b ≠ a := fun z => by rw [z] at e x; exact n0 u e x
    rw [upd_ne this]
    exact I.base.free b u e n x
  · obtain ⟨more, g⟩ := I.base.tbls b ps e
    exact ⟨more, far g⟩
  · rw [upd_ne (Ne.symm nL)]
    exact I.free
  · have : c ≠ a := fun z => by
      obtain ⟨v, oc, e1, e2⟩ := I.cell x c e
      rw [z, ha] at e1
      cases e1
      rw [hd] at e2
      cases e2
    rw [upd_ne this]
    exact I.freeC x c e
  · obtain ⟨h1, h2, h3⟩ := I.pin p hp
    rw [upd_ne (np p hp)]
    exact ⟨h1, h2, h3⟩
end
/-- the wish of «except c as n» where the clause's suite keeps the exception: it always answers -/
def wKeep (K : PySem.W.Frag) (c : Value) (i : Nat) (ts : Addr → Value → Option Addr → TS) (D : Ends) : WX := fun cls d σ H =>
  PySem.W.exmOne K cls c = some true ∧ ∀ a, H a = none → ts a cls d { nx := fun σ' H' => H' a = none → D.nx (σ'.set i none) (upd H' a (exk a cls d)), rt := fun _ _ => False, bk := fun _ _ => False, ct := fun _ _ => False } (σ.set i (some (.ref a))) H
section
variable {X : Cx} {x n : Str} {c : Value} {i : Nat} {body suite : List Stmt} {b₀ : Stmt} {np pos pos' : Pos} {tb : WX → TS} {ts : Addr → Value → Option Addr → TS}
theorem ps_try_keep (hs : X.stack = X.env :: X.outer) (hf : X.env.frame = some X.env.locals) (hN : X.N.Nodup) (hi : X.N[i]? = some n) (hln : X.env.kindOf n = some .local) (hc : Names X x c)
    (hb : ∀ (W : WX) (pn : List (Addr × Obj)) (xe : Value → Shared → Prop), Takes (X.tr pn xe) W → PassesOwn (model X.prog X.w) X.A X.env xe → PSs (X.tr pn xe) body (tb W))
    (hsu : ∀ (a : Addr) (oe : Obj) (cls : Value) (d : Option Addr) (pn : List (Addr × Obj)), Zc cls d oe → (∃ vs, oe.data = .fields vs) → PSs (X.suite a ((a, oe) :: pn)) (b₀ :: suite) (ts a cls d)) :
    PS X (.Try body [.ExceptHandler (some (.Name x np)) (some n) (b₀ :: suite) pos'] [] [] pos) (fun D σ H => tb (wKeep X.K c i ts D) D σ H) := by
  refine ⟨fun pins s σ H D I h => wpAny_Try_except (wpAny_mono ((hb (wKeep X.K c i ts D) (X.pn ++ pins) _ ?_ PassesOwn.looking).run [] s σ H D (I.toTry _) h) ?_ fun _ _ z => z)⟩
  · intro u s' xx
    obtain ⟨a, B, sI, ps, σ1, H1, cls, d, eu, J0, ground, up, sky, na, hos, hag, match_, wish⟩ := xx
    subst eu
    have ok := I.ok
    have J := J0.ofTry (pins := pins) ok
    have fr : X.A.frames = some (X.env :: X.outer) := by rw [ok.frames, hs]
    have sky1 : Sky B (X.env :: X.outer) a (Zc cls d) X.env.locals s'.heap := hs ▸ sky
    refine Sky.land Zc.steady fr hf sky1 fun g fl ug => ?_
    have Jg : Inv X pins σ1 H1 { s' with heap := g } := J.landed ground fl.1 (up.trans ug) hos hag
    obtain ⟨og, vg, eg, zg, dg⟩ := fl.there
    -- a is no frame, and nothing that stood before
    have far : a ∉ frs (X.env :: X.outer) := fun m => by
      obtain ⟨_, o', e', nf⟩ := fl.2.2.1.mem m
      rw [eg] at e'
      cases e'
      exact nf _ dg
    have frsE : frs (X.env :: X.outer) = X.env.locals :: X.fs := by
      show List.filterMap _ _ = _
      rw [List.filterMap_cons, hf]
      rfl
    have nL : a ≠ X.env.locals := fun z => far (by rw [frsE, z]; exact List.mem_cons_self)
    have nF : a ∉ X.fs := fun m => far (by rw [frsE]; exact List.mem_cons_of_mem _ m)
    have noB : ∀ o, B.get? a = some o → False := fun o e => by rw [fl.2.1] at e; cases e
    have none0 : ∀ o, sI.heap.get? a = some o → False := fun o e => noB o (ground a o e (by rw [show X.stack = X.env :: X.outer from hs] at *; exact far))
    have npn : ∀ p ∈ X.pn ++ pins, p.1 ≠ a := fun p hp z => by
      have q := (J.pin p hp).1
      rw [z] at q
      exact none0 _ q
    have n0 : ∀ o, X.s_0.heap.get? a = some o → a ∉ X.ex → False := fun o e nx => by
      obtain ⟨o', e'⟩ := J.base.there a o e nx
      exact none0 o' e'
    refine PySem.W.exc_clause_as ?_
    have Sg := Jg.suite eg dg na nL nF
    have same : ∀ {Q : Value → Shared → Prop} {E : Value → Shared → Prop}, Q c { s' with heap := g } → wpAny (model X.prog X.w) (X.A.mark (some (.ref a))) (eval (.Name x np) X.env) Q E { s' with heap := g } := fun {Q E} q => by
      rcases hc with ⟨g1, g2, g3 | ⟨g3, g4, g5⟩⟩
      · exact ld_glob (X := X.suite a ((a, og) :: (X.pn ++ pins))) Sg g1 g3 q g2
      · exact ld_blt (X := X.suite a ((a, og) :: (X.pn ++ pins))) Sg g1 g3 g4 q g5 g2
    refine same ⟨true, PySem.W.exm_one (M := model X.prog X.w) Jg.kIn (fun A Q E s k q => wpAny_typeOf_ref (k _ _ eg) (by rw [zg.1]; exact q)) match_, ?_⟩
    show wpAny _ _ (setFlight (.ref a) none) _ _ _
    refine HandSPX.lands_againZ fl fun g2 fl2 ug2 => ?_
    have J2 : Inv X pins σ1 H1 { s' with heap := g2 } := J.landed ground fl2.1 ((up.trans ug).trans ug2) hos hag
    obtain ⟨o2, v2, e2, z2, d2⟩ := fl2.there
    refine store_ok (X := X.suite a ((a, o2) :: (X.pn ++ pins))) (v := .ref a) (J2.suite e2 d2 na nL nF) hN hi (.inl hln) rfl (fun s3 S3 => ?_) (.inr hln)
    refine wpAny_mono ((hsu a o2 cls d (X.pn ++ pins) z2 ⟨_, d2⟩).run [] s3 _ H1 _ S3 (wish a na)) (fun f s4 q4 => ?_) (fun _ _ z => False.elim z)
    cases f with
    | next =>
      obtain ⟨σ4, H4, S4, q4⟩ := q4
      obtain ⟨p1, p2, _⟩ := S4.pin (a, o2) (List.mem_append_left _ List.mem_cons_self)
      have J4 := S4.unsuite (pins := pins) ok
      exact gone_ok (adopt J4 p1 d2 p2 nL npn n0 (exk_ok p1 z2 d2)) hN hi hln fun s5 J5 => ⟨_, _, J5, q4 p2⟩
    | brk => obtain ⟨_, _, _, z⟩ := q4; exact False.elim z
    | cont => obtain ⟨_, _, _, z⟩ := q4; exact False.elim z
    | ret u => obtain ⟨_, _, _, _, _, z⟩ := q4; exact False.elim z
  · intro f s1 q
    have ok := I.ok
    cases f with
    | next => obtain ⟨σ1, H1, J, z⟩ := q; exact wpAny_execs_nil ⟨σ1, H1, J.ofTry ok, z⟩
    | brk => obtain ⟨σ1, H1, J, z⟩ := q; exact ⟨σ1, H1, J.ofTry ok, z⟩
    | cont => obtain ⟨σ1, H1, J, z⟩ := q; exact ⟨σ1, H1, J.ofTry ok, z⟩
    | ret u => obtain ⟨v, σ1, H1, J, r, z⟩ := q; exact ⟨v, σ1, H1, J.ofTry ok, r, z⟩
end
end Gk
/-! What is asked of a kept exception: its kind, its value. -/
namespace Gk
open PySem PySem.Spec PyProof.Rows L2
/-- the exception at a: of the class at D, with what it keeps -/
def Kept (H : Hp) (a D : Addr) (fs : List (Str × V)) : Prop := ∃ d, H a = some (exk a (.ref D) (some d)) ∧ H d = some (.xd fs)
theorem Kept.same {H H' : Hp} {a D : Addr} {fs : List (Str × V)} (h : Kept H a D fs) (s : ∀ b o, H b = some o → H' b = some o) : Kept H' a D fs := by
  obtain ⟨d, h1, h2⟩ := h
  exact ⟨d, s _ _ h1, s _ _ h2⟩
section
variable {X : Cx} {pins : List (Addr × Obj)} {σ : L2.St} {H : Hp} {s : Shared}
/-- what stands there -/
theorem kept_at {a D : Addr} {fs : List (Str × V)} (I : Inv X pins σ H s) (k : Kept H a D fs) : ∃ (oe od : Obj), PySem.W.InstAt s.heap a oe D (some od) ∧ ∀ (n : Str) (v : V), fs.lookup n = some v → ∃ u, PySem.W.lookIn n od = some (some u) ∧ RelV v u := by
  obtain ⟨d, h1, h2⟩ := k
  obtain ⟨oe, vs, e, z, v⟩ := exk_at I.hok h1
  have hd : ObjOk X.prog X.w H s.heap d (.xd fs) := I.hok d _ h2
  obtain ⟨m, ns, rel⟩ := hd
  obtain ⟨od, eo, lo⟩ := lookIn_ns ns
  refine ⟨oe, od, ⟨e, z.1, by unfold PySem.W.notCls; rw [v] <;> rfl, by rw [z.2]; exact eo⟩, fun n x hx => ?_⟩
  have g := rel n
  rw [hx] at g
  obtain ⟨u, hu, ru⟩ := RelO.some_of g
  exact ⟨u, by rw [lo, hu], ru⟩
end
/-- isinstance(e, c) of a kept exception -/
def rIsK (K : PySem.W.Frag) : List V → Hp → VK → Prop := fun xs H Q => ∃ (a D : Addr) (fs : List (Str × V)) (c : V) (cv : Value) (b : Bool), xs = [.ref a, c] ∧ Kept H a D fs ∧ ExcC K D ∧ (∀ u, RelV c u → u = cv) ∧ PySem.W.kitOne K (.ref D) cv = some b ∧ Q (.bl b) H
theorem call_isK {X : Cx} : CallR X (.builtin "isinstance") (rIsK X.K) := by
  intro pins s σ H xs us Q I r h
  obtain ⟨a, D, fs, c, cv, b, rfl, k, C, hcv, e, q⟩ := h
  rcases r with _ | ⟨ra, _ | ⟨rc, _ | _⟩⟩
  obtain ⟨oe, od, J, _⟩ := kept_at I k
  obtain ⟨cd, hcl, _⟩ := PySem.W.any_some C.hd
  cases ra
  obtain rfl := hcv _ rc
  exact PySem.W.kia_one (PySem.W.kitx_exc (by rw [hcl]; rfl) C.hg C.hk C.hs C.ha C.hn C.ht C.hm) I.kIn J e (fun z => nomatch z) fun tk => ⟨.bl b, H, I.kept (t' := tk) fun _ _ z => z, rfl, q⟩
/-- e.n of a kept exception -/
def tXk (K : PySem.W.Frag) (n : Str) (te : TE) : TE := fun σ H Q => te σ H fun x H1 => ∃ (a D : Addr) (fs : List (Str × V)) (v : V), x = .ref a ∧ Kept H1 a D fs ∧ XfC K D ∧ PySem.W.findIn K (.ref D) n = some none ∧ fs.lookup n = some v ∧ Q v H1
theorem pe_xk {X : Cx} {e : Expr} {te : TE} {pos : Pos} {n : Str} (he : PE X e te) (hb : attributeBase e n X.env (eval e X.env) = eval e X.env := by rfl) : PE X (.Attribute e n pos) (tXk X.K n te) := by
  refine ⟨fun pins s σ H Q I h => attr_of hb (thn (he.run pins s σ H _ I h) fun u s1 ⟨x, H1, I1, rx, a, D, fs, v, ex, k, T, no, l, q⟩ => ?_)⟩
  subst ex
  cases rx
  obtain ⟨oe, od, J, own⟩ := kept_at I1 k
  obtain ⟨y, hy, ry⟩ := own n v l
  exact HandSPX.exc_get I1.kIn J T.ga T.gg T.exC (PySem.W.findObj_own T.hdC no rfl hy) (handed_of ry) ⟨v, H1, I1.tok _, ry, q⟩
end Gk
/-! An own exception made as a value: positionally, by keyword, without a value; what isinstance and its field then say. -/
namespace Gk
open PySem PySem.Spec PyProof.Rows L2
section
variable {M : Model} {A : Around} {E : Value → Shared → Prop} {h : Heap} {g : Array GenState} {d : Drawn} {t : Nat} {os : OsState}
variable {nm q : Str} {C N : Addr} {bs bm bmB : List Value} {hdct : Bool} {sn : List Str} {sub : List Value} {ab : Bool} {col : Option Bool} {dd : Option Addr} {k0 k1 k2 k3 k5 : Option Value} {B newId initId : String}
theorem check_new_ownW (F : ExcBaseFacts B newId initId bmB) (hT : ∀ X : String, bm.contains (.type X) = bmB.contains (.type X)) {rest : List Value} {kw : List (Str × Value)} {Q : Unit → Shared → Prop}
    (hC : h.get? C = some (excClassObj nm q C N bs bm hdct sn sub ab col dd k0 k1 k2 k3 k5 newId)) (hq : Q () ⟨h, g, d, t, os⟩) : wpAny M A (checkBuiltinCall newId ⟨.ref C :: rest, kw⟩) Q E ⟨h, g, d, t, os⟩ := by
  have hcont : (Value.ref C :: bm).contains (.type B) = true := by rw [List.contains_cons, hT, F.hasB, Bool.or_true]
  have hstar := F.noStar
  simp only [checkBuiltinCall, F.newKind, F.newSplit, F.newRow]
  repeat (first | refine wpAny_loadPart_at hC ?_ | (refine wpAny_isSubtype_exc hC ?_; rw [hcont]) | refine wpAny_staticBase_exc hC ?_ | refine wpAny_madeBy_exc hC ?_ | simp only [bne_self_eq_false, Bool.false_eq_true, if_false] | wp_step)
  exact hq
theorem check_tc_W {rest : List Value} {kw : List (Str × Value)} {Q : Unit → Shared → Prop} (hC : h.get? C = some (excClassObj nm q C N bs bm hdct sn sub ab col dd k0 k1 k2 k3 k5 newId))
    (hq : Q () ⟨h, g, d, t, os⟩) : wpAny M A (checkBuiltinCall "type.__call__" ⟨.ref C :: rest, kw⟩) Q E ⟨h, g, d, t, os⟩ := by
  have f3 := tc_sub
  have hT : (⟨h, g, d, t, os⟩ : Shared).TypeIs (.ref C) "type" := ⟨_, hC, rfl⟩
  simp only [checkBuiltinCall, tc_kind, tc_split]
  repeat (any_goals (first | assumption | with_reducible refine wpAny_loadPart_at hC ?_ | with_reducible refine wpAny_onRaise ?_ | with_reducible refine wpAny_map ?_ | wp_step))
end
section
variable {prog : Program} {w : World} {A : Around} {E : Value → Shared → Prop} {R : Result → Shared → Prop} {h : Heap} {g : Array GenState} {d : Drawn} {t : Nat} {os : OsState}
variable {nm q : Str} {C N : Addr} {bs bm bmB : List Value} {hdct : Bool} {sn : List Str} {sub : List Value} {ab : Bool} {col : Option Bool} {dd : Option Addr} {k0 k1 k2 k3 k5 : Option Value} {B newId initId : String}
theorem new_ownW (F : ExcBaseFacts B newId initId bmB) (hT : ∀ X : String, bm.contains (.type X) = bmB.contains (.type X)) {rest : List Value} {kw : List (Str × Value)}
    (hC : h.get? C = some (excClassObj nm q C N bs bm hdct sn sub ab col dd k0 k1 k2 k3 k5 newId))
    (hq : R (.ok (.ret (.ref (h.objs.size + 1)))) ⟨(h.push { cls := .type "tuple", data := .seq rest.toArray }).push
      { cls := .ref C, data := .fields #[.ref h.objs.size, .none, .none, .none, .bool false, .none] }, g, d, t, os⟩) (hrest : rest.length ≤ sizeLine) :
    codeAny (model prog w) A (.builtin newId ⟨.ref C :: rest, kw⟩) R ⟨h, g, d, t, os⟩ := by
  have hends := F.ends
  have hcB : (Value.ref C :: bm).contains (.type B) = true := by rw [List.contains_cons, hT, F.hasB, Bool.or_true]
  have hcA : (Value.ref C :: bm).contains (.type "AttributeError") = false := by rw [List.contains_cons, hT, F.noAttr]; rfl
  have hcN : (Value.ref C :: bm).contains (.type "NameError") = false := by rw [List.contains_cons, hT, F.noName]; rfl
  refine codeAny_builtinAt F.entry ?_
  unfold Builtin.«BaseException.__new__»
  refine PySem.wpAt_bind ?_
  show PySem.wpAt _ _ _ (stack >>= _) _ _ _
  refine PySem.wpAt_bind (PySem.wpAt_stack fun p below => PySem.wpAt_of_wpAny ?_)
  wp_walk
  refine PySem.wpAt_of_wpAny ?_
  rw [F.owner]
  repeat (first | with_reducible refine wpAny_madeHere_exc F.canon hC ?_ | with_reducible refine wpAny_loadPart_at hC ?_ | (with_reducible refine wpAny_isSubtype_exc hC ?_; first | rw [hcB] | rw [hcA] | rw [hcN]) | wp_step)
  show R _ _
  rw [Heap.size_push]
  exact hq
theorem type_call_ownW (F : ExcBaseFacts B newId initId bmB) (hT : ∀ X : String, bm.contains (.type X) = bmB.contains (.type X)) {rest : List Value} {kw : List (Str × Value)} {fI : Addr} {Q : Fin → Shared → Prop}
    (hC : h.get? C = some (excClassObj nm q C N bs bm hdct sn sub ab col dd k0 k1 k2 k3 k5 newId))
    (hi : PySem.W.Looks (model prog w) h (typeLookup (.ref C) "__init__") (some (.ref fI))) (hb : ∀ self, PySem.W.Looks (model prog w) h (bindSpecial (.ref fI) self) (.ref fI, [self])) (hrest : rest.length ≤ sizeLine)
    (hq : codeAny (model prog w) A (.call (.ref fI) ⟨.ref (h.objs.size + 1) :: rest, kw⟩)
      (fun r s' => match r with | .ok (.ret v) => v = .none ∧ Q (.done (.ret (.ref (h.objs.size + 1)))) s' | .ok _ => False | .error e => E e s')
      ⟨(h.push (PySem.W.kdv_tup rest)).push (PySem.HandSPX.excO C h.objs.size), g, d, t, os⟩) :
    wpAny (model prog w) A (Builtin.«type.__call__» ⟨.ref C :: rest, kw⟩) Q E ⟨h, g, d, t, os⟩ := by
  repeat (first | with_reducible refine wpAny_loadPart_at hC ?_ | with_reducible refine wpAny_madeBy_exc hC ?_ | wp_step)
  refine codeAny_call_builtin_code (Code.quiet_builtin _ F.quiet) (check_new_ownW F hT hC ?_)
  refine new_ownW F hT hC ?_ hrest
  show wpAny _ _ _ _ _ _
  have k : ∀ b o, h.get? b = some o → ((h.push (PySem.W.kdv_tup rest)).push (PySem.HandSPX.excO C h.objs.size)).get? b = some o := fun b o e => Heap.get?_push_of_some _ (Heap.get?_push_of_some _ e)
  have hC₁ := k _ _ hC
  have hget : ((h.push (PySem.W.kdv_tup rest)).push (PySem.HandSPX.excO C h.objs.size)).get? (h.objs.size + 1) = some (PySem.HandSPX.excO C h.objs.size) := by heap_get
  have hcC : (Value.ref C :: bm).contains (.ref C) = true := by simp
  have i1 := hi.keeps k
  have b1 := (hb (.ref (h.objs.size + 1))).keeps k
  unfold isInstance
  repeat (first | with_reducible refine wpAny_loadPart_at hget ?_ | (with_reducible refine wpAny_isSubtype_exc hC₁ ?_; rw [hcC]) | wp_step)
  show wpAny _ _ (typeLookup (.ref C) _) _ _ _
  refine i1.at ?_
  refine wpAny_holding (wpAny_bind (b1.at ?_))
  refine wpAny_bind (wpAny_call (codeAny_mono hq fun r s' z => ?_))
  rcases r with e | (v | _ | _ | _) <;> first | exact z | exact z.elim | skip
  obtain ⟨rfl, z⟩ := z
  first
    | exact wpAny_pure (wpAny_pure z)
    | (wp_walk; exact z)
theorem call_ownW (F : ExcBaseFacts B newId initId bmB) (hT : ∀ X : String, bm.contains (.type X) = bmB.contains (.type X)) {rest : List Value} {kw : List (Str × Value)} {fI : Addr}
    (hC : h.get? C = some (excClassObj nm q C N bs bm hdct sn sub ab col dd k0 k1 k2 k3 k5 newId))
    (hi : PySem.W.Looks (model prog w) h (typeLookup (.ref C) "__init__") (some (.ref fI))) (hb : ∀ self, PySem.W.Looks (model prog w) h (bindSpecial (.ref fI) self) (.ref fI, [self])) (hrest : rest.length ≤ sizeLine)
    (hq : codeAny (model prog w) (A.under (.builtin "type.__call__" ⟨.ref C :: rest, kw⟩)) (.call (.ref fI) ⟨.ref (h.objs.size + 1) :: rest, kw⟩) (PySem.W.InitBack (h.objs.size + 1) R)
      ⟨(h.push (PySem.W.kdv_tup rest)).push (PySem.HandSPX.excO C h.objs.size), g, d, t, os⟩) :
    codeAny (model prog w) A (.call (.ref C) ⟨rest, kw⟩) R ⟨h, g, d, t, os⟩ := by
  have f1 := tc_lookup
  have f2 := tc_bind (.ref C)
  have hTy : (⟨h, g, d, t, os⟩ : Shared).TypeIs (.ref C) "type" := ⟨_, hC, rfl⟩
  refine codeAny_of_tree ?_
  show wpAny _ _ (callAny (.ref C) _) _ _ _
  repeat (any_goals (first | assumption | with_reducible refine wpAny_loadPart_at hC ?_ | wp_step))
  refine ⟨rfl, ?_⟩
  refine codeAny_call_builtin_at (Code.quiet_builtin _ (by decide +kernel)) entry_typeCall (check_tc_W hC (type_call_ownW F hT hC hi hb hrest ?_))
  refine codeAny_mono hq fun r s' z => ?_
  rcases r with e | (v | _ | _ | _) <;> exact z
end
/-- an exception of ours as it is kept: of the class at D -/
def Xi (H : Hp) (a D : Addr) : Prop := H a = some (exo a D none) ∨ ∃ d fs, H a = some (exo a D (some d)) ∧ H d = some (exd d fs)
/-- .. with its one value -/
def Xv (H : Hp) (a D : Addr) (f : Str) (v : V) : Prop := ∃ d, H a = some (exo a D (some d)) ∧ H d = some (exd d [(f, v)])
theorem Xi.same {H H' : Hp} {a D : Addr} (h : Xi H a D) (s : Same H H') : Xi H' a D := by
  rcases h with h | ⟨d, fs, e, e2⟩
  · exact .inl (s _ _ h)
  · exact .inr ⟨d, fs, s _ _ e, s _ _ e2⟩
theorem Xv.same {H H' : Hp} {a D : Addr} {f : Str} {v : V} (h : Xv H a D f v) (s : Same H H') : Xv H' a D f v := let ⟨d, e, e2⟩ := h; ⟨d, s _ _ e, s _ _ e2⟩
theorem Xv.i {H : Hp} {a D : Addr} {f : Str} {v : V} (h : Xv H a D f v) : Xi H a D := let ⟨d, e, e2⟩ := h; .inr ⟨d, _, e, e2⟩
section
variable {X : Cx} {x par fld : Str} {C fI : Addr} {j : Nat} {e : Expr} {te : TE} {fd : FuncData} {p pos kp : Pos}
/-- the making, by whatever arguments -/
theorem run_oexW {CX : CXT} {k : Nat} {ps : List Str} {sp : Sp} {pins : List (Addr × Obj)} {σ : L2.St} {H1 : Hp} {s1 : Shared} {Q : VK} {us ws : List Value} {kw : List (Str × Value)} {vs : List V} (T : OexC X.K C) (iC : PySem.W.findIn X.K (.ref C) "__init__" = some (some (.ref fI))) (tI : PySem.W.typeIn X.K (.ref fI) = some (.type "function"))
    (F1 : FnOk X.prog X.w X.K X.mg X.base CX k fI fd ps sp) (hr : Room (k + 1) X.A) (hx : Passes CX X (fun _ _ _ => False)) (I1 : Inv X pins σ H1 s1) (r2 : Vals vs ws) (hus : us.length ≤ sizeLine)
    (hb : ∀ (s : Shared) (a : Addr), X.K.In s.heap → BindsTo s fd ⟨.ref a :: us, kw⟩ (ps.zip (.ref a :: ws)))
    (hq : ∀ a, H1 a = none → sp (.ref a :: vs) (upd H1 a (exo a C none)) (fun v H2 => v = .non ∧ Q (.ref a) H2) (fun _ _ _ => False)) :
    wpAny (model X.prog X.w) X.A (call (.ref C) us kw) (EP X pins σ Q) X.xe s1 := by
  obtain ⟨nm, q, N, bs, bm, sn, sub, ab, col, dd, k0, k1, k2, k3, k5, hC, hbm⟩ := T.cls
  obtain ⟨hp, g, dr, tk, os⟩ := s1
  have hsz : hp.objs.size ≤ hp.objs.size + 1 := Nat.le_succ _
  have hn : H1 (hp.objs.size + 1) = none := I1.hok.fresh hsz
  have kk : ∀ b o, hp.get? b = some o → ((hp.push (PySem.W.kdv_tup us)).push (PySem.HandSPX.excO C hp.objs.size)).get? b = some o := fun b o e => Heap.get?_push_of_some _ (Heap.get?_push_of_some _ e)
  have hget : ((hp.push (PySem.W.kdv_tup us)).push (PySem.HandSPX.excO C hp.objs.size)).get? (hp.objs.size + 1) = some (PySem.HandSPX.excO C hp.objs.size) := by heap_get
  have I2 : Inv X pins σ (upd H1 (hp.objs.size + 1) (exo (hp.objs.size + 1) C none)) ⟨(hp.push (PySem.W.kdv_tup us)).push (PySem.HandSPX.excO C hp.objs.size), g, dr, tk, os⟩ :=
    I1.laid (t' := tk) (a := hp.objs.size + 1) (o := exo (hp.objs.size + 1) C none) (h' := (hp.push (PySem.W.kdv_tup us)).push (PySem.HandSPX.excO C hp.objs.size)) kk hsz (exo_ok hget)
  have r3 : Vals (V.ref (hp.objs.size + 1) :: vs) (Value.ref (hp.objs.size + 1) :: ws) := .cons rfl r2
  refine wpAny_call (call_ownW F.excBase_ValueError (fun Y => PySem.HandSPX.refsVE_contains Y bm hbm) (I1.kIn _ _ hC) (PySem.W.looks_findIn I1.kIn iC) (fun self => PySem.W.bind_fn I1.kIn self tI) hus
    (codeAny_mono (F1.run _ X.stack _ _ ⟨Value.ref (hp.objs.size + 1) :: us, kw⟩ (Value.ref (hp.objs.size + 1) :: ws) _ _ (fun _ _ _ => False) (hr.make C us kw) (I2.env0.make C us kw) (hb _ _ I2.kIn) r3 (hq _ hn)) fun r s' hq' => ?_))
  cases r with
  | error er => exact hx pins σ _ _ er s' I2 hq'
  | ok fl =>
    cases fl with
    | ret u =>
      obtain ⟨v, H', I3, rv, ev, q3⟩ := I2.after hq'
      subst ev
      exact ⟨rv, ⟨V.ref (hp.objs.size + 1), H', I3, rfl, q3⟩⟩
    | next => exact False.elim hq'
    | brk => exact False.elim hq'
    | cont => exact False.elim hq'
/-- X(e), X(par=e): a new exception with its value -/
def tNewX (C : Addr) (fld : Str) (te : TE) : TE := fun σ H Q => te σ H fun v H1 => ∀ a H2, Same H1 H2 → H1 a = none → Xv H2 a C fld v → Q (.ref a) H2
theorem spInit_xv {C a : Addr} {fld : Str} {v : V} {H1 : Hp} {Q : VK} (na : H1 a = none) (q : ∀ H2, Same H1 H2 → Xv H2 a C fld v → Q (.ref a) H2) :
    spInit C fld [.ref a, v] (upd H1 a (exo a C none)) (fun v H2 => v = .non ∧ Q (.ref a) H2) (fun _ _ _ => False) := by
  refine ⟨a, v, rfl, upd_same, fun dx ndx nda => ⟨rfl, q _ (fun b o e => ?_) ⟨dx, upd_same, ?_⟩⟩⟩
  · rw [upd_ne nda] at ndx
    rw [upd_ne (ne_of_none e na), upd_ne (ne_of_none e ndx), upd_ne (ne_of_none e na)]
    exact e
  · rw [upd_ne nda, upd_same]
theorem pe_newX (T : Xown X.prog X.w X.K X.mg X.base x par fld C) (hr : Room j X.A) (hk : 2 ≤ j) (hg : Gl X x) (he : PE X e te) (hdb : (x == ("__debug__" : Str)) = false := by decide)
    (h1 : starEach [e] X.env = (false, eval e X.env) :: starEach [] X.env := by rfl) (hpl : (backTo pos (starEach [] X.env)).any (·.1) = false := by rfl) : PE X (.Call (.Name x p) [e] [] pos) (tNewX C fld te) := by
  obtain ⟨f, fd, F, i1, i2, b⟩ := T.ini
  refine ⟨fun pins s σ H Q I h => ?_⟩
  refine wpAny_Call_Name_kw (ld_glob I hg T.g ?_ hdb)
  have ha : PA X [e] (tCons (tMid te) tNil) := pa_cons (pe_mid he) pa_nil (hs := h1)
  refine PySem.W.callWith_K (h₀ := X.base) I.ok.mod.kin T.oex.kC (thn (ha.run pos pins s σ H (fun vs H1 => ∃ v, vs = [v] ∧ ∀ a H2, Same H1 H2 → H1 a = none → Xv H2 a C fld v → Q (.ref a) H2) I ?_) fun us s1 ⟨vs, H1, I1, r1, v, ev, q1⟩ => ⟨I1.kIn, ?_⟩) h1 hpl
  · exact ⟨_, h, fun v H1 q => ⟨v, rfl, q⟩⟩
  subst ev
  show wpAny _ _ (call (.ref C) us) _ _ _
  refine run_oexW (us := us) (ws := us) (kw := []) T.oex i1 i2 F (hr.mono hk) (fun _ _ _ _ _ _ _ h => h.elim) I1 r1 ?_ (fun s a X0 => ?_) fun a na => spInit_xv na fun H2 s2 x2 => q1 a H2 s2 na x2
  · rw [← Paired.length r1, sizeLine_eq]
    show 1 ≤ _
    omega
  · have := b s (.ref a :: us) X0 (by rw [List.append_nil, List.length_cons, ← r1.length]; rfl)
    rw [List.append_nil] at this
    exact this
end
end Gk
/-! The own exceptions with and without a value, from what is written; their makings and what is asked of them. -/
namespace Gk
open PySem PySem.Spec PyProof.Rows L2
structure XownW (P : Program) (w : World) (K : PySem.W.Frag) (mg : Str → Option Value) (base : Heap) (x par fld : Str) (C : Addr) : Prop where
  X : Xown P w K mg base x par fld C
  ini : ∃ (f : Addr) (fd : FuncData), FnOk P w K mg base L2.CX0 1 f fd ["self", par] (spInit C fld) ∧ PySem.W.findIn K (.ref C) "__init__" = some (some (.ref f)) ∧ PySem.W.typeIn K (.ref f) = some (.type "function") ∧ Binds K fd ["self", par] [] ∧
    ∀ (s : Shared) (u v : Value), K.In s.heap → BindsTo s fd ⟨[u], [(par, v)]⟩ ((["self", par] : List Str).zip [u, v])
def spInit0 (C : Addr) : Sp := fun vs H Q _ => ∃ a : Addr, vs = [.ref a] ∧ H a = some (exo a C none) ∧ Q .non H
structure XownN (P : Program) (w : World) (K : PySem.W.Frag) (mg : Str → Option Value) (base : Heap) (x : Str) (C : Addr) : Prop where
  g : mg x = some (.ref C)
  oex : OexC K C
  ini : ∃ (f : Addr) (fd : FuncData), FnOk P w K mg base L2.CX0 1 f fd ["self"] (spInit0 C) ∧ PySem.W.findIn K (.ref C) "__init__" = some (some (.ref f)) ∧ PySem.W.typeIn K (.ref f) = some (.type "function") ∧ Binds K fd ["self"] []
section
variable {P : Program} {w : World} {K : PySem.W.Frag} {mg : Str → Option Value} {base : Heap} {C f cc cda : Addr} {fd : FuncData} {qual : Str} {params : Arguments} {body : List Stmt} {scope : Scope}
theorem einv0 {A : Around} {outer : List Env} {s : Shared} {H : Hp} {u0 : Value} {v0 : V} {h0 : Heap} {tk : Nat} (T : EInit P K C f cc fd qual params body scope cda) (S : EScope ["self"] scope) (hd : A.handled = none) (e0 : Env0 P w K mg base A outer s H)
    (r0 : RelV v0 u0) (hns : h0.Ns s.heap.objs.size (fun x => ([("self", u0)] : List (Str × Value)).lookup x)) (k : ∀ b o, s.heap.get? b = some o → h0.get? b = some o) :
    Inv (ecx P w K mg base ["self"] qual scope f cda cc A outer s H) [] [some v0] H { s with heap := h0, toks := tk } := by
  obtain ⟨cl, cld, csl, hcell⟩ := T.cell
  have KXb : K.In base := e0.mod.kin
  have bcc := KXb _ _ hcell
  have one : ∀ x c, (ecx P w K mg base ["self"] qual scope f cda cc A outer s H).env.cells.lookup x = some c → x = "__class__" ∧ c = cc := fun x c h => by
    have h : ([("__class__", cc)] : List (Str × Addr)).lookup x = some c := h
    rw [List.lookup_cons] at h
    split at h
    · rename_i e
      exact ⟨by simpa using e, (Option.some.inj h).symm⟩
    · cases h
  have ok : (ecx P w K mg base ["self"] qual scope f cda cc A outer s H).Ok := by
    refine ⟨e0.mod, S.kind, rfl, rfl, Nat.le_refl _, fun y z c h1 h2 => ?_, fun y hy => ?_, fun y c hf => (nomatch hf), fun _ => hd, Around.frames_deeper e0.frames, .inr ⟨rfl, rfl⟩, fun b z => (by cases z), e0.bs, e0.bsz, fun b _ _ z => (by cases z), fun b z => (by cases z), e0.funs, e0.frf⟩
    · rw [(one y c h1).1, (one z c h2).1]
    · refine ⟨cc, ?_⟩
      have hy : scope.names.lookup y = some .cell ∨ scope.names.lookup y = some .free := hy
      rcases hy with hy | hy
      · exact absurd rfl (S.nocell _ (PySem.mem_of_lookup hy))
      · have e := S.free _ (PySem.mem_of_lookup hy) rfl
        have e : y = "__class__" := e
        subst e
        rfl
  have look : ∀ (i : Nat) (y : Str) (v : V), (["self"] : List Str)[i]? = some y → ([some v0] : List (Option V))[i]? = some (some v) → ∃ u, RelV v u ∧ Look (ecx P w K mg base ["self"] qual scope f cda cc A outer s H).env h0 (fun x => ([("self", u0)] : List (Str × Value)).lookup x) y u := by
    intro i y v h1 h2
    rcases i with _ | i
    · have e1 : ("self" : Str) = y := Option.some.inj h1
      have e2 : v0 = v := Option.some.inj (Option.some.inj h2)
      subst e1 e2
      refine ⟨u0, r0, .inl ⟨S.loc _ (List.mem_cons_self ..), ?_⟩⟩
      simp
    · cases h1
  exact ⟨ok, rfl, e0.bare, Un.kept k, ⟨_, hns, fun i y v h1 h2 _ => look i y v h1 h2⟩, fun y c h => by
      obtain ⟨_, rfl⟩ := one y c h
      exact ⟨_, _, k _ _ (e0.bs _ _ bcc).1, rfl⟩, e0.hok.fresh (Nat.le_refl _), fun y c h => by
      obtain ⟨_, rfl⟩ := one y c h
      exact (e0.bs _ _ bcc).2, fun p hp => (by cases hp), e0.hok.kept k, rfl⟩
theorem sup_init0 {A : Around} {outer : List Env} {s0 s : Shared} {H0 H : Hp} {a : Addr} {txt : Str} {k : Nat} {p0 p1 p2 p3 p4 pos : Pos} {rest : List Stmt} {Q : Flow → Shared → Prop}
    (T : EInit P K C f cc fd qual params body scope cda) (S : EScope ["self"] scope) {pl : Sem Bool} (he : eval (.Call (.Attribute (.Call (.Name "super" p0) [] [] p1) "__init__" p2) [.Constant (.str txt) k p3] [] p4) (PySem.W.ksEnv qual scope s0.heap.objs.size f (.ref cda) cc) = (do
      let ov ← attributeBase (.Call (.Name "super" p0) [] [] p1) "__init__" (PySem.W.ksEnv qual scope s0.heap.objs.size f (.ref cda) cc) (eval (.Call (.Name "super" p0) [] [] p1) (PySem.W.ksEnv qual scope s0.heap.objs.size f (.ref cda) cc))
      standAt p2.atName
      let (f', first) ← holding [ov] (getMethod ov "__init__" pl)
      callWith p4 f' first (backTo p4 (starEach [.Constant (.str txt) k p3] (PySem.W.ksEnv qual scope s0.heap.objs.size f (.ref cda) cc))) []))
    (hi : interactive (PySem.W.ksEnv qual scope s0.heap.objs.size f (.ref cda) cc) = false) (hpar : (params.posonlyargs ++ params.args).head?.map (·.arg) = some "self") (hsup : mg "super" = none)
    (I : Inv (ecx P w K mg base ["self"] qual scope f cda cc A outer s0 H0) [] [some (.ref a)] H s) (ha : H a = some (exo a C none))
    (h : ∀ s', Inv (ecx P w K mg base ["self"] qual scope f cda cc A outer s0 H0) [] [some (.ref a)] H s' → PySem.wpAt (model P w) (A.deeper (PySem.W.ksEnv qual scope s0.heap.objs.size f (.ref cda) cc)) (.func body (PySem.W.ksEnv qual scope s0.heap.objs.size f (.ref cda) cc)) (execs rest (PySem.W.ksEnv qual scope s0.heap.objs.size f (.ref cda) cc)) Q (fun _ _ => False) s') :
    PySem.wpAt (model P w) (A.deeper (PySem.W.ksEnv qual scope s0.heap.objs.size f (.ref cda) cc)) (.func body (PySem.W.ksEnv qual scope s0.heap.objs.size f (.ref cda) cc))
      (execs (.Expr (.Call (.Attribute (.Call (.Name "super" p0) [] [] p1) "__init__" p2) [.Constant (.str txt) k p3] [] p4) pos :: rest) (PySem.W.ksEnv qual scope s0.heap.objs.size f (.ref cda) cc)) Q (fun _ _ => False) s := by
  obtain ⟨oc, od, osl, kV, doc, pm, an, ct, lk, efd⟩ := T.fn
  obtain ⟨ccl, cdd, vs, ccs, file, tf, lcode, hvs, hfile⟩ := T.file
  obtain ⟨cl, cld, csl, lcell⟩ := T.cell
  obtain ⟨nm, q, N, bs, bm, sn, sub, ab, col, dd, k0, k1, k2, k3, k5, hC, hbm⟩ := T.oex.cls
  obtain ⟨ar, har, earg⟩ : ∃ ar, (params.posonlyargs ++ params.args).head? = some ar ∧ ar.arg = "self" := by
    cases e : (params.posonlyargs ++ params.args).head? with
    | none => rw [e] at hpar; cases hpar
    | some ar => rw [e] at hpar; exact ⟨ar, rfl, Option.some.inj hpar⟩
  have X : K.In s.heap := I.kIn
  have hcl : PySem.W.clsIn K C = some { name := nm, bases := bs, mro := .ref C :: bm, ns := N, qualname := q, hasDict := true, slotNames := sn, subclasses := sub, abstract := ab, collection := col, hasDel := false } := by unfold PySem.W.clsIn; rw [hC] <;> rfl
  obtain ⟨t1, ho⟩ := exo_at I.hok ha
  obtain ⟨m, hns, hloc⟩ := id I.loc
  have hm : m "self" = some (.ref a) := by
    obtain ⟨u, ru, l⟩ := hloc 0 "self" (.ref a) rfl rfl (.inl (S.loc _ (List.mem_cons_self ..)))
    obtain rfl : u = Value.ref a := ru
    rcases l with ⟨_, l⟩ | ⟨k, _⟩
    · exact l
    · have z : scope.names.lookup ("self" : Str) = some .local := S.loc _ (List.mem_cons_self ..)
      rcases k with k | k
      · have k : scope.names.lookup ("self" : Str) = some .cell := k
        rw [z] at k; cases k
      · have k : scope.names.lookup ("self" : Str) = some .free := k
        rw [z] at k; cases k
  obtain ⟨mb, hb1, hb2⟩ := I.mod.blt
  refine ks_wpAt_execs_cons (ks_wpAt_Expr_any (ks_wpAt_MethodCall (pl := pl) ?_ he) hi)
  refine ks_wpAt_super_base (env := PySem.W.ksEnv qual scope s0.heap.objs.size f (.ref cda) cc) S.sup S.cls (by decide) rfl (X _ _ lk) rfl har rfl (X _ _ lcode) rfl hvs hfile T.top ?_
  refine PySem.W.ks_loadName_global S.kind S.sup (Calls.loadGlobal_builtin (env := PySem.W.ksEnv qual scope s0.heap.objs.size f (.ref cda) cc) (I.mod.glob.keeps I.bk) hsup (hb1.keeps I.bk) ((hb2 "super" (by decide)).trans (show bootBuiltins "super" = some (.type "super") from by first | boot_by_name | rfl | kernel_rfl)) ⟨rfl, ?_⟩)
  refine wpAny_loadName_free S.kind S.cls rfl ⟨_, X _ _ lcell, rfl⟩ ?_
  rw [earg]
  refine wpAny_loadName_local S.kind (S.loc _ (List.mem_cons_self ..)) hns hm ?_
  obtain ⟨hh, g, d, tk, os⟩ := s
  refine ks_wpAny_isType_cls (X _ _ hC) rfl ⟨rfl, ?_⟩
  refine ks_wpAny_call_super (X _ _ hC) rfl ho rfl (fun c e => by cases e) (PySem.W.looks_mroIn X T.self) (fun h1 e1 kp1 => ?_)
  have X1 : K.In h1 := X.keeps kp1
  have I1 : PySem.W.InstAt h1 a { cls := .ref C, dict := none, data := .fields #[.ref t1, .none, .none, .none, .bool false, .none] } C none := ⟨kp1 _ _ ho, rfl, rfl, trivial⟩
  have hsup' := T.sup
  unfold PySem.W.ks_superIn at hsup'
  rw [hcl] at hsup'
  refine PySem.W.kxs_getMethod PySem.W.kxs_ValueError e1 (PySem.W.looks_opaque X1 T.any) (l₀ := .ref C :: bm) (fun A Q E s k q => wpAny_bind ((PySem.W.looks_clsIn X1 hcl) A _ E s k (wpAny_pure q))) rfl X1 hsup' (I1.type.andThen (PySem.W.looks_subIn X1 T.ve)) (PySem.W.ks_ne X1 I1 hcl) (by decide) ?_
  have kp2 : ∀ b o, hh.get? b = some o → (h1.push (PySem.W.kxs_mw "ValueError.__init__" a)).get? b = some o := fun b o e => Heap.get?_push_of_some _ (kp1 b o e)
  have I2 : Inv (ecx P w K mg base ["self"] qual scope f cda cc A outer s0 H0) [] [some (.ref a)] H ⟨h1.push (PySem.W.kxs_mw "ValueError.__init__" a), g, d, tk + 1, os⟩ := I.kept (t' := tk + 1) kp2
  have hu2 : (h1.push (PySem.W.kxs_mw "ValueError.__init__" a)).get? h1.objs.size = some (PySem.W.kxs_mw "ValueError.__init__" a) := Heap.get?_push_size _ rfl
  refine PySem.W.kxs_callWith (i := "ValueError.__init__") (x := a) rfl ?_
  refine Calls.evalArgs_plain ?_
  have lu : hh.objs.size ≤ h1.objs.size := by
    cases e : h1.get? hh.objs.size with
    | none => rw [e1] at e; cases e
    | some o => exact Nat.le_of_lt (Heap.lt_size e)
  have I3 : Inv (ecx P w K mg base ["self"] qual scope f cda cc A outer s0 H0) [(h1.objs.size, PySem.W.kxs_mw "ValueError.__init__" a)] [some (.ref a)] H ⟨h1.push (PySem.W.kxs_mw "ValueError.__init__" a), g, d, tk + 1, os⟩ :=
    I2.pins_of fun p hp => by
      rw [List.mem_singleton.mp hp]
      refine ⟨hu2, I.hok.fresh lu, Nat.ne_of_gt (Nat.lt_of_lt_of_le I.lt lu), I.nofs lu, fun v q => by cases q⟩
  refine wpAny_mono ((pa_cons (pe_str (X := ecx P w K mg base ["self"] qual scope f cda cc A outer s0 H0) (x := txt) (j := k) (pos := p3)) pa_nil).run p4 _ _ _ H (fun ys G => ys = [.str txt] ∧ G = H) I3 ⟨rfl, rfl⟩) (fun us s4 ⟨ys, H4, I4, r4, ey, eh⟩ => ?_) fun _ _ z => z
  subst ey eh
  obtain ⟨hu4, _⟩ := I4.pin _ (List.mem_append_right _ (List.mem_singleton.mpr rfl))
  refine ⟨hu4, ?_⟩
  obtain ⟨t4, ho4⟩ := exo_at I4.hok ha
  have hlen : us.length ≤ sizeLine := by
    rw [← Paired.length r4, sizeLine_eq]
    show 1 ≤ _
    omega
  have hC4 := I4.kIn _ _ hC
  obtain ⟨h4, g4, d4, tk4, os4⟩ := s4
  refine call_mw hC4 ho4 hu4 hlen fun h' t2 kk hx => ?_
  have J := I4.write (t' := tk4) (x := a) (e := a) (o := exo a C none) (by rw [ha]; exact True.intro) (.inl rfl) kk ⟨_, hx⟩ (exo_ok hx)
  have eu : upd H4 a (exo a C none) = H4 := by
    funext b
    by_cases hb : b = a
    · rw [hb, upd_same, ha]
    · rw [upd_ne hb]
  rw [eu] at J
  exact h _ (J.pins_of (pins' := []) fun p hp => by cases hp)
theorem init0_ok {txt : Str} {k : Nat} {p0 p1 p2 p3 p4 pos : Pos} {pl : Addr → Sem Bool}
    (T : EInit P K C f cc fd qual params [.Expr (.Call (.Attribute (.Call (.Name "super" p0) [] [] p1) "__init__" p2) [.Constant (.str txt) k p3] [] p4) pos] scope cda) (S : EScope ["self"] scope)
    (hsup : mg "super" = none)
    (hpar : (params.posonlyargs ++ params.args).head?.map (·.arg) = some "self")
    (he : ∀ L, eval (.Call (.Attribute (.Call (.Name "super" p0) [] [] p1) "__init__" p2) [.Constant (.str txt) k p3] [] p4) (PySem.W.ksEnv qual scope L f (.ref cda) cc) = (do
      let ov ← attributeBase (.Call (.Name "super" p0) [] [] p1) "__init__" (PySem.W.ksEnv qual scope L f (.ref cda) cc) (eval (.Call (.Name "super" p0) [] [] p1) (PySem.W.ksEnv qual scope L f (.ref cda) cc))
      standAt p2.atName
      let (f', first) ← holding [ov] (getMethod ov "__init__" (pl L))
      callWith p4 f' first (backTo p4 (starEach [.Constant (.str txt) k p3] (PySem.W.ksEnv qual scope L f (.ref cda) cc))) []))
    (hi : ∀ L, interactive (PySem.W.ksEnv qual scope L f (.ref cda) cc) = false) :
    FnOk P w K mg base L2.CX0 1 f fd ["self"] (spInit0 C) := by
  refine ⟨fun vs H Q E h => by obtain ⟨a, rfl, _⟩ := h; rfl, fun A outer s H args us vs Q E hr e0 hb r hsp => ?_⟩
  obtain ⟨a, rfl, ha, q⟩ := hsp
  obtain ⟨oc, od, osl, kV, doc, pm, an, ct, lk, efd⟩ := T.fn
  have KX : K.In s.heap := e0.mod.kin.keeps fun b o e => (e0.bs b o e).1
  have lim : s.heap.NoLimit := e0.mod.nolimit.keeps fun b o e => (e0.bs b o e).1
  subst efd
  cases r with
  | @cons _ u0 _ ur r0 rr =>
    cases rr
    refine ks_codeAny_call_defAt (binds := (["self"] : List Str).zip [u0]) hr.depth (KX _ _ lk) rfl lim (PySem.W.codeRec_of KX T.code) rfl hb S.nocell (fun y hy => S.loc _ (List.of_mem_zip (a := y.1) (b := y.2) hy).1) (fun h0 hns hk => ?_) S.co S.gen S.kind
    have I0 := einv0 (P := P) (w := w) (mg := mg) (tk := s.toks + ((["self"] : List Str).zip [u0]).length) T S hr.hd e0 r0 hns hk
    refine ks_wpAt_mono (Q := fun fl s' => SP (ecx P w K mg base ["self"] qual scope f cda cc A outer s H) [] { nx := fun _ H' => Q .non H', rt := Q } fl s') (E := fun _ _ => False)
      (sup_init0 T S (he _) (hi _) hpar hsup I0 ha fun s' I' => PySem.wpAt_of_wpAny (pss_nil.run [] s' _ H { nx := fun _ H' => Q .non H', rt := Q } I' q))
      (fun fl s' hs => ?_) fun _ _ z => z.elim
    cases fl with
    | next => obtain ⟨σ', H', J, z⟩ := hs; exact ⟨.non, H', J.os, J.bare, J.base, J.hok, rfl, z⟩
    | ret u => obtain ⟨vv, σ', H', J, rv, z⟩ := hs; exact ⟨vv, H', J.os, J.bare, J.base, J.hok, rv, z⟩
    | brk => obtain ⟨_, _, _, z⟩ := hs; exact False.elim z
    | cont => obtain ⟨_, _, _, z⟩ := hs; exact False.elim z
end
section
variable {P : Program} {w : World} {K : PySem.W.Frag} {mg : Str → Option Value} {base : Heap} {C f cc cda N : Addr} {x par fld qual txt nm q file : Str} {st : Stmt} {k : Nat} {p0 p1 p2 p3 p4 pos q1 q2 q3 q4 : Pos}
variable {bs bm sub : List Value} {sn : List Str} {ab : Bool} {col : Option Bool} {dd od an cdd cld : Option Addr} {m0 m1 m2 m3 m5 : Option Value} {oc kV doc pm ct ccl cl : Value} {osl ccs csl : Array (Option Value)} {vs : Array Value} {tf : Tok}
theorem own_ofW (S : EScope ["self", par] (defScope st))
    (hbody : defBody st = [.Expr (.Call (.Attribute (.Call (.Name "super" p0) [] [] p1) "__init__" p2) [.Constant (.str txt) k p3] [] p4) pos, .Assign [.Attribute (.Name "self" q1) fld q2] (.Name par q3) q4])
    (hpar : ((defArgs st).posonlyargs ++ (defArgs st).args).head?.map (·.arg) = some "self")
    (hbind : ∀ (kV doc pm : Value) (an : Option Addr) (cdv ct : Value) (cc : Addr) (us : List Value), us.length = 2 → bindArgs (PySem.W.ksFn "__init__" qual (defArgs st) (defBody st) (defScope st) .none kV doc pm an cdv ct cc) ⟨us, []⟩ = pure ((["self", par] : List Str).zip us))
    (hbk : ∀ (kV doc pm : Value) (an : Option Addr) (cdv ct : Value) (cc : Addr) (u v : Value), bindArgs (PySem.W.ksFn "__init__" qual (defArgs st) (defBody st) (defScope st) .none kV doc pm an cdv ct cc) ⟨[u], [(par, v)]⟩ = pure ((["self", par] : List Str).zip [u, v]))
    {pl : Addr → Sem Bool}
    (he : ∀ L, eval (.Call (.Attribute (.Call (.Name "super" p0) [] [] p1) "__init__" p2) [.Constant (.str txt) k p3] [] p4) (PySem.W.ksEnv qual (defScope st) L f (.ref cda) cc) = (do
      let ov ← attributeBase (.Call (.Name "super" p0) [] [] p1) "__init__" (PySem.W.ksEnv qual (defScope st) L f (.ref cda) cc) (eval (.Call (.Name "super" p0) [] [] p1) (PySem.W.ksEnv qual (defScope st) L f (.ref cda) cc))
      standAt p2.atName
      let (f', first) ← holding [ov] (getMethod ov "__init__" (pl L))
      callWith p4 f' first (backTo p4 (starEach [.Constant (.str txt) k p3] (PySem.W.ksEnv qual (defScope st) L f (.ref cda) cc))) []))
    (hsw : ∀ L, swapsWith (.Name par q3) (some (.Attribute (.Name "self" q1) fld q2)) q4.line (PySem.W.ksEnv qual (defScope st) L f (.ref cda) cc) = pure false)
    (hp : (("self" : Str) == par) = false) (hd1 : (par == ("__debug__" : Str)) = false) (hd2 : (par == ("__classdict__" : Str)) = false)
    (g : mg x = some (.ref C)) (hsup : mg "super" = none)
    (xl : K.lookup C = some (excClassObj nm q C N bs bm true sn sub ab col dd m0 m1 m2 m3 m5 "ValueError.__new__")) (hbm : PySem.HandSPX.refsVE bm = true)
    (sa : PySem.W.findIn K (.ref C) "__setattr__" = some (some (.builtin "object.__setattr__"))) (ga : PySem.W.findIn K (.ref C) "__getattribute__" = some (some (.builtin "BaseException.__getattribute__"))) (gg : PySem.W.findIn K (.ref C) "__getattr__" = some none) (no : PySem.W.findIn K (.ref C) fld = some none)
    (iC : PySem.W.findIn K (.ref C) "__init__" = some (some (.ref f))) (tI : PySem.W.typeIn K (.ref f) = some (.type "function"))
    (xli : K.lookup f = some ⟨oc, od, .func (PySem.W.ksFn "__init__" qual (defArgs st) (defBody st) (defScope st) .none kV doc pm an (.ref cda) ct cc), osl⟩) (co : PySem.W.codeIn K (.ref cda) qual = true)
    (xcx : K.lookup cda = some ⟨ccl, cdd, .fields vs, ccs⟩) (xvx : vs[2]? = some (.str file tf)) (xfi : ((P.main.file : Str) == file) = true) (xto : (P.main.scope.names.lookup ("super" : Str)).isSome = false)
    (xce : K.lookup cc = some ⟨cl, cld, .cell (some (.ref C)), csl⟩) (xsu : PySem.W.ks_superIn K C C "__init__" = some (some (.builtin "ValueError.__init__"))) (xse : PySem.W.mroIn K C (.ref C) = some true) (xve : PySem.W.subIn K (.ref C) (.type "ValueError") = some true)
    (xan : PySem.W.nsIn K cStatics "thirdparty.any" = some none) (xkf : PySem.W.keepIn K (.ref f) = true) (xkC : PySem.W.keepIn K (.ref C) = true) (xeC : PySem.W.subIn K (.ref C) (.type "BaseException") = some true) (xtC : PySem.W.typeIn K (.ref C) = some (.type "type")) (xhC : PySem.W.hasDictIn K C = true)
    (xic : PySem.W.isClsIn K C = true) (xsC : PySem.W.subIn K (.ref C) (.ref C) = some true) : XownW P w K mg base x par fld C := by
  have oex : OexC K C := ⟨⟨nm, q, N, bs, bm, sn, sub, ab, col, dd, m0, m1, m2, m3, m5, xl, hbm⟩, sa, xeC, xtC, xkC⟩
  have T : EInit P K C f cc (PySem.W.ksFn "__init__" qual (defArgs st) (defBody st) (defScope st) .none kV doc pm an (.ref cda) ct cc) qual (defArgs st) (defBody st) (defScope st) cda :=
    ⟨oex, ⟨oc, od, osl, kV, doc, pm, an, ct, xli, rfl⟩, co, ⟨ccl, cdd, vs, ccs, file, tf, xcx, xvx, xfi⟩, xto, ⟨cl, cld, csl, xce⟩, xsu, xse, xve, xan, iC, tI, xkf⟩
  have FI : FnOk P w K mg base L2.CX0 1 f (PySem.W.ksFn "__init__" qual (defArgs st) (defBody st) (defScope st) .none kV doc pm an (.ref cda) ct cc) ["self", par] (spInit C fld) := by
   rw [hbody] at T
   rw [hbody]
   exact init_ok (w := w) (mg := mg) (base := base) T S hp no hd1 hd2 hsup hpar he (fun L => by
    have e : (PySem.W.ksEnv qual (defScope st) L f (.ref cda) cc).scope.kind = .function := S.kind
    unfold interactive
    rw [e]
    rfl) hsw
  have B : Binds K (PySem.W.ksFn "__init__" qual (defArgs st) (defBody st) (defScope st) .none kV doc pm an (.ref cda) ct cc) ["self", par] [] := .all fun us hl => hbind kV doc pm an (.ref cda) ct cc us hl
  exact ⟨⟨g, oex, ⟨f, _, FI, iC, tI, B⟩, no, exm_same xeC xic xtC xsC, ⟨ga, gg, xeC, xhC⟩⟩, ⟨f, _, FI, iC, tI, B, fun s u v _ => BindsTo.of_eq (hbk kV doc pm an (.ref cda) ct cc u v)⟩⟩
end
section
variable {P : Program} {w : World} {K : PySem.W.Frag} {mg : Str → Option Value} {base : Heap} {C f cc cda N : Addr} {x par fld qual txt nm q file : Str} {st : Stmt} {k : Nat} {p0 p1 p2 p3 p4 pos q1 q2 q3 q4 : Pos}
variable {bs bm sub : List Value} {sn : List Str} {ab : Bool} {col : Option Bool} {dd od an cdd cld : Option Addr} {m0 m1 m2 m3 m5 : Option Value} {oc kV doc pm ct ccl cl : Value} {osl ccs csl : Array (Option Value)} {vs : Array Value} {tf : Tok}
theorem own0_of (S : EScope ["self"] (defScope st))
    (hbody : defBody st = [.Expr (.Call (.Attribute (.Call (.Name "super" p0) [] [] p1) "__init__" p2) [.Constant (.str txt) k p3] [] p4) pos])
    (hpar : ((defArgs st).posonlyargs ++ (defArgs st).args).head?.map (·.arg) = some "self")
    (hbind : ∀ (kV doc pm : Value) (an : Option Addr) (cdv ct : Value) (cc : Addr) (us : List Value), us.length = 1 → bindArgs (PySem.W.ksFn "__init__" qual (defArgs st) (defBody st) (defScope st) .none kV doc pm an cdv ct cc) ⟨us, []⟩ = pure ((["self"] : List Str).zip us))
    {pl : Addr → Sem Bool}
    (he : ∀ L, eval (.Call (.Attribute (.Call (.Name "super" p0) [] [] p1) "__init__" p2) [.Constant (.str txt) k p3] [] p4) (PySem.W.ksEnv qual (defScope st) L f (.ref cda) cc) = (do
      let ov ← attributeBase (.Call (.Name "super" p0) [] [] p1) "__init__" (PySem.W.ksEnv qual (defScope st) L f (.ref cda) cc) (eval (.Call (.Name "super" p0) [] [] p1) (PySem.W.ksEnv qual (defScope st) L f (.ref cda) cc))
      standAt p2.atName
      let (f', first) ← holding [ov] (getMethod ov "__init__" (pl L))
      callWith p4 f' first (backTo p4 (starEach [.Constant (.str txt) k p3] (PySem.W.ksEnv qual (defScope st) L f (.ref cda) cc))) []))
    (g : mg x = some (.ref C)) (hsup : mg "super" = none)
    (xl : K.lookup C = some (excClassObj nm q C N bs bm true sn sub ab col dd m0 m1 m2 m3 m5 "ValueError.__new__")) (hbm : PySem.HandSPX.refsVE bm = true)
    (sa : PySem.W.findIn K (.ref C) "__setattr__" = some (some (.builtin "object.__setattr__"))) (ga : PySem.W.findIn K (.ref C) "__getattribute__" = some (some (.builtin "BaseException.__getattribute__"))) (gg : PySem.W.findIn K (.ref C) "__getattr__" = some none)
    (iC : PySem.W.findIn K (.ref C) "__init__" = some (some (.ref f))) (tI : PySem.W.typeIn K (.ref f) = some (.type "function"))
    (xli : K.lookup f = some ⟨oc, od, .func (PySem.W.ksFn "__init__" qual (defArgs st) (defBody st) (defScope st) .none kV doc pm an (.ref cda) ct cc), osl⟩) (co : PySem.W.codeIn K (.ref cda) qual = true)
    (xcx : K.lookup cda = some ⟨ccl, cdd, .fields vs, ccs⟩) (xvx : vs[2]? = some (.str file tf)) (xfi : ((P.main.file : Str) == file) = true) (xto : (P.main.scope.names.lookup ("super" : Str)).isSome = false)
    (xce : K.lookup cc = some ⟨cl, cld, .cell (some (.ref C)), csl⟩) (xsu : PySem.W.ks_superIn K C C "__init__" = some (some (.builtin "ValueError.__init__"))) (xse : PySem.W.mroIn K C (.ref C) = some true) (xve : PySem.W.subIn K (.ref C) (.type "ValueError") = some true)
    (xan : PySem.W.nsIn K cStatics "thirdparty.any" = some none) (xkf : PySem.W.keepIn K (.ref f) = true) (xkC : PySem.W.keepIn K (.ref C) = true) (xeC : PySem.W.subIn K (.ref C) (.type "BaseException") = some true) (xtC : PySem.W.typeIn K (.ref C) = some (.type "type")) (xhC : PySem.W.hasDictIn K C = true)
    (xic : PySem.W.isClsIn K C = true) (xsC : PySem.W.subIn K (.ref C) (.ref C) = some true) : XownN P w K mg base x C := by
  have oex : OexC K C := ⟨⟨nm, q, N, bs, bm, sn, sub, ab, col, dd, m0, m1, m2, m3, m5, xl, hbm⟩, sa, xeC, xtC, xkC⟩
  have T : EInit P K C f cc (PySem.W.ksFn "__init__" qual (defArgs st) (defBody st) (defScope st) .none kV doc pm an (.ref cda) ct cc) qual (defArgs st) (defBody st) (defScope st) cda :=
    ⟨oex, ⟨oc, od, osl, kV, doc, pm, an, ct, xli, rfl⟩, co, ⟨ccl, cdd, vs, ccs, file, tf, xcx, xvx, xfi⟩, xto, ⟨cl, cld, csl, xce⟩, xsu, xse, xve, xan, iC, tI, xkf⟩
  refine ⟨g, oex, ⟨f, _, ?_, iC, tI, .all fun us hl => hbind kV doc pm an (.ref cda) ct cc us hl⟩⟩
  rw [hbody] at T
  rw [hbody]
  exact init0_ok (w := w) (mg := mg) (base := base) T S hsup hpar he (fun L => by
    have e : (PySem.W.ksEnv qual (defScope st) L f (.ref cda) cc).scope.kind = .function := S.kind
    unfold interactive
    rw [e]
    rfl)
end
end Gk
namespace Gk
open PySem PySem.Spec PyProof.Rows L2
section
variable {X : Cx} {x par fld : Str} {C : Addr} {j : Nat} {e : Expr} {te : TE} {p pos kp : Pos}
/-- X(par=e) -/
theorem pe_newK (T : XownW X.prog X.w X.K X.mg X.base x par fld C) (hr : Room j X.A) (hk : 2 ≤ j) (hg : Gl X x) (he : PE X e te) (hdb : (x == ("__debug__" : Str)) = false := by decide)
    (hall : (backToKw pos (keywordEach [⟨some par, e, kp⟩] X.env)).all (·.1.isSome) = true := by rfl) (hks : (backToKw pos (keywordEach [⟨some par, e, kp⟩] X.env)).filterMap (·.1) = [par] := by rfl)
    (hpl : ((backTo pos (starEach [] X.env)).any (·.1) || (backToKw pos (keywordEach [⟨some par, e, kp⟩] X.env)).any (·.1.isNone)) = false := by rfl) : PE X (.Call (.Name x p) [] [⟨some par, e, kp⟩] pos) (tNewX C fld te) := by
  obtain ⟨f, fd, F, i1, i2, _, b⟩ := T.ini
  refine ⟨fun pins s σ H Q I h => ?_⟩
  refine wpAny_Call_Name_kw (ld_glob I hg T.X.g ?_ hdb)
  have ha : PK X [⟨some par, e, kp⟩] (tCons (tMid te) tNil) := pk_cons (pe_mid he) pk_nil
  refine PySem.W.callWith_KW0 (h₀ := X.base) I.ok.mod.kin T.X.oex.kC hall (thn (ha.run pos pins s σ H (fun vs H1 => ∃ v, vs = [v] ∧ ∀ a H2, Same H1 H2 → H1 a = none → Xv H2 a C fld v → Q (.ref a) H2) I ?_) fun us s1 ⟨vs, H1, I1, r1, v, ev, q1⟩ => ⟨I1.kIn, ?_⟩) hpl
  · exact ⟨_, h, fun v H1 q => ⟨v, rfl, q⟩⟩
  subst ev
  rw [hks]
  obtain ⟨u, rfl, ru⟩ : ∃ u, us = [u] ∧ RelV v u := by
    cases r1 with
    | cons r q => cases q; exact ⟨_, rfl, r⟩
  refine run_oexW (us := []) (ws := [u]) (kw := [(par, u)]) T.X.oex i1 i2 F (hr.mono hk) (fun _ _ _ _ _ _ _ h => h.elim) I1 (.cons ru .nil) ?_ (fun s a X0 => b s (.ref a) u X0) fun a na => spInit_xv na fun H2 s2 x2 => q1 a H2 s2 na x2
  rw [sizeLine_eq]
  show 0 ≤ _
  omega
/-- X() -/
def tNew0 (C : Addr) : TE := fun _ H Q => ∀ a H2, Same H H2 → H a = none → Xi H2 a C → Q (.ref a) H2
theorem pe_new0 (T : XownN X.prog X.w X.K X.mg X.base x C) (hr : Room j X.A) (hk : 2 ≤ j) (hg : Gl X x) (hdb : (x == ("__debug__" : Str)) = false := by decide) : PE X (.Call (.Name x p) [] [] pos) (tNew0 C) := by
  obtain ⟨f, fd, F, i1, i2, b⟩ := T.ini
  refine ⟨fun pins s σ H Q I h => ?_⟩
  refine wpAny_Call_Name_kw (ld_glob I hg T.g ?_ hdb)
  refine PySem.W.callWith_K0 I.kIn T.oex.kC ?_
  show wpAny _ _ (call (.ref C) []) _ _ _
  refine run_oexW (us := []) (ws := []) (kw := []) (vs := []) T.oex i1 i2 F (hr.mono hk) (fun _ _ _ _ _ _ _ h => h.elim) I .nil (by rw [sizeLine_eq]; show 0 ≤ _; omega) (fun s a X0 => ?_) fun a na => ⟨a, rfl, upd_same, rfl, ?_⟩
  · have := b s [.ref a] X0 (by rw [List.append_nil]; rfl)
    rw [List.append_nil] at this
    exact this
  · exact h a _ (same_new na) na (.inl upd_same)
/-- X(), no __init__ of its own -/
theorem pe_newB {bmB : List Value} {B newId initId : String} (F : ExcBaseFacts B newId initId bmB) (q : PySem.W.excIn X.K C bmB newId = true) (gC : X.mg x = some (.ref C)) (kC : PySem.W.keepIn X.K (.ref C) = true) (hg : Gl X x) (hdb : (x == ("__debug__" : Str)) = false := by decide) :
    PE X (.Call (.Name x p) [] [] pos) (tNew0 C) := by
  refine ⟨fun pins s σ H Q I h => ?_⟩
  refine wpAny_Call_Name_kw (ld_glob I hg gC ?_ hdb)
  refine PySem.W.callWith_K0 I.kIn kC ?_
  show wpAny _ _ (call (.ref C) []) _ _ _
  obtain ⟨bm, N, nm, qn, bs, hdct, sn, sub, ab, col, dd, k0, k1, k2, k3, k5, mN, hC, hN, hni, T⟩ := exc_obj I.kIn q
  refine wpAny_call_exc_subT F T hC hN hni (fun h' a hm => ?_) (by show 0 ≤ sizeLine; rw [sizeLine_eq]; omega)
  have hn : H a = none := I.hok.gone hm.new
  obtain ⟨t, ht, _, _⟩ := hm.there
  exact ⟨.ref a, upd H a (exo a C none), I.laidN hm.keeps hm.new hn (exo_ok ht), rfl, h a _ (same_new hn) hn (.inl upd_same)⟩
end
section
variable {X : Cx} {pins : List (Addr × Obj)} {σ : L2.St} {H : Hp} {s : Shared}
theorem xd_at {a D d : Addr} {fs : List (Str × V)} (I : Inv X pins σ H s) (h1 : H a = some (exo a D (some d))) (h2 : H d = some (exd d fs)) : ∃ (oe od : Obj), PySem.W.InstAt s.heap a oe D (some od) ∧ ∀ (n : Str) (v : V), fs.lookup n = some v → ∃ u, PySem.W.lookIn n od = some (some u) ∧ RelV v u := by
  obtain ⟨t1, e⟩ := exo_at I.hok h1
  obtain ⟨m, ns, rel⟩ := exd_at I.hok h2
  obtain ⟨od, eo, lo⟩ := lookIn_ns ns
  refine ⟨_, od, ⟨e, rfl, rfl, eo⟩, fun n x hx => ?_⟩
  have g := rel n
  rw [hx] at g
  obtain ⟨u, hu, ru⟩ := RelO.some_of g
  exact ⟨u, by rw [lo, hu], ru⟩
theorem xi_at {a D : Addr} (I : Inv X pins σ H s) (k : Xi H a D) : ∃ (oe : Obj) (od : Option Obj), PySem.W.InstAt s.heap a oe D od := by
  rcases k with k | ⟨d, fs, k, k2⟩
  · obtain ⟨t1, e⟩ := exo_at I.hok k
    exact ⟨_, none, ⟨e, rfl, rfl, trivial⟩⟩
  · obtain ⟨oe, od, J, _⟩ := xd_at I k k2
    exact ⟨oe, _, J⟩
end
/-- isinstance(e, c) -/
def rIsX (K : PySem.W.Frag) : List V → Hp → VK → Prop := fun xs H Q => ∃ (a D : Addr) (c : V) (cv : Value) (b : Bool), xs = [.ref a, c] ∧ Xi H a D ∧ ExcC K D ∧ (∀ u, RelV c u → u = cv) ∧ PySem.W.kitOne K (.ref D) cv = some b ∧ Q (.bl b) H
theorem call_isX {X : Cx} : CallR X (.builtin "isinstance") (rIsX X.K) := by
  intro pins s σ H xs us Q I r h
  obtain ⟨a, D, c, cv, b, rfl, k, C, hcv, e, q⟩ := h
  rcases r with _ | ⟨ra, _ | ⟨rc, _ | _⟩⟩
  obtain ⟨oe, od, J⟩ := xi_at I k
  obtain ⟨cd, hcl, _⟩ := PySem.W.any_some C.hd
  cases ra
  obtain rfl := hcv _ rc
  exact PySem.W.kia_one (PySem.W.kitx_exc (by rw [hcl]; rfl) C.hg C.hk C.hs C.ha C.hn C.ht C.hm) I.kIn J e (fun z => nomatch z) fun tk => ⟨.bl b, H, I.kept (t' := tk) fun _ _ z => z, rfl, q⟩
/-- e.n -/
def tXv (K : PySem.W.Frag) (n : Str) (te : TE) : TE := fun σ H Q => te σ H fun x H1 => ∃ (a D : Addr) (v : V), x = .ref a ∧ Xv H1 a D n v ∧ XfC K D ∧ PySem.W.findIn K (.ref D) n = some none ∧ Q v H1
theorem pe_xv {X : Cx} {e : Expr} {te : TE} {pos : Pos} {n : Str} (he : PE X e te) (hb : attributeBase e n X.env (eval e X.env) = eval e X.env := by rfl) : PE X (.Attribute e n pos) (tXv X.K n te) := by
  refine ⟨fun pins s σ H Q I h => attr_of hb (thn (he.run pins s σ H _ I h) fun u s1 ⟨x, H1, I1, rx, a, D, v, ex, ⟨d, k1, k2⟩, T, no, q⟩ => ?_)⟩
  subst ex
  cases rx
  obtain ⟨oe, od, J, own⟩ := xd_at I1 k1 k2
  obtain ⟨y, hy, ry⟩ := own n v (by simp)
  exact HandSPX.exc_get I1.kIn J T.ga T.gg T.exC (PySem.W.findObj_own T.hdC no rfl hy) (handed_of ry) ⟨v, H1, I1.tok _, ry, q⟩
end Gk
namespace Gk
open PySem PySem.Spec PyProof.Rows L2
/-! ### what is bent stays small -/
theorem depth_tup (ds : List PyData) : (PyData.tuple ds).depth = PyData.depthAll ds + 1 := by simp only [PyData.depth]
theorem depth_lst (ds : List PyData) : (PyData.list ds).depth = PyData.depthAll ds + 1 := by simp only [PyData.depth]
theorem el_ok {ds : List PyData} {d : PyData} {B : Nat} (f : fin (.tuple ds) B = true) (h : d ∈ ds) : fin d B = true ∧ d.depth + 1 ≤ (PyData.tuple ds).depth := by
  simp only [fin] at f
  refine ⟨finAll_iff.mp f d h, ?_⟩
  rw [depth_tup]
  exact Nat.succ_le_succ (depthAll_iff.mp (Nat.le_refl _) d h)
theorem drop_at {α : Type} {ds : List α} {i : Nat} {d : α} (g : ds[i]? = some d) : ds.drop i = d :: ds.drop (i + 1) := by
  obtain ⟨hi, e⟩ := List.getElem?_eq_some_iff.mp g
  rw [List.drop_eq_getElem_cons hi, e]
theorem el_big {ds : List PyData} {i : Nat} {d : PyData} (g : ds[i]? = some d) : bigAll (ds.take i) + big d + bigAll (ds.drop (i + 1)) = bigAll ds := by
  have h := bigAll_split ds i
  rw [drop_at g] at h
  simp only [bigAll] at h
  omega
theorem el_le {ds : List PyData} {i : Nat} {d : PyData} (g : ds[i]? = some d) : big d ≤ big (.tuple ds) := by
  have h := el_big g
  simp only [big]
  omega
/-- one item put for another -/
theorem put_ok {ds : List PyData} {i : Nat} {d e : PyData} {B : Nat} (g : ds[i]? = some d) (f : fin (.tuple ds) B = true) (f1 : fin e (B + 1) = true) (f2 : e.depth ≤ d.depth + 9) (f3 : big e ≤ 2 * big d + 1100) :
    fin (.tuple (ds.take i ++ [e] ++ ds.drop (i + 1))) (B + 1) = true ∧ (PyData.tuple (ds.take i ++ [e] ++ ds.drop (i + 1))).depth ≤ (PyData.tuple ds).depth + 9 ∧ big (.tuple (ds.take i ++ [e] ++ ds.drop (i + 1))) ≤ 2 * big (.tuple ds) + 1100 := by
  have hm := List.mem_of_getElem? g
  have ok := el_ok f hm
  refine ⟨?_, ?_, ?_⟩
  · simp only [fin]
    refine finAll_iff.mpr fun x hx => ?_
    simp only [List.mem_append, List.mem_cons, List.not_mem_nil, or_false] at hx
    rcases hx with (hx | rfl) | hx
    · exact fin_mono (Nat.le_succ B) _ (el_ok f (List.mem_of_mem_take hx)).1
    · exact f1
    · exact fin_mono (Nat.le_succ B) _ (el_ok f (List.mem_of_mem_drop hx)).1
  · rw [depth_tup (ds.take i ++ [e] ++ ds.drop (i + 1))]
    have : PyData.depthAll (ds.take i ++ [e] ++ ds.drop (i + 1)) ≤ (PyData.tuple ds).depth + 8 := depthAll_iff.mpr fun x hx => by
      simp only [List.mem_append, List.mem_cons, List.not_mem_nil, or_false] at hx
      rcases hx with (hx | rfl) | hx
      · have := (el_ok f (List.mem_of_mem_take hx)).2
        omega
      · omega
      · have := (el_ok f (List.mem_of_mem_drop hx)).2
        omega
    omega
  · have h1 := bigAll_app (ds.take i ++ [e]) (ds.drop (i + 1))
    have h2 := bigAll_app (ds.take i) [e]
    have h3 := el_big g
    simp only [bigAll] at h2
    simp only [big]
    omega
/-- items left out, twice, turned round, as a list -/
theorem sub_ok {ds : List PyData} {i : Nat} {e : PyData} {B : Nat} (f : fin (.tuple ds) B = true) (h : e ∈ [PyData.tuple (ds.take i ++ ds.drop (i + 1)), .tuple (ds.take (i + 1) ++ ds.drop i), .tuple ds.reverse, .list ds]) :
    fin e (B + 1) = true ∧ e.depth ≤ (PyData.tuple ds).depth + 9 ∧ big e ≤ 2 * big (.tuple ds) + 1100 := by
  have go : ∀ es : List PyData, (∀ x ∈ es, x ∈ ds) → finAll es (B + 1) = true ∧ PyData.depthAll es ≤ PyData.depthAll ds := fun es s =>
    ⟨finAll_iff.mpr fun x hx => fin_mono (Nat.le_succ B) _ (el_ok f (s x hx)).1, depthAll_iff.mpr fun x hx => depthAll_iff.mp (Nat.le_refl _) x (s x hx)⟩
  have a1 := bigAll_app (ds.take i) (ds.drop (i + 1))
  have a2 := bigAll_app (ds.take (i + 1)) (ds.drop i)
  have b1 := bigAll_split ds i
  have b2 := bigAll_split ds (i + 1)
  have c1 := bigAll_len (ds.take i)
  have c2 := bigAll_len (ds.drop i)
  have c3 := bigAll_len (ds.take (i + 1))
  have c4 := bigAll_len (ds.drop (i + 1))
  have mono : bigAll (ds.drop (i + 1)) ≤ bigAll (ds.drop i) := by
    cases g : ds[i]? with
    | some d =>
      rw [drop_at g]
      simp only [bigAll]
      omega
    | none =>
      have := List.getElem?_eq_none_iff.mp g
      rw [List.drop_eq_nil_of_le this, List.drop_eq_nil_of_le (by omega)]
      exact Nat.le_refl _
  simp only [List.mem_cons, List.not_mem_nil, or_false] at h
  rcases h with rfl | rfl | rfl | rfl
  · obtain ⟨g1, g2⟩ := go (ds.take i ++ ds.drop (i + 1)) fun x hx => (List.mem_append.mp hx).elim List.mem_of_mem_take List.mem_of_mem_drop
    refine ⟨by simpa only [fin] using g1, by rw [depth_tup, depth_tup]; omega, by simp only [big]; omega⟩
  · obtain ⟨g1, g2⟩ := go (ds.take (i + 1) ++ ds.drop i) fun x hx => (List.mem_append.mp hx).elim List.mem_of_mem_take List.mem_of_mem_drop
    refine ⟨by simpa only [fin] using g1, by rw [depth_tup, depth_tup]; omega, by simp only [big]; omega⟩
  · obtain ⟨g1, g2⟩ := go ds.reverse fun x hx => List.mem_reverse.mp hx
    refine ⟨by simpa only [fin] using g1, by rw [depth_tup, depth_tup]; omega, by simp only [big, bigAll_rev]; omega⟩
  · obtain ⟨g1, g2⟩ := go ds fun x hx => hx
    refine ⟨by simpa only [fin] using g1, by rw [depth_tup, depth_lst]; omega, by simp only [big]; omega⟩
/-- what an int is bent to -/
theorem int_ok {i : Int} {e : PyData} {B : Nat} (f : fin (.int i) B = true) (hB : 10 ^ 17 ≤ B) (hC : B ≤ 10 ^ 19)
    (h : e ∈ [PyData.int (i + 1), .int (i - 1), .int (1 - i), .bool (decide (V.int i = V.int 1)), .str (Str.ofString (toString i)), .tuple [.int i], .none, .int 64, .int 65]) :
    fin e (B + 1) = true ∧ e.depth ≤ (PyData.int i).depth + 9 ∧ big e ≤ 2 * big (.int i) + 1100 := by
  have hi : i.natAbs ≤ B := by simpa only [fin, decide_eq_true_eq] using f
  have bi : big (.int i) = 70 := rfl
  have dz : ∀ j : Int, (PyData.int j).depth = 0 := fun j => by simp only [PyData.depth]
  have fi : ∀ j : Int, j.natAbs ≤ B + 1 → fin (.int j) (B + 1) = true := fun j hj => by simpa only [fin, decide_eq_true_eq] using hj
  simp only [List.mem_cons, List.not_mem_nil, or_false] at h
  rcases h with rfl | rfl | rfl | rfl | rfl | rfl | rfl | rfl | rfl
  · exact ⟨fi _ (by omega), by rw [dz]; omega, by simp only [big]; omega⟩
  · exact ⟨fi _ (by omega), by rw [dz]; omega, by simp only [big]; omega⟩
  · exact ⟨fi _ (by omega), by rw [dz]; omega, by simp only [big]; omega⟩
  · exact ⟨rfl, by simp only [PyData.depth]; omega, by simp only [big]; omega⟩
  · refine ⟨fin_mono (Nat.zero_le _) _ (int_cps i), by simp only [PyData.depth]; omega, ?_⟩
    have h1 := int_len20 (c := i) (by omega)
    have h2 : (Str.ofString (toString i)).cps.size ≤ 21 := h1
    simp only [big]
    omega
  · refine ⟨by simp only [fin, finAll, Bool.and_true]; exact fi i (by omega), by rw [depth_tup]; simp only [PyData.depthAll, dz]; omega, by simp only [big, bigAll]; omega⟩
  · exact ⟨rfl, by simp only [PyData.depth]; omega, by simp only [big]; omega⟩
  · exact ⟨fi _ (by omega), by rw [dz]; omega, by simp only [big]; omega⟩
  · exact ⟨fi _ (by omega), by rw [dz]; omega, by simp only [big]; omega⟩
end Gk
namespace Gk
open PySem PySem.Spec PyProof.Rows L2
theorem stands_box {m : Nat} {H : Hp} {b : Addr} (h : Box m H b) : Stands (fun a => a = b) H := by
  rintro a rfl
  obtain ⟨x, y, z, e, _⟩ := h
  exact ⟨_, e⟩
theorem Stands.but {M : Addr → Prop} {H H' : Hp} {b : Addr} {m : Nat} (h : Stands M H) (bt : But b H H') (bx : Box m H' b) : Stands M H' := fun a ma => by
  by_cases e : a = b
  · subst e
    obtain ⟨x, y, z, e, _⟩ := bx
    exact ⟨_, e⟩
  · obtain ⟨o, eo⟩ := h a ma
    exact ⟨o, bt a o e eo⟩
theorem Stands.or {M : Addr → Prop} {H : Hp} {p : Addr} {o : HO} (h : Stands M H) (e : H p = some o) : Stands (fun a => M a ∨ a = p) H := fun a ma => ma.elim (h a) fun z => ⟨o, by rw [z]; exact e⟩
/-- what M speaks of are lists -/
def Lists (M : Addr → Prop) (H : Hp) : Prop := ∀ a, M a → ∃ xs, H a = some (.lst xs)
theorem Lists.not {M : Addr → Prop} {K : PySem.W.Frag} {H : Hp} {a : Addr} {xs : List V} (h : Lists M H) (r : Rd H a (.tup xs)) : ¬ M a := fun m => by
  obtain ⟨ys, e⟩ := h a m
  rcases r with r | ⟨o, r⟩ <;> rw [e] at r <;> cases r
mutual
/-- tuples wherever they stand, as data -/
theorem dv_dp {M : Addr → Prop} {K : PySem.W.Frag} {H : Hp} (l : Lists M H) : ∀ (d : PyData) (v : V), tups d = true → Dp K H v d → Dv M K H v d
  | .none, _, _, h => by cases h; exact .non
  | .bool _, _, _, h => by cases h; exact .bl _
  | .int _, _, _, h => by cases h; exact .int _
  | .str _, _, _, h => by cases h; exact .str _
  | .list _, _, t, _ => by simp [tups] at t
  | .dict _, _, t, _ => by simp [tups] at t
  | .tuple ds, _, t, h => by
    cases h with
    | tup hs r =>
      have r' := dv_dpAll l ds _ (by simpa only [tups] using t) r
      rcases hs with hs | hs
      · exact .tup hs (l.not (K := K) hs) r'
      · exact .tupK hs r'
theorem dv_dpAll {M : Addr → Prop} {K : PySem.W.Frag} {H : Hp} (l : Lists M H) : ∀ (ds : List PyData) (vs : List V), tupsAll ds = true → DpAll K H vs ds → DvAll M K H vs ds
  | [], _, _, h => by cases h; exact .nil
  | d :: ds, _, t, h => by
    simp only [tupsAll, Bool.and_eq_true] at t
    cases h with
    | cons h1 h2 => exact .cons (dv_dp l d _ t.1 h1) (dv_dpAll l ds _ t.2 h2)
end
end Gk
namespace Gk
open PySem PySem.Spec PyProof.Rows L2
section
variable {X : Cx}
/-- two lists joined, the new one's place told apart from the table of modules -/
def rCatN : R2 := fun x y H Q => ∃ l b xs zs, x = .ref l ∧ y = .ref b ∧ H l = some (.lst xs) ∧ H b = some (.lst zs) ∧ xs.length + zs.length ≤ sizeLine ∧ ∀ p, H p = none → (p == sysModules) = false → Q (.ref p) (upd H p (.lst (xs ++ zs)))
theorem op_catN : OpR X (binaryOp .Add) rCatN := by
  rintro pins s σ H x y v u Q I rx ry ⟨l, b, xs, zs, rfl, rfl, h1, h2, hz, q⟩
  cases rx
  cases ry
  obtain ⟨_, its, _, r, n1, e1⟩ := I.lstM h1
  obtain ⟨_, its2, _, r2, n2, e2⟩ := I.lstM h2
  refine PySem.P.add_list e1 e2 ?_ (by rw [List.size_toArray, List.size_toArray]; omega)
  rw [show its.toArray ++ its2.toArray = (its ++ its2).toArray by simp]
  exact ⟨.ref _, _, I.lnew (t' := s.toks) (r.append r2) (by rw [List.length_append]; omega), rfl, q _ I.fresh (not_modules I)⟩
/-- a list of one thing, many times -/
def rRepN : R2 := fun x y H Q => ∃ l k v, x = .ref l ∧ y = .int k ∧ H l = some (.lst [v]) ∧ 0 < k ∧ k ≤ 1000 ∧ ∀ p, H p = none → (p == sysModules) = false → Q (.ref p) (upd H p (.lst (List.replicate k.toNat v)))
theorem fold_one {α : Type} (a : α) : ∀ m : Nat, ∀ xs : Array α, List.foldl (fun x1 x2 => x1 ++ x2) xs (List.replicate m #[a]) = xs ++ (List.replicate m a).toArray
  | 0, xs => by simp
  | m + 1, xs => by
    rw [List.replicate_succ, List.foldl_cons, fold_one a m, List.replicate_succ]
    apply Array.ext'
    simp
theorem op_repN : OpR X (binaryOp .Mult) rRepN := by
  rintro pins s σ H x y v u Q I rx ry ⟨l, k, v, rfl, rfl, h1, k0, k1, q⟩
  cases rx
  obtain ⟨t, rfl⟩ := ry
  obtain ⟨_, its, n, r, n1, e1⟩ := I.lstM h1
  obtain ⟨a, rfl, ra⟩ := r.one
  have small : [a].toArray.size * k.toNat ≤ sizeLine := by
    rw [sizeLine_eq, List.size_toArray]
    show 1 * k.toNat ≤ _
    omega
  refine wpAny_binaryOp_repeat_ref (T := "list") (U := "int") (by decide) ⟨_, e1, rfl⟩ (fun s' => typeIs_int s' k t) noFill_list_mul F.fills_int_mul F.slot_int_rmul repeat_list F.slot_int_index.lookup
    (call_meets F.slot_int_rmul (typeIs_int s k t) F.entry_int_rmul (F.args_int_rmul_2 _ _) (int___rmul___int_list k t l [a].toArray n)
      ⟨e1, rfl, ⟨_, e1, rfl⟩, call_meets F.slot_list_mul ⟨_, e1, rfl⟩ F.entry_list_mul (F.args_list_mul_2 _ _) (AutoListH.list___mul___list_int_3 l [a].toArray n k t ?_ ?_ ?_) ⟨e1, ?_⟩⟩)
  · rw [fitsIndex_both (by omega) (by omega)]
    exact Bool.false_ne_true
  · have : (sizeLine : Nat) ≤ (2 ^ 63 - 1) / 8 := by decide
    omega
  · rw [notLongL small]
    exact Bool.false_ne_true
  rw [if_neg (show ¬ ([a].toArray.isEmpty = true) by simp), show ([a].toArray : Array Value) = #[a] from rfl, fold_one, show (#[] ++ (List.replicate k.toNat a).toArray : Array Value) = (List.replicate k.toNat a).toArray by simp]
  have rr : Vals (List.replicate k.toNat v) (List.replicate k.toNat a) := by
    generalize k.toNat = m
    induction m with
    | zero => exact .nil
    | succ m ih => rw [List.replicate_succ, List.replicate_succ]; exact .cons ra ih
  exact ⟨.ref _, _, I.lnew (t' := s.toks) rr (by rw [List.length_replicate, sizeLine_eq]; omega), rfl, q _ I.fresh (not_modules I)⟩
end
end Gk
namespace Pf
open PySem PySem.Spec PyProof.Rows L2 Gk Fold
abbrev sLens : Stmt := topS 34
abbrev nLens : List Str := ["_law_loop_here", "_law_kind"]
theorem scLens : FnScope nLens ["_law_loop_here"] (defScope sLens) := ⟨rfl, rfl, rfl, by decide +kernel, rfl, by decide +kernel, by decide +kernel⟩
abbrev W3 : List Str := ["own", "split", "shared"]
section
variable {P : Program} {w : World} {K : PySem.W.Frag} {mg : Str → Option Value} {base : Heap}
/-- the least lengths of the three words -/
structure Lens (l : List (Int × Int)) (a b c : Nat) : Prop where
  own : LeastP l "own" a
  split : LeastP l "split" b
  shared : LeastP l "shared" c
def spLens (K : PySem.W.Frag) : Sp := fun vs H Q _ => ∃ (t : Addr) (l : List (Int × Int)), vs = [.ref t] ∧ PairsAt K H t l ∧ Fair l ∧ 1 ≤ l.length ∧ l.length ≤ 64 ∧
  ∀ H' r (a b c : Nat), Same H H' → a ≤ 64 → b ≤ 64 → c ≤ 64 → Lens l a b c → H' r = some (.lst [.int (a : Int), .int (b : Int), .int (c : Int)]) → Q (.ref r) H'
theorem ok_lens {f : Addr} {fd : FuncData} (D0 : DfD P w K mg base 12 "least_length" ["trace", "word", "bits"] [.int 0] (spLeastP K)) (F : L2.Fun K "_law_lengths" "_law_lengths" sLens f fd) : FnOk P w K mg base L2.CX0 13 f fd ["_law_loop_here"] (spLens K) := by
  refine F.ok scLens (fun vs H Q E h => ?_) (fun cdv A outer s H vs Q E hr h => ?_)
  · obtain ⟨t, l, rfl, _⟩ := h
    rfl
  · obtain ⟨t, l, rfl, hl, fair, l1, l64, q⟩ := h
    refine ⟨_, pss_one (ps_ret (pe_lc (own := [("_law_kind", 1)]) (g := gName 1) (by rfl) scLens.nd (pi_tup (pe_tup (pa_cons pe_str (pa_cons pe_str (pa_cons pe_str pa_nil))))) (blkOk_by (N := nLens) (sc := defScope sLens) (by decide +kernel))
      (fun _ _ _ _ _ => pg_name (i := 1) scLens.nd rfl (.inl rfl)) (fun _ _ _ _ _ => pts_nil) (fun _ _ _ _ _ => pe_dd D0 hr (by decide) (by rfl) (pa_cons (pv 0) (pa_cons (pv 1) pa_nil))))), ?_⟩
    refine ⟨by show 3 ≤ sizeLine; decide, fun T nT => ⟨T, rfl, ⟨_, .inl (.inl upd_same)⟩, fun D nD => lc_tup (K := K) (a := T) (xs := W3.map V.str)
      (fun i H' => Same (upd H T (.tup (W3.map V.str))) H' ∧ ∃ ns : List Nat, ns.length = i ∧ (∀ (j n : Nat) (k : Str), ns[j]? = some n → W3[j]? = some k → n ≤ 64 ∧ LeastP l k n) ∧ H' D = some (.lst (ns.map fun n : Nat => V.int (n : Int)))) ⟨same_new nD, [], rfl, fun j n k h => absurd (show (none : Option Nat) = some n from (List.getElem?_nil (i := j)).symm.trans h) (by simp), upd_same⟩ (fun i H' _ hp => .inl (.inl (hp.1 _ _ upd_same))) (fun i x H2 hx hp => ?_) (fun H2 hp => ?_)⟩⟩
    · obtain ⟨s2, ns, ln, al, hD⟩ := hp
      rw [List.getElem?_map] at hx
      obtain ⟨k, hk, rfl⟩ := Option.map_eq_some_iff.mp hx
      have pk : Pf.Plain k := by
        match i, hk with
        | 0, hk => exact .inl (Option.some.inj hk).symm
        | 1, hk => exact .inr (.inl (Option.some.inj hk).symm)
        | 2, hk => exact .inr (.inr (Option.some.inj hk).symm)
      have i3 : i < 3 := (List.getElem?_eq_some_iff.mp hk).1
      have s02 : Same H H2 := (same_new nT).trans s2
      refine ⟨rfl, .ref t, rfl, .str k, rfl, t, l, k, 0, rfl, pk, hl.keep (Same.keep s02), fair, l1, l64, fun H3 n s3 nl le => ⟨_, s3 _ _ hD, ?_, fun a o h => ?_, ns ++ [n], ?_, fun j n2 k2 h1 h2 => ?_, ?_⟩⟩
      · rw [List.length_map, ln]
        exact small1000 (by omega)
      · rw [upd_ne (ne_of_none h nD)]
        exact s3 _ _ (s2 _ _ h)
      · rw [List.length_append, ln]
        rfl
      · rw [List.getElem?_append] at h1
        split at h1
        · exact al j n2 k2 h1 h2
        · have hj : j - ns.length = 0 := by
            rcases Nat.eq_zero_or_pos (j - ns.length) with z | z
            · exact z
            · rw [List.getElem?_eq_none (by show 1 ≤ _; omega)] at h1
              exact (nomatch h1)
          rw [hj] at h1
          obtain rfl := Option.some.inj h1
          have ej : j = i := by omega
          rw [ej, hk] at h2
          obtain rfl := Option.some.inj h2
          exact ⟨by omega, le⟩
      · rw [upd_same, List.map_append]
        rfl
    · obtain ⟨s2, ns, ln, al, hD⟩ := hp
      match ns, ln with
      | [a, b, c], _ =>
        obtain ⟨a1, a2⟩ := al 0 a "own" rfl rfl
        obtain ⟨b1, b2⟩ := al 1 b "split" rfl rfl
        obtain ⟨c1, c2⟩ := al 2 c "shared" rfl rfl
        exact q H2 D a b c ((same_new nT).trans s2) a1 b1 c1 ⟨a2, b2, c2⟩ hD
theorem Like.lens {l l' : List (Int × Int)} {a b : Nat} {f : Bool → Bool} (h : Like l l' a b f) (fair : Fair l) (h1 : 1 ≤ l.length) (h2 : l.length ≤ 64) (fair' : Fair l') (h1' : 1 ≤ l'.length) (h2' : l'.length ≤ 64) {x y z x' y' z' : Nat} (e : Lens l x y z) (e' : Lens l' x' y' z') : x' = x ∧ y' = y ∧ z' = z :=
  ⟨h.least fair h1 h2 fair' h1' h2' (.inl rfl) e.own e'.own, h.least fair h1 h2 fair' h1' h2' (.inr (.inl rfl)) e.split e'.split, h.least fair h1 h2 fair' h1' h2' (.inr (.inr rfl)) e.shared e'.shared⟩
end
end Pf
/-! len(o), x in o, o[x], o(..): o an instance of an own class with a def for it -/
namespace Gk
open PySem PySem.Spec PyProof.Rows L2
section
variable {X : Cx} {CX : CXT} {k : Nat} {C f : Addr} {fd : FuncData} {ps : List Str} {sp : Sp} {E : XK}
/-- the def runs, somewhere below the running body -/
theorem run_below {A : Around} {pins : List (Addr × Obj)} {σ : L2.St} {H : Hp} {s : Shared} {Q : VK} {us : List Value} {vs : List V} (sb : L2.Sub X k A) (I : Inv X pins σ H s) (F : FnOk X.prog X.w X.K X.mg X.base CX k f fd ps sp) (hb : Binds X.K fd ps []) (hx : Passes CX X E)
    (r : Vals vs us) (h : sp vs H Q E) : codeAny (model X.prog X.w) A (.call (.ref f) ⟨us, []⟩) (fun r s' => match r with | .ok (.ret v) => EP X pins σ Q v s' | .ok _ => False | .error e => X.xe e s') s := by
  have e0 : Env0 X.prog X.w X.K X.mg X.base A X.stack s H := by
    have e := I.env0
    exact ⟨by rw [sb.fr]; exact e.frames, e.mod, e.bs, e.bsz, e.funs, e.frf, e.hok, e.bare⟩
  have hl := F.len _ _ _ _ h
  have hu := r.length
  refine codeAny_mono (F.run A X.stack s H ⟨us, []⟩ us vs _ E sb.room e0 (by
    have := hb s us I.kIn (by rw [List.append_nil, ← hu, hl])
    simpa using this) r h) fun rr s' hq => ?_
  cases rr with
  | error e => exact hx pins σ H s e s' I hq
  | ok fl =>
    cases fl with
    | ret w => exact I.after hq
    | next => exact False.elim hq
    | brk => exact False.elim hq
    | cont => exact False.elim hq
theorem call_below {A : Around} {pins : List (Addr × Obj)} {σ : L2.St} {H : Hp} {s : Shared} {Q : VK} {us : List Value} {vs : List V} (sb : L2.Sub X k A) (I : Inv X pins σ H s) (F : FnOk X.prog X.w X.K X.mg X.base CX k f fd ps sp) (hb : Binds X.K fd ps []) (hx : Passes CX X E)
    (r : Vals vs us) (h : sp vs H Q E) : wpAny (model X.prog X.w) A (call (.ref f) us) (EP X pins σ Q) X.xe s := by
  refine wpAny_call (codeAny_mono (run_below sb I F hb hx r h) fun rr s' hq => ?_)
  cases rr with
  | error e => exact hq
  | ok fl => cases fl <;> exact hq
theorem inst_at {pins : List (Addr × Obj)} {σ : L2.St} {H : Hp} {s : Shared} {a dx : Addr} {fs : List (Str × V)} (I : Inv X pins σ H s) (ha : H a = some (.ins C dx fs)) : ∃ ox od, PySem.W.InstAt s.heap a ox C od ∧ ox.data = .plain := by
  obtain ⟨mA, J, _⟩ := ins_get I.hok ha
  obtain ⟨od, J, _⟩ := J.look
  exact ⟨_, some od, J, rfl⟩
/-- o, an instance of the class at C, and what its def promises -/
def rLenOwn (C : Addr) (sp : Sp) (E : XK) : List V → Hp → VK → Prop := fun xs H Q => ∃ a dx fs, xs = [.ref a] ∧ H a = some (.ins C dx fs) ∧ sp [.ref a] H (fun v H' => ∃ n : Int, v = .int n ∧ 0 ≤ n ∧ n < 2 ^ 63 ∧ Q (.int n) H') E
theorem cr_lenOwn (hs : PySem.W.findIn X.K (.ref C) "__len__" = some (some (.ref f))) (hf : PySem.W.isFn X.K (.ref f) = true) (F : FnOk X.prog X.w X.K X.mg X.base CX k f fd ps sp) (hr : Room (k + 1) X.A) (hb : Binds X.K fd ps []) (hx : Passes CX X E) :
    CallR X (.builtin "len") (rLenOwn C sp E) := by
  intro pins s σ H xs us Q I r h
  obtain ⟨a, dx, fs, rfl, ha, hq⟩ := h
  obtain ⟨u, rfl, rx⟩ := vals1 r
  cases rx
  obtain ⟨ox, od, J, _⟩ := inst_at I ha
  obtain ⟨m, hF⟩ := I.fr
  refine PySem.W.len_K hF I.ok.mod.kin J hs hf (wpAny_mono (call_below ⟨hr.in1, rfl⟩ I F hb hx (.cons (show RelV (.ref a) (.ref a) from rfl) .nil) hq) (fun v s' q => ?_) fun _ _ z => z)
  obtain ⟨x, H', I', rx, n, rfl, h0, h1, q⟩ := q
  obtain ⟨t, rfl⟩ := rx
  exact ⟨⟨h0, h1⟩, .int n, H', I'.tok _, ⟨_, rfl⟩, q⟩
/-- x in o -/
def rInOwn (C : Addr) (sp : Sp) (E : XK) : R2 := fun x y H Q => ∃ a dx fs, y = .ref a ∧ H a = some (.ins C dx fs) ∧ sp [.ref a, x] H (fun v H' => ∃ b, v = .bl b ∧ Q (.bl b) H') E
theorem op_inOwn (hs : PySem.W.findIn X.K (.ref C) "__contains__" = some (some (.ref f))) (hf : PySem.W.isFn X.K (.ref f) = true) (F : FnOk X.prog X.w X.K X.mg X.base CX k f fd ps sp) (hr : Room k X.A) (hb : Binds X.K fd ps []) (hx : Passes CX X E) :
    OpR X (compareOp .In) (rInOwn C sp E) := by
  intro pins s σ H x y v u Q I rx ry h
  obtain ⟨a, dx, fs, rfl, ha, hq⟩ := h
  cases ry
  obtain ⟨ox, od, J, _⟩ := inst_at I ha
  obtain ⟨m, hF⟩ := I.fr
  refine PySem.W.in_K hF I.ok.mod.kin J hs hf (wpAny_mono (call_below ⟨hr, rfl⟩ I F hb hx (.cons (show RelV (.ref a) (.ref a) from rfl) (.cons rx .nil)) hq) (fun v s' q => ?_) fun _ _ z => z)
  obtain ⟨z, H', I', rz, b, rfl, q⟩ := q
  cases rz
  exact wpAny_truthy_bool ⟨.bl b, H', I', rfl, q⟩
/-- o[x] -/
def tIxOwn (C : Addr) (sp : Sp) (E : XK) (ta tb : TE) : TE := fun σ H Q => ta σ H fun x H1 => tb σ H1 fun y H2 => ∃ a dx fs, x = .ref a ∧ H2 a = some (.ins C dx fs) ∧ sp [.ref a, y] H2 Q E
theorem pe_ixOwn {e i : Expr} {ta tb : TE} {pos : Pos} (hs : PySem.W.findIn X.K (.ref C) "__getitem__" = some (some (.ref f))) (hfn : PySem.W.fnIn X.K f = true) (hf : PySem.W.isFn X.K (.ref f) = true) (F : FnOk X.prog X.w X.K X.mg X.base CX k f fd ps sp) (hr : Room (k + 1) X.A) (hb : Binds X.K fd ps []) (hx : Passes CX X E)
    (he : PE X e ta) (hi : PE X i tb) (hsl : ∀ a v, subscripted i true (.ref a) v = runValue (.builtin "lifetime.subscript" ⟨[.ref a, v], []⟩)) : PE X (.Subscript e i pos) (tIxOwn C sp E ta tb) := by
  refine ⟨fun pins s σ H Q I h => ?_⟩
  refine Subscript_ (thn (he.run pins s σ H _ I h) fun v s1 ⟨x, H1, I1, rx, q1⟩ => thn (hi.run pins s1 σ H1 _ I1 q1) fun u s2 ⟨y, H2, I2, ry, a, dx, fs, ex, ha, hq⟩ => ?_)
  subst ex
  obtain rfl : v = Value.ref a := rx
  obtain ⟨ox, od, J, _⟩ := inst_at I2 ha
  obtain ⟨m, hF⟩ := I2.fr
  exact PySem.W.sub_K hF I2.ok.mod.kin J hs hfn hf (call_below ⟨hr.in1, rfl⟩ I2 F hb hx (.cons (show RelV (.ref a) (.ref a) from rfl) (.cons ry .nil)) hq) (hsl a u)
end
/-- a call of what the caller keeps, the arguments evaluated ahead of the look at it -/
theorem callWith_kept {M : Model} {A : Around} {E : Value → Shared → Prop} {s : Shared} {pos : Pos} {v : Value} {args : List (Bool × Sem Value)} {Q : Value → Shared → Prop} (hp : args.any (·.1) = false)
    (h : wpAny M A (evalArgs v true args []) (fun a s₁ => PySem.W.Looks M s₁.heap (keeperOf v) .caller ∧ wpAny M A (call v a.pos a.kw) Q E s₁) E s) : wpAny M A (callWith pos v [] args []) Q E s := by
  have hq : (args.any (·.1) || ([] : List (Option Str × Sem Value)).any (·.1.isNone)) = false := by rw [hp]; rfl
  unfold callWith
  refine wpAny_bind (wpAny_holding (wpAny_mono h (fun a s₁ ⟨L, h₁⟩ => wpAny_bind (wpAny_standAt ?_)) fun _ _ z => z))
  simp only [hq]
  refine wpAny_bind (L.here (wpAny_bind (wpAny_mono (wpAny_operateT h₁) (fun r s₂ hr => wpAny_bind (wpAny_holding (wpAny_point (wpAny_pure hr)))) fun _ _ z => z)))
/-- o(e, ..) -/
def tCallOwn (C : Addr) (sp : Sp) (E : XK) (tf : TE) (t : TA) : TE := fun σ H Q => tf σ H fun c H1 => ∃ a, c = .ref a ∧ (∃ dx fs, H1 a = some (.ins C dx fs)) ∧ t σ H1 fun vs H2 => (∃ dx fs, H2 a = some (.ins C dx fs)) ∧ sp (.ref a :: vs) H2 Q E
section
variable {X : Cx} {CX : CXT} {k : Nat} {C f : Addr} {fd : FuncData} {ps : List Str} {sp : Sp} {E : XK} {x : PySem.Str} {np pos : Pos} {e : Expr} {es : List Expr} {tf : TE} {t : TA}
theorem pe_callOwn (hs : PySem.W.findIn X.K (.ref C) "__call__" = some (some (.ref f))) (hfn : PySem.W.fnIn X.K f = true) (hf : PySem.W.isFn X.K (.ref f) = true) (F : FnOk X.prog X.w X.K X.mg X.base CX k f fd ps sp) (hr : Room k X.A) (hb : Binds X.K fd ps []) (hx : Passes CX X E)
    (hc : PE X (.Name x np) tf) (ha : PA X (e :: es) t) (he : starEach (e :: es) X.env = (false, eval e X.env) :: starEach es X.env := by rfl) (hpl : (backTo pos (starEach es X.env)).any (·.1) = false := by rfl) : PE X (.Call (.Name x np) (e :: es) [] pos) (tCallOwn C sp E tf t) := by
  refine ⟨fun pins s σ H Q I h => ?_⟩
  refine wpAny_Call_Name_kw (thn (hc.run pins s σ H _ I h) fun u s1 ⟨c, H1, I1, rc, a, ec, ⟨dx, fs, hi⟩, q1⟩ => ?_)
  subst ec
  obtain rfl : u = Value.ref a := rc
  obtain ⟨ox, od, J, hd⟩ := inst_at I1 hi
  have hA := ha.run pos pins s1 σ H1 _ I1 q1
  rw [he] at hA ⊢
  refine callWith_kept (by show (false || (backTo pos (starEach es X.env)).any (·.1)) = false; rw [hpl]; rfl) (PySem.Calls.evalArgs_plain (thn hA fun us s2 ⟨vs, H2, I2, r, ⟨dx2, fs2, hi2⟩, q⟩ => ?_))
  obtain ⟨ox2, od2, J2, hd2⟩ := inst_at I2 hi2
  refine ⟨PySem.W.kco_keeper J2 hd2, wpAny_call (PySem.W.kco_code I2.kIn J2 hd2 hs hf hfn (codeAny_mono (run_below ⟨hr, rfl⟩ I2 F hb hx (.cons (show RelV (.ref a) (.ref a) from rfl) r) q) fun rr s' hq => ?_))⟩
  cases rr with
  | error e => exact hq
  | ok fl => cases fl <;> exact hq
end
end Gk
/-! Defs whose own code object is known; a law's call where some defs keep tables of code objects. -/
namespace Gk
open PySem PySem.Spec PyProof.Rows L2 LamX
section
variable {P : Program} {w : World} {K : PySem.W.Frag} {mg : Str → Option Value} {base : Heap}
/-- as fnG, with the def's code object told -/
theorem fnGc {x qual : Str} {st : Stmt} {f : Addr} {fd : FuncData} {N ps : List Str} {k : Nat} {sp : Sp} (F : L2.Fun K x qual st f fd) (S : FnScope N ps (defScope st)) (len : ∀ vs H Q E, sp vs H Q E → vs.length = ps.length)
    (hbody : ∀ (A : Around) (outer : List Env) (s : Shared) (H : Hp) (vs : List V) (Q : VK), Room k (A.deeper (envOfC qual (defScope st) s.heap.objs.size f fd.code)) → (A.deeper (envOfC qual (defScope st) s.heap.objs.size f fd.code)).guards = some [] → sp vs H Q L2.E0 →
      ∃ t, PSs (cxOf L2.CX0 P w K mg base N qual (defScope st) f fd.code A outer s H L2.E0).nox (defBody st) t ∧ t { nx := fun _ H' => Q .non H', rt := Q } (start N vs) H) :
    FnG P w K mg base (k + 1) f fd ps sp := by
  obtain ⟨oc, od, kV, doc, pm, an, cdv, ct, osl, rfl, lk, hcd⟩ := F.ex
  refine ⟨len, fun A outer s H args us vs Q room gd en bd rv want => ?_⟩
  have many := len _ _ _ _ want
  have KX : K.In s.heap := en.mod.kin.keeps (fun b o e => (en.bs b o e).1)
  have lim : s.heap.NoLimit := en.mod.nolimit.keeps (fun b o e => (en.bs b o e).1)
  have kinds : ∀ y ∈ ps.zip us, (defScope st).names.lookup y.1 = some .local ∨ ((defScope st).names.lookup y.1 = some .cell ∧ ((cellsFrom (s.heap.objs.size + 1) (defScope st).names []).lookup y.1).isSome = true) :=
    fun y hy => (S.par y.1 (List.of_mem_zip (a := y.1) (b := y.2) hy).1).elim Or.inl fun q => .inr ⟨q, PySem.W.cellsFrom_some _ _ _ (.inl q)⟩
  refine codeAny_call_function room.depth (KX _ _ lk) rfl S.co S.gen rfl (PySem.W.codeRec_of KX hcd) (bd _ _ _ _ (wpAny_newFunctionEnv_cells S.kind kinds fun env he st1 inC => ?_))
  subst he
  obtain ⟨t, ht, hq⟩ := hbody A outer s H vs Q (room.deeper _) (guards_deeper gd) want
  refine ⟨lim.keeps inC.toInCall.keep, codeAny_func (wpAny_mono (ht.nox.run [] st1 (start N vs) H _ (inv_start (CX := L2.CX0) (P := P) (w := w) (mg := mg) (E := L2.E0) S room.hd en many rv inC) hq) (fun fl s' hs => ?_) fun e s' hs => hs)⟩
  cases fl with
  | brk => obtain ⟨_, _, _, z⟩ := hs; exact False.elim z
  | cont => obtain ⟨_, _, _, z⟩ := hs; exact False.elim z
  | next => obtain ⟨σ1, H1, J, z⟩ := hs; exact ⟨V.non, H1, J.os, J.bare, J.base, J.hok, rfl, z⟩
  | ret u => obtain ⟨v, σ1, H1, J, rv1, z⟩ := hs; exact ⟨v, H1, J.os, J.bare, J.base, J.hok, rv1, z⟩
/-- the code object of a def with a table -/
theorem tab_code {x : Str} {f c T : Addr} {oc : Value} {od : Option Addr} {fd : FuncData} {osl : Array (Option Value)} (a : PySem.W.nsIn K mainGlobals x = some (some (.ref f))) (l : K.lookup f = some ⟨oc, od, .func fd, osl⟩) (t : PySem.W.tabIn K x = some (c, T)) : fd.code = .ref c := by
  unfold PySem.W.tabIn at t
  rw [a] at t
  dsimp only at t
  rw [l] at t
  dsimp only at t
  split at t
  · rename_i c2 e
    split at t
    · split at t
      · cases t
        exact e
      · cases t
    · cases t
  · cases t
/-- the law's call, its promise told where nothing is being shown; ts: code objects and their tables, which stand empty -/
theorem callGT {mb : Str → Option Value} {k : Nat} {fa a : Addr} {ts : List (Addr × Addr)} {fd : FuncData} {x : Str} {sp : Sp} {s1 : Shared} {vs : List Value} {ns : List Int} (KX : K.In s1.heap) (n1 : s1.heap.Ns mainGlobals mg) (n2 : s1.heap.Ns builtinsNs mb)
    (n3 : ∀ x : Str, x ≠ "__name__" → mb x = bootBuiltins x) (lim : s1.heap.NoLimit) (gen : s1.gens = #[]) (tabs : ∀ p ∈ ts, s1.heap.get? p.2 = some { cls := .none, data := .fields #[] }) (noK : ∀ p ∈ ts, K.lookup p.2 = none) (codes : ∀ p ∈ ts, PySem.W.CodeHd s1.heap p.1 p.2)
    (main : ∃ (bm : Addr) (ob : Obj), mg "__builtins__" = some (.ref bm) ∧ bm ≠ builtinsNs ∧ s1.heap.get? bm = some ob ∧ ob.cls = .type "module" ∧ ob.dict = some builtinsNs ∧ ob.data = .plain)
    (at_ : s1.heap.get? a = some { cls := .type "list", data := .seq vs.toArray }) (iss : IntsAre vs ns) (few : ns.length ≤ sizeLine) (room : Room k callerA)
    (F : ∀ base : Heap, K.In base → base.Ns mainGlobals mg → (∀ p ∈ ts, TabB base mg p.1 p.2) → FnG P w K mg base k fa fd [x] sp) (binds : ∀ (s : Shared) (u : Value), BindsTo s fd ⟨[u], []⟩ [(x, u)])
    (want : ∀ H : Hp, (∀ p ∈ ts, H p.2 = some (.tbl #[])) → SqL K H a (ns.map V.int) → sp [.ref a] H (fun v _ => v = .bl true) L2.E0) :
    codeAny (model P w) callerA (.call (.ref fa) ⟨[.ref a], []⟩) (fun r s' => r = .ok (.ret (.bool true)) ∧ OldK s1.heap s'.heap ∧ s'.os = s1.os ∧ AllBare s'.gens) s1 := by
  have rv := L2.vals_ints iss
  let TS : List Addr := ts.map (·.2)
  have isT : ∀ b ∈ TS, s1.heap.get? b = some { cls := .none, data := .fields #[] } := fun b hb => by
    obtain ⟨p, hp, rfl⟩ := List.mem_map.mp hb
    exact tabs p hp
  have inT : ∀ p ∈ ts, p.2 ∈ TS := fun p hp => List.mem_map.mpr ⟨p, hp, rfl⟩
  have notT : a ∉ TS := fun z => by
    have q := isT a z
    rw [at_] at q
    exact Data.noConfusion (show Data.seq vs.toArray _ = Data.fields #[] from congrArg Obj.data (Option.some.inj q))
  have go : ∀ H : Hp, (∀ p ∈ ts, H p.2 = some (.tbl #[])) → (∀ b, H b = none ∨ b ∈ TS ∨ ∃ o xs, H b = some (.frz o (.lst xs))) → SqL K H a (ns.map V.int) → HOk P w H s1.heap → (∀ b, H b ≠ none → b = a ∨ b ∈ TS) → (H a ≠ none → K.lookup a = none) →
      codeAny (model P w) callerA (.call (.ref fa) ⟨[.ref a], []⟩) (fun r s' => r = .ok (.ret (.bool true)) ∧ OldK s1.heap s'.heap ∧ s'.os = s1.os ∧ AllBare s'.gens) s1 := by
    intro H tab only there held alone apart
    have kind : ∀ {b : Addr} {u : HO} {o : Obj}, H b = some u → s1.heap.get? b = some o → o.data = .seq vs.toArray ∨ o.data = .fields #[] := fun {b u o} e eo => by
      rcases alone b (fun z => by rw [e] at z; cases z) with rfl | z
      · rw [at_] at eo; cases eo; exact .inl rfl
      · rw [isT b z] at eo; cases eo; exact .inr rfl
    have free : ∀ {b : Addr} {o : Obj}, s1.heap.get? b = some o → (∀ n, o.data ≠ .seq vs.toArray n) → o.data ≠ .fields #[] → H b = none := fun {b o} eo g1 g2 => by
      cases q : H b with
      | none => rfl
      | some u =>
        rcases kind q eo with z | z
        · exact absurd z (g1 _)
        · exact absurd z g2
    have freeD : ∀ {b : Addr} {o : Obj} {es : Array DictEntry} {ep : Nat}, s1.heap.get? b = some o → o.data = .dict es ep → H b = none := fun eo d => free eo (fun n z => by rw [d] at z; cases z) fun z => by rw [d] at z; cases z
    have nsB : ∀ {b : Addr} {m : Str → Option Value}, s1.heap.Ns b m → (hidT s1.heap H).Ns b m := fun {b m} h => by
      obtain ⟨o, es, ep, e, d, r⟩ := h
      exact ⟨o, es, ep, hidT_get e (freeD e d), d, r⟩
    have KB : K.In (hidT s1.heap H) := fun b o e => hidT_get (KX b o e) (by
      cases q : H b with
      | none => rfl
      | some u =>
        rcases alone b (fun z => by rw [q] at z; cases z) with rfl | z
        · rw [apart (fun z => by rw [q] at z; cases z)] at e; cases e
        · obtain ⟨p, hp, ep⟩ := List.mem_map.mp z
          rw [← ep, noK p hp] at e
          cases e)
    obtain ⟨mc, c1, c2⟩ := lim
    have TB : ∀ p ∈ ts, TabB (hidT s1.heap H) mg p.1 p.2 := fun p hp => by
      have tp := tabs p hp
      have notMain : mainGlobals ≠ p.2 := fun z => by
        obtain ⟨o, es, ep, e, d, _⟩ := n1
        rw [z, tp] at e
        cases e
        cases d
      refine ⟨?_, ?_, notMain⟩
      · obtain ⟨o, us, file, tf, flags, tg, inF, text, tt, e1, r1, r2, r3, rest⟩ := codes p hp
        refine ⟨o, us, file, tf, flags, tg, inF, text, tt, hidT_get e1 (free e1 (fun n z => by rw [r2] at z; cases z) fun z => ?_), r1, r2, r3, rest⟩
        rw [r2] at z
        cases z
        simp at r3
      · obtain ⟨bm, ob, b1, b2, b3, b4, b5, b6⟩ := main
        refine ⟨bm, ob, b1, b2, fun q => ?_, fun q => ?_, hidT_get b3 (free b3 (fun n z => by rw [b6] at z; cases z) fun z => by rw [b6] at z; cases z), b4, b5, b6⟩
        · obtain ⟨o, es, ep, e, d, _⟩ := n1
          rw [q, e] at b3
          cases b3
          rw [d] at b6
          cases b6
        · rw [q, tp] at b3
          cases b3
          cases b6
    have en : Env0 P w K mg (hidT s1.heap H) callerA [] s1 H :=
      { frames := rfl, mod := ⟨KB, nsB n1, ⟨mb, nsB n2, n3⟩, ⟨mc, nsB c1, c2⟩⟩, bs := fun b o e => of_hidT e, bsz := Nat.le_of_eq (hidT_size _ _), funs := trivial, frf := fun b hb => (nomatch (show b ∈ ([] : List Addr) from hb)), hok := held, bare := .of_eq gen }
    refine codeAny_mono ((F _ KB (nsB n1) TB).go callerA [] s1 H ⟨[.ref a], []⟩ [.ref a] [.ref a] _ room caller_guards en (binds s1 (.ref a)) (.cons rfl .nil) (want H tab there)) fun r s' res => ?_
    match r, res with
    | .error _, res => exact False.elim res
    | .ok .next, res => exact False.elim res
    | .ok .brk, res => exact False.elim res
    | .ok .cont, res => exact False.elim res
    | .ok (.ret u), res =>
      obtain ⟨v, H1, os, bare, un, held1, rel, qv⟩ := res
      have qv : v = .bl true := qv
      subst qv
      obtain rfl : u = Value.bool true := rel
      have same : ∀ b o, b ∉ TS → s1.heap.get? b = some o → s'.heap.get? b = some o := fun b o nb e => by
        cases q : H b with
        | none => exact un.keep b o e q (fun z => (nomatch (show b ∈ ([] : List Addr) from z))) (fun z => (nomatch z))
        | some u =>
          rcases only b with z | z | ⟨ob, xs, z⟩
          · rw [q] at z
            cases z
          · exact absurd z nb
          · have f1 := (held b _ z).1
            have f2 := (held1 b _ (un.frzs b ob _ z)).1
            rw [e] at f1
            cases f1
            exact f2
      have more : ∀ p ∈ ts, ∃ m : Array Value, s'.heap.get? p.2 = some { cls := .none, data := .fields m } := fun p hp => by
        obtain ⟨m, z⟩ := un.tbls p.2 #[] (tab p hp)
        exact ⟨_, held1 p.2 _ z⟩
      refine ⟨rfl, ⟨fun b o e => ?_, fun b o e => ?_⟩, os, bare⟩
      · by_cases hb : b ∈ TS
        · obtain ⟨p, hp, rfl⟩ := List.mem_map.mp hb
          obtain ⟨m, hm⟩ := more p hp
          rw [tabs p hp] at e
          cases e
          exact .inr (.inl ⟨((codes p hp).tab (tabs p hp)).isCodeTable, rfl, #[], m, rfl, by rw [Array.empty_append]; exact hm⟩)
        · exact .inl (same b o hb e)
      · by_cases hb : b ∈ TS
        · obtain ⟨p, hp, rfl⟩ := List.mem_map.mp hb
          obtain ⟨m, hm⟩ := more p hp
          exact ⟨_, hm⟩
        · exact ⟨o, same b o hb e⟩
  cases kl : K.lookup a with
  | some o =>
    have e := KX a o kl
    rw [at_] at e
    cases e
    refine go (fun b => if b ∈ TS then some (.tbl #[]) else none) (fun p hp => if_pos (inT p hp)) (fun b => ?_) (.inr ⟨_, vs.toArray, _, kl, rfl, rfl, rfl, by rw [List.size_toArray, iss.length]; exact few, by simpa using rv⟩) (fun b u z => ?_) (fun b z => ?_) (fun z => absurd (if_neg notT) z)
    · by_cases h : b ∈ TS
      · exact .inr (.inl h)
      · exact .inl (if_neg h)
    · by_cases h : b ∈ TS
      · obtain rfl := Option.some.inj ((if_pos h).symm.trans z)
        exact isT b h
      · exact (nomatch ((if_neg h).symm.trans z))
    · by_cases h : b ∈ TS
      · exact .inr h
      · exact absurd (if_neg h) z
  | none =>
    refine go (fun b => if b = a then some (.frz { cls := .type "list", data := .seq vs.toArray } (.lst (ns.map V.int))) else if b ∈ TS then some (.tbl #[]) else none) (fun p hp => (if_neg fun z => notT (by rw [← z]; exact inT p hp)).trans (if_pos (inT p hp))) ?_ (.inl (.inr ⟨_, if_pos rfl⟩)) ?_ ?_ (fun _ => kl)
    · intro b
      by_cases h : b = a
      · exact .inr (.inr ⟨_, _, if_pos h⟩)
      · by_cases h2 : b ∈ TS
        · exact .inr (.inl h2)
        · exact .inl ((if_neg h).trans (if_neg h2))
    · intro b u z
      by_cases h : b = a
      · obtain rfl := Option.some.inj ((if_pos h).symm.trans z)
        subst h
        exact ⟨at_, by rw [List.length_map]; exact few, vs, _, rv, at_⟩
      · by_cases h2 : b ∈ TS
        · obtain rfl := Option.some.inj (((if_neg h).trans (if_pos h2)).symm.trans z)
          exact isT b h2
        · exact (nomatch (((if_neg h).trans (if_neg h2)).symm.trans z))
    · intro b z
      by_cases h : b = a
      · exact .inl h
      · by_cases h2 : b ∈ TS
        · exact .inr h2
        · exact absurd ((if_neg h).trans (if_neg h2)) z
end
/-- the goal behind the head; xs: the defs that make lambdas -/
theorem walkGT {l : PySem.W.OpenLaw} {n k : Nat} {q : Program} {loose : List Str} {XP : (Str → Option Value) → Heap → Prop} {YP : World → Heap → Prop} {d : DefRec} {K : Params → PySem.W.Frag} {sp : World → List (Addr × Addr) → Sp} {x : Str}
    (h1 : l.most = some n) (h2 : n ≤ sizeLine) (h3 : d.params.defaults = []) (h4 : Room k callerA) (h5 : ∀ (w : World) (h : Heap), YP w h → (K w.params).In h)
    (F : ∀ (w : World) (mg : Str → Option Value) (fa : Addr) (h : Heap), (K w.params).In h → h.Ns mainGlobals mg → mg d.name = some (.ref fa) →
      ∃ (fd : FuncData) (ts : List (Addr × Addr)), (∀ p ∈ ts, (K w.params).lookup p.2 = none ∧ ∃ y : Str, PySem.W.tabIn (K w.params) y = some p ∧ ((recsOf q).find? (fun e => e.name == y)).isSome = true) ∧ (∀ (s : Shared) (u : Value), BindsTo s fd ⟨[u], []⟩ [(x, u)]) ∧
        ∀ base : Heap, (K w.params).In base → base.Ns mainGlobals mg → (∀ p ∈ ts, TabB base mg p.1 p.2) → FnG l.prog w (K w.params) mg base k fa fd [x] (sp w ts))
    (h6 : ∀ (w : World) (ts : List (Addr × Addr)) (H : Hp) (a : Addr) (ns : List Int), ns.length ≤ n → (∀ p ∈ ts, H p.2 = some (.tbl #[])) → SqL (K w.params) H a (ns.map V.int) → sp w ts [.ref a] H (fun v _ => v = .bl true) L2.E0) :
    PySem.W.WalkO q loose XP YP l.row.toRowW d [] (fun f vs => PySem.call f vs) :=
  Att.attach_call h1 h3 fun w s0 s1 mg mb fa o pm cd doc a vs ns G Y ho hd hcd hmg obj iss len gen => by
    have X := h5 w _ Y
    obtain ⟨fd, ts, hts, hb, hF⟩ := F w mg fa _ X G.T.g hmg
    have tabs : ∀ p ∈ ts, PySem.W.CodeHd s1.heap p.1 p.2 ∧ s1.heap.get? p.2 = some (PySem.W.tabObj #[]) := fun p hp => by
      obtain ⟨_, y, e, hy⟩ := hts p hp
      obtain ⟨d', hd'⟩ := Option.isSome_iff_exists.mp hy
      exact PySem.W.tab_of G.T X hd' e
    exact callGT X G.T.g G.T.b G.T.builtins G.T.nolimit gen (fun p hp => (tabs p hp).2) (fun p hp => (hts p hp).1) (fun p hp => (tabs p hp).1) G.T.bmain obj iss (Nat.le_trans len h2) h4 hF hb (fun H ht hS => h6 w ts H a ns len ht hS)
end Gk
/-! A lambda without parameters handed to a def that calls it; what it raises is told of with the caller's names as they stand. -/
namespace Gk
open PySem PySem.Spec PyProof.Rows L2 LamX
section
variable {X : Cx} {pins : List (Addr × Obj)} {σ : L2.St} {H : Hp} {s : Shared}
/-- x(), x the lambda; W: where what it raises goes -/
theorem pe_actS {Eg : XK} {Ng : List Str} {qg : Str} {sg : Scope} {g f c' : Addr} {cdg pm ctv : Value} {params : Arguments} {body : Expr} {scope : Scope} {k i : Nat} {a : Str} {pn : List (Addr × Obj)} {xe : Value → Shared → Prop} {W : WX} {tb : XK → TE} {p1 p2 : Pos}
    (I : Inv X pins σ H s) (L : LamS X.env.scope scope) (there : s.heap.get? f = some (PySem.W.kla_obj "<lambda>" (X.env.qual ++ "<lambda>") params body scope (cloFrom X.env.cells scope.names []) pm c' ctv)) (mine : H f = none) (noFr : f ∉ frs X.stack)
    (noArgs : bindArgs (PySem.W.kla_fn "<lambda>" (X.env.qual ++ "<lambda>") params body scope (cloFrom X.env.cells scope.names []) pm (.ref c') ctv) ⟨[], []⟩ = pure []) (tk : Takes ((cxOf C8.CX0 X.prog X.w X.K X.mg X.base Ng qg sg g cdg X.A X.stack s H Eg).tr pn xe) W)
    (room : Room (k + 1) (X.A.deeper (envOfC qg sg s.heap.objs.size g cdg))) (inner : ∀ (A : Around) (outer : List Env) (s : Shared) (H : Hp) (E : XK), Room k (A.deeper (lamEnv X scope s.heap.objs.size f c')) → PE (lamCx X A outer s H E scope f c') body (tb E))
    (at_ : Ng[i]? = some a) (vis : Vis sg a) (hd : (a == ("__debug__" : Str)) = false := by decide) (hcd : (a == ("__classdict__" : Str)) = false := by decide) :
    PE ((cxOf C8.CX0 X.prog X.w X.K X.mg X.base Ng qg sg g cdg X.A X.stack s H Eg).tr pn xe) (.Call (.Name a p1) [] [] p2) (fun τ G Q => τ[i]? = some (some (.ref f)) ∧ G c' = some (CodeO c' (X.env.qual ++ "<lambda>")) ∧ tb (WE W τ) σ G Q) := by
  refine ⟨fun pinsG sG τ G Q J ⟨h1, h2, h3⟩ => wpAny_Call_Name_kw (thn ((pe_var (pos := p1) (i := i) at_ vis hd hcd).run pinsG sG τ G (fun v G1 => v = .ref f ∧ G1 = G) J ⟨.ref f, h1, rfl, rfl⟩) fun u s1 z => ?_)⟩
  obtain ⟨v, G1, J1, ru, rfl, rfl⟩ := z
  obtain rfl : u = Value.ref f := ru
  have lamO : s1.heap.get? f = some (PySem.W.kla_obj "<lambda>" (X.env.qual ++ "<lambda>") params body scope (cloFrom X.env.cells scope.names []) pm c' ctv) := J1.base.keep f _ there mine noFr fun z => (nomatch (show f ∈ ([] : List Addr) from z))
  refine PySem.W.callWith_F0 ⟨_, _, _, _, lamO⟩ ?_
  have un : Un (frs X.stack) [] H G1 s.heap s1.heap := J1.base
  obtain ⟨⟨oc, vs, t, o1, o2, o3⟩, _, _⟩ := J1.hok c' _ h2
  have run : codeAny (model X.prog X.w) (X.A.deeper (envOfC qg sg s.heap.objs.size g cdg)) (.call (.ref f) ⟨[], []⟩) (CR (L2.CX X.prog X.w) (envOfC qg sg s.heap.objs.size g cdg :: X.stack) X.prog X.w G1 s1 Q (WE W τ)) s1 := by
    refine PySem.W.kla_callFunE room.depth lamO rfl L.co L.gen rfl ⟨c', oc, vs, t, rfl, o1, o2, o3⟩ ?_
    rw [noArgs]
    refine wpAny_pure (wpAny_newFunctionEnv (fun y hy => (L.own y hy).2) (fun y hy => absurd hy (by simp)) (fun h₁ hns hsb => ⟨J1.nolimit.fresh _ hsb, ?_⟩) L.kind)
    show codeAny _ _ (.expr body (lamEnv X scope s1.heap.objs.size f c')) _ _
    have start := lam_start2 (A := X.A.deeper (envOfC qg sg s.heap.objs.size g cdg)) (outer := envOfC qg sg s.heap.objs.size g cdg :: X.stack) (E := WE W τ) (f := f) (c' := c') (tk := s1.toks + ([] : List (Str × Value)).length) I L J1.env0 room.hd un hns
      (fun b o e => hsb.extBut b o (Nat.ne_of_lt (Heap.lt_size e)) (Heap.get?_push_of_some _ e))
    refine PySem.W.kla_codeExpr (wpAny_mono ((inner _ _ s1 G1 (WE W τ) (room.deeper _)).run [] _ _ G1 Q start h3) (fun v s' ⟨w', H', J', rv, q⟩ => ?_) fun e s' hq => hq)
    exact ⟨w', H', J'.os, J'.bare, J'.base, J'.hok, rv, q⟩
  refine wpAny_call (codeAny_mono run fun r s' hq => ?_)
  match r, hq with
  | .error e, hq => exact passAt tk τ pinsG G1 s1 e s' J1 hq
  | .ok (.ret u), hq => exact J1.after hq
  | .ok .next, hq => exact False.elim hq
  | .ok .brk, hq => exact False.elim hq
  | .ok .cont, hq => exact False.elim hq
end
/-- the def that calls what it got -/
def GivesS (X : Cx) (Ng : List Str) (x : Str) (sg : Scope) (g : Addr) (cdg : Value) (bg : List Stmt) (a : Str) (q : Str) (TT : (XK → Hp → VK → Prop) → Hp → VK → Prop) : Prop :=
  ∀ (f c' : Addr) (s : Shared) (H : Hp) (Q : VK) (tl : XK → Hp → VK → Prop),
    (∀ (W : WX) (pn : List (Addr × Obj)) (xe : Value → Shared → Prop) (p1 p2 : Pos), Takes ((cxOf C8.CX0 X.prog X.w X.K X.mg X.base Ng x sg g cdg X.A X.stack s H C8.E0).tr pn xe) W →
      PE ((cxOf C8.CX0 X.prog X.w X.K X.mg X.base Ng x sg g cdg X.A X.stack s H C8.E0).tr pn xe) (.Call (.Name a p1) [] [] p2) (fun τ G Q => τ[0]? = some (some (.ref f)) ∧ G c' = some (CodeO c' q) ∧ tl (WE W τ) G Q)) →
    H c' = some (CodeO c' q) → TT tl H Q → ∃ t, PSs (cxOf C8.CX0 X.prog X.w X.K X.mg X.base Ng x sg g cdg X.A X.stack s H C8.E0).nox bg t ∧ t { nx := fun _ H' => Q .non H', rt := Q } (L2.start Ng [.ref f]) H
/-- x(lambda: body) -/
theorem pe_lamcallS {X : Cx} {T : List (Addr × Str)} {TT : (XK → Hp → VK → Prop) → Hp → VK → Prop} {x a : Str} {g c P : Addr} {k : Nat} {st : Stmt} {fd : FuncData} {Ng : List Str} {params : Arguments} {body : Expr} {scope : Scope} {t : XK → TE} {p lpos pos : Pos}
    (hg : Gl X x) (hm : X.mg x = some (.ref g)) (F : L2.Fun X.K x x st g fd) (hb : L2.Binds X.K fd [a] []) (Sg : FnScope Ng [a] (defScope st)) (hNg : Ng[0]? = some a) (hva : Vis (defScope st) a) (hG : ∀ cdv, GivesS X Ng x (defScope st) g cdv (defBody st) a (X.env.qual ++ "<lambda>") TT)
    (TB : TabB X.base X.mg c P) (hcode : X.env.code = .ref c) (hmT : (P, X.env.qual ++ "<lambda>") ∈ T) (hu : ∀ p ∈ T, p.1 = P → p.2 = X.env.qual ++ "<lambda>") (hr : Room (k + 2) X.A) (L : LamS X.env.scope scope) (hdef : defaultsOf params X.env = ([], []))
    (hbind : ∀ (q : Str) (cl : List (Str × Addr)) (pm cv ctv : Value), bindArgs (PySem.W.kla_fn "<lambda>" q params body scope cl pm cv ctv) ⟨[], []⟩ = pure []) (hbody : ∀ (A : Around) (outer : List Env) (s : Shared) (H : Hp) (E : XK) (f c' : Addr), Room k (A.deeper (lamEnv X scope s.heap.objs.size f c')) → PE (lamCx X A outer s H E scope f c') body (t E))
    (hdb : (x == ("__debug__" : Str)) = false := by decide) (hd : (a == ("__debug__" : Str)) = false := by decide) (hcd : (a == ("__classdict__" : Str)) = false := by decide) : PE X (.Call (.Name x p) [.Lambda params body scope lpos] [] pos) (tLam T TT t) := by
  obtain ⟨oc, od, kV, doc, pm, an, cdv, ct, osl, rfl, lk, hcg⟩ := F.ex
  refine ⟨fun pins s σ H Q I ⟨hT, h⟩ => wpAny_Call_Name_kw (ld_glob I hg hm (PySem.W.callWith_K (h₀ := X.base) I.ok.mod.kin F.kp ?_ (by rfl) (by rfl)) hdb)⟩
  show wpAny _ _ (spliced ((false, eval (.Lambda params body scope lpos) X.env) :: backTo pos (starEach [] X.env))) _ _ s
  refine Calls.spliced_cons (lam_make2 I TB hcode hmT hu hT hdef (L.has I.ok) fun f c' pm' ctv H1 s' I1 eN T1 hf hfn hfr hco => Calls.spliced_nil ⟨I1.kIn, wpAny_call (codeAny_mono (R := CR C8.CX0 X.stack X.prog X.w H1 s' Q C8.E0) ?_ fun r s2 hq => ?_)⟩)
  · refine run_ofS (N := Ng) (ps := [a]) (us := [.ref f]) (vs := [.ref f]) lk hcg Sg hr I1.env0 (hb s' [.ref f] I1.kIn rfl) (.cons rfl .nil) rfl fun hr' => ?_
    obtain ⟨t', ht', hq'⟩ := hG cdv f c' s' H1 Q (fun E G Q' => t E σ G Q') (fun W pn xe p1 p2 tk => pe_actS (i := 0) I1 L hf hfn hfr (hbind _ _ _ _ _) tk hr' (fun A outer s H E room => hbody A outer s H E f c' room) hNg hva hd hcd) hco (h H1 eN T1)
    exact ⟨t', ht'.nox, hq'⟩
  · match r, hq with
    | .error e, hq => exact (show False from hq).elim
    | .ok (.ret u), hq => exact I1.after hq
    | .ok .next, hq => exact False.elim hq
    | .ok .brk, hq => exact False.elim hq
    | .ok .cont, hq => exact False.elim hq
end Gk
/-! A lambda of one parameter, handed to a def that calls it; nothing is raised. -/
namespace Gk
open PySem PySem.Spec PyProof.Rows L2 LamX
/-- one parameter; else captured names and globals -/
structure LamP (sc lam : Scope) (p : Str) : Prop where
  kind : lam.kind = .function
  co : lam.isCoroutine = false
  gen : lam.isGenerator = false
  par : lam.names.lookup p = some .local
  loc : ∀ z ∈ lam.names, z.2 = .local → z.1 = p
  cel : ∀ z ∈ lam.names, z.2 ≠ .cell
  fre : ∀ z ∈ lam.names, z.2 = .free → sc.names.lookup z.1 = some .cell ∨ sc.names.lookup z.1 = some .free
def lamPB (sc lam : Scope) (p : Str) : Bool :=
  (decide (lam.kind = .function) && (!lam.isCoroutine && !lam.isGenerator)) && (decide (lam.names.lookup p = some .local) && lam.names.all fun z => (!decide (z.2 = .local) || decide (z.1 = p)) && (!decide (z.2 = .cell) && (!decide (z.2 = .free) || (decide (sc.names.lookup z.1 = some .cell) || decide (sc.names.lookup z.1 = some .free)))))
theorem lamP_by {sc lam : Scope} {p : Str} (h : lamPB sc lam p = true) : LamP sc lam p := by
  unfold lamPB at h
  rw [Bool.and_eq_true, Bool.and_eq_true, Bool.and_eq_true, Bool.and_eq_true, List.all_eq_true] at h
  obtain ⟨⟨a1, a2, a3⟩, a4, a5⟩ := h
  refine ⟨of_decide_eq_true a1, by simpa using a2, by simpa using a3, of_decide_eq_true a4, fun z hz e => ?_, fun z hz e => ?_, fun z hz e => ?_⟩
  · have q := a5 z hz
    simp only [Bool.and_eq_true, Bool.or_eq_true, Bool.not_eq_true', decide_eq_true_eq, decide_eq_false_iff_not] at q
    exact q.1.resolve_left fun n => n e
  · have q := a5 z hz
    simp only [Bool.and_eq_true, Bool.or_eq_true, Bool.not_eq_true', decide_eq_true_eq, decide_eq_false_iff_not] at q
    exact q.2.1 e
  · have q := a5 z hz
    simp only [Bool.and_eq_true, Bool.or_eq_true, Bool.not_eq_true', decide_eq_true_eq, decide_eq_false_iff_not] at q
    exact q.2.2.resolve_left fun n => n e
theorem LamP.has {X : Cx} {lam : Scope} {p : Str} (L : LamP X.env.scope lam p) (ok : X.Ok) (z : Str × NameKind) (hz : z ∈ lam.names) (e : z.2 = .free) : ∃ c, X.env.cells.lookup z.1 = some c := ok.has _ (L.fre z hz e)
/-- the context of the body: the caller's names and the parameter -/
def lamCx1 (X : Cx) (A : Around) (outer : List Env) (s : Shared) (H : Hp) (lam : Scope) (f c' : Addr) (p : Str) : Cx := { lamCx X A outer s H L2.E0 lam f c' with N := X.N ++ [p] }
section
variable {X : Cx} {pins : List (Addr × Obj)} {σ : L2.St} {H G : Hp} {s t : Shared}
theorem lam_start1 {A : Around} {outer : List Env} {lam : Scope} {f c' : Addr} {p : Str} {v : V} {u : Value} {hp : Heap} {tk : Nat} (I : Inv X pins σ H s) (L : LamP X.env.scope lam p) (np : p ∉ X.N) (env0 : Env0 X.prog X.w X.K X.mg X.base A outer t G) (calm : A.handled = none)
    (un : Un (frs X.stack) [] H G s.heap t.heap) (ru : RelV v u) (hns : hp.Ns t.heap.objs.size fun y => ([(p, u)] : List (Str × Value)).reverse.lookup y) (more : ∀ b o, t.heap.get? b = some o → hp.get? b = some o) :
    Inv (lamCx1 X A outer t G lam f c' p) [] (σ ++ [some v]) G { t with heap := hp, toks := tk } := by
  have fromX : ∀ {y c}, (cloFrom X.env.cells lam.names []).lookup y = some c → X.env.cells.lookup y = some c := fun {y c} e => by
    rcases cloFrom_mem (PySem.mem_of_lookup e) with z | ⟨z1, z2⟩
    · cases z
    · obtain ⟨c0, e0⟩ := L.has I.ok _ z1 rfl
      have e0 : X.env.cells.lookup y = some c0 := e0
      have same : c = c0 := by rw [z2, e0] <;> rfl
      rw [same, e0]
  have inClo : ∀ {y}, lam.names.lookup y = some .free → ∃ c, (cloFrom X.env.cells lam.names []).lookup y = some c := fun {y} e => mem_lookup (cloFrom_has (cells := X.env.cells) (acc := []) (PySem.mem_of_lookup e))
  have isCell : ∀ {c : Addr} {r : Option Value}, H c = none → s.heap.IsCell c r → hp.IsCell c r := fun {c r} no ⟨o, e1, e2⟩ => by
    obtain ⟨sl, q⟩ := un.any e1 no (by simp)
    exact ⟨_, more _ _ q, e2⟩
  have noEx : ∀ b : Addr, b ∉ (lamCx1 X A outer t G lam f c' p).ex := fun b z => absurd (show b ∈ ([] : List Addr) from z) (by simp)
  have noCell : ∀ {y}, lam.names.lookup y ≠ some .cell := fun {y} e => L.cel _ (PySem.mem_of_lookup e) rfl
  refine { ok := { mod := env0.mod, kind := L.kind, glob := rfl, blt := rfl, above := Nat.le_refl _, inj := fun y z c e1 e2 => I.ok.inj y z c (fromX e1) (fromX e2), has := fun y hy => ?_, cab := fun y c z _ => ?_, hd := fun _ => calm, frames := Around.frames_deeper env0.frames, stk := .inr ⟨rfl, rfl⟩, exf := fun b z => absurd z (noEx b), bs := env0.bs, bsz := env0.bsz, noex := fun b _ _ => noEx b, exfs := fun b z => absurd z (noEx b), funs := env0.funs, frf := env0.frf }, os := rfl, bare := env0.bare, base := Un.kept more, loc := ⟨_, hns, fun i y v1 e1 e2 e3 => ?_⟩, cell := fun y c e => ?_, free := env0.hok.fresh (Nat.le_refl _), freeC := fun y c e => ?_, pin := fun q hq => absurd (show q ∈ ([] : List (Addr × Obj)) ++ [] from hq) (by simp), hok := env0.hok.kept more, len := ?_ }
  · have hy : lam.names.lookup y = some .cell ∨ lam.names.lookup y = some .free := hy
    exact hy.elim (fun k => absurd k noCell) inClo
  · have z : false = true := z
    cases z
  · have e1 : (X.N ++ [p])[i]? = some y := e1
    have e3 : Vis lam y := e3
    by_cases hi : i < X.N.length
    · rw [List.getElem?_append_left hi] at e1
      rw [List.getElem?_append_left (by rw [I.len]; exact hi)] at e2
      rcases e3 with k | k | k
      · exact absurd (by rw [← L.loc _ (PySem.mem_of_lookup k) rfl]; exact List.mem_of_getElem? e1) np
      · exact absurd k noCell
      · obtain ⟨m, _, hl⟩ := I.loc
        have two := L.fre _ (PySem.mem_of_lookup k) rfl
        obtain ⟨w', r, q⟩ := hl i y v1 e1 e2 (two.elim (fun k => .inr (.inl k)) fun k => .inr (.inr k))
        obtain ⟨c2, h2⟩ := inClo k
        refine ⟨w', r, .inr ⟨.inr k, c2, h2, ?_⟩⟩
        rcases q with ⟨kl, _⟩ | ⟨_, c3, g1, g2⟩
        · have kl : X.env.scope.names.lookup y = some .local := kl
          rcases two with k2 | k2 <;> rw [show X.env.scope.names.lookup y = _ from k2] at kl <;> cases kl
        · rw [fromX h2] at g1
          cases g1
          exact isCell (I.freeC y _ (fromX h2)) g2
    · have hi2 : i = X.N.length := by
        have := (List.getElem?_eq_some_iff.mp e1).1
        rw [List.length_append, List.length_singleton] at this
        omega
      subst hi2
      rw [List.getElem?_append_right (Nat.le_refl _), Nat.sub_self] at e1
      rw [← I.len, List.getElem?_append_right (Nat.le_refl _), Nat.sub_self] at e2
      obtain rfl : p = y := Option.some.inj e1
      obtain rfl : v = v1 := Option.some.inj (Option.some.inj e2)
      refine ⟨u, ru, .inl ⟨L.par, ?_⟩⟩
      show ([(p, u)] : List (Str × Value)).lookup p = some u
      rw [List.lookup_cons, beq_self_eq_true]
  · obtain ⟨w', z⟩ := I.cell y c (fromX e)
    exact ⟨w', isCell (I.freeC y c (fromX e)) z⟩
  · obtain ⟨r, o, g1, g2⟩ := I.cell y c (fromX e)
    exact un.free c o g1 (I.freeC y c (fromX e)) (by simp)
  · show (σ ++ [some v]).length = (X.N ++ [p]).length
    rw [List.length_append, List.length_append, I.len]
    rfl
/-- the callee's context -/
abbrev calleeCx (X : Cx) (s : Shared) (H : Hp) (Ng : List Str) (qg : Str) (sg : Scope) (g : Addr) (cdg : Value) : Cx := (cxOf C8.CX0 X.prog X.w X.K X.mg X.base Ng qg sg g cdg X.A X.stack s H C8.E0).nox
/-- x(e), x the lambda -/
theorem pe_act1 {Ng : List Str} {qg : Str} {sg : Scope} {g f c' : Addr} {cdg pm ctv : Value} {params : Arguments} {body : Expr} {lam : Scope} {p : Str} {k i : Nat} {a : Str} {tb : TE} {ta : TA} {e : Expr} {p1 p2 : Pos}
    (I : Inv X pins σ H s) (L : LamP X.env.scope lam p) (np : p ∉ X.N) (there : s.heap.get? f = some (PySem.W.kla_obj "<lambda>" (X.env.qual ++ "<lambda>") params body lam (cloFrom X.env.cells lam.names []) pm c' ctv)) (mine : H f = none) (noFr : f ∉ frs X.stack)
    (oneArg : ∀ u, bindArgs (PySem.W.kla_fn "<lambda>" (X.env.qual ++ "<lambda>") params body lam (cloFrom X.env.cells lam.names []) pm (.ref c') ctv) ⟨[u], []⟩ = pure [(p, u)])
    (room : Room (k + 1) (X.A.deeper (envOfC qg sg s.heap.objs.size g cdg))) (inner : ∀ (A : Around) (outer : List Env) (s : Shared) (H : Hp), Room k (A.deeper (lamEnv X lam s.heap.objs.size f c')) → PE (lamCx1 X A outer s H lam f c' p) body tb)
    (at_ : Ng[i]? = some a) (vis : Vis sg a) (ha : PA (calleeCx X s H Ng qg sg g cdg) [e] ta) (hd : (a == ("__debug__" : Str)) = false := by decide) (hcd : (a == ("__classdict__" : Str)) = false := by decide)
    (he : starEach [e] (calleeCx X s H Ng qg sg g cdg).env = (false, eval e (calleeCx X s H Ng qg sg g cdg).env) :: starEach [] (calleeCx X s H Ng qg sg g cdg).env := by rfl) :
    PE (calleeCx X s H Ng qg sg g cdg) (.Call (.Name a p1) [e] [] p2) (fun τ G0 Q => τ[i]? = some (some (.ref f)) ∧ ta τ G0 fun vs G1 => ∃ v, vs = [v] ∧ G1 c' = some (CodeO c' (X.env.qual ++ "<lambda>")) ∧ tb (σ ++ [some v]) G1 Q) := by
  refine ⟨fun pinsG sG τ G0 Q J ⟨h1, h2⟩ => wpAny_Call_Name_kw (thn ((pe_var (pos := p1) (i := i) at_ vis hd hcd).run pinsG sG τ G0 (fun v G1 => v = .ref f ∧ G1 = G0) J ⟨.ref f, h1, rfl, rfl⟩) fun u s1 z => ?_)⟩
  obtain ⟨v, G1, J1, ru, rfl, rfl⟩ := z
  obtain rfl : u = Value.ref f := ru
  have stays : ∀ {pinsG τ G s1}, Inv (calleeCx X s H Ng qg sg g cdg) pinsG τ G s1 → s1.heap.get? f = some (PySem.W.kla_obj "<lambda>" (X.env.qual ++ "<lambda>") params body lam (cloFrom X.env.cells lam.names []) pm c' ctv) := fun J => J.base.keep f _ there mine noFr fun z => (nomatch (show f ∈ ([] : List Addr) from z))
  refine PySem.W.callWith_F (first := []) ⟨_, _, _, _, stays J1⟩ (thn (ha.run p2 pinsG s1 τ _ _ J1 h2) fun us s2 z => ?_) he rfl
  obtain ⟨vs, G2, J2, r, v, rfl, cd, hq⟩ := z
  refine ⟨⟨_, _, _, _, stays J2⟩, ?_⟩
  obtain ⟨u, rfl, ru⟩ := vals1 r
  have lamO := stays J2
  have un : Un (frs X.stack) [] H G2 s.heap s2.heap := J2.base
  obtain ⟨⟨oc, ws, tt, o1, o2, o3⟩, _, _⟩ := J2.hok c' _ cd
  have run : codeAny (model X.prog X.w) (X.A.deeper (envOfC qg sg s.heap.objs.size g cdg)) (.call (.ref f) ⟨[u], []⟩) (CR (L2.CX X.prog X.w) (envOfC qg sg s.heap.objs.size g cdg :: X.stack) X.prog X.w G2 s2 Q L2.E0) s2 := by
    refine PySem.W.kla_callFunE room.depth lamO rfl L.co L.gen rfl ⟨c', oc, ws, tt, rfl, o1, o2, o3⟩ ?_
    rw [oneArg u]
    refine wpAny_pure (wpAny_newFunctionEnv (fun y hy => L.cel y hy) (fun y hy => ?_) (fun h₁ hns hsb => ⟨J2.nolimit.fresh _ hsb, ?_⟩) L.kind)
    · obtain rfl := List.mem_singleton.mp hy
      exact L.par
    show codeAny _ _ (.expr body (lamEnv X lam s2.heap.objs.size f c')) _ _
    have start := lam_start1 (A := X.A.deeper (envOfC qg sg s.heap.objs.size g cdg)) (outer := envOfC qg sg s.heap.objs.size g cdg :: X.stack) (f := f) (c' := c') (tk := s2.toks + ([(p, u)] : List (Str × Value)).length) I L np J2.env0 room.hd un ru hns
      (fun b o e => hsb.extBut b o (Nat.ne_of_lt (Heap.lt_size e)) (Heap.get?_push_of_some _ e))
    refine PySem.W.kla_codeExpr (wpAny_mono ((inner _ _ s2 G2 (room.deeper _)).run [] _ _ G2 Q start hq) (fun v s' ⟨w', H', J', rv, q⟩ => ?_) fun e s' hq => hq)
    exact ⟨w', H', J'.os, J'.bare, J'.base, J'.hok, rv, q⟩
  have ps : Passes (L2.CX X.prog X.w) (calleeCx X s H Ng qg sg g cdg) L2.E0 := passes_call (W := fun _ _ _ _ => False) LamX.takes0 (fun _ _ _ _ h => h)
  show wpAny _ _ (call (.ref f) [u]) _ _ _
  refine wpAny_call (codeAny_mono run fun r s' hq => ?_)
  match r, hq with
  | .error e, hq => exact ps pinsG τ G2 s2 e s' J2 hq
  | .ok (.ret u), hq => exact J2.after hq
  | .ok .next, hq => exact False.elim hq
  | .ok .brk, hq => exact False.elim hq
  | .ok .cont, hq => exact False.elim hq
end
end Gk
/-! x(e, lambda p: ..), x a def that calls what it got with one value -/
namespace Gk
open PySem PySem.Spec PyProof.Rows L2 LamX
/-- what the callee does with a value and a thing that can be called: TT -/
def GivesP (X : Cx) (Ng : List Str) (x : Str) (sg : Scope) (g : Addr) (cdg : Value) (bg : List Stmt) (n : Nat) (a : Str) (q : Str) (TT : V → (V → Hp → VK → Prop) → Hp → VK → Prop) : Prop :=
  ∀ (f c' : Addr) (s : Shared) (H : Hp) (Q : VK) (v1 : V) (tl : V → Hp → VK → Prop), Room n (calleeCx X s H Ng x sg g cdg).A →
    (∀ (p1 p2 : Pos) (e : Expr) (ta : TA), PA (calleeCx X s H Ng x sg g cdg) [e] ta → starEach [e] (calleeCx X s H Ng x sg g cdg).env = (false, eval e (calleeCx X s H Ng x sg g cdg).env) :: starEach [] (calleeCx X s H Ng x sg g cdg).env →
      PE (calleeCx X s H Ng x sg g cdg) (.Call (.Name a p1) [e] [] p2) (fun τ G0 Q => τ[1]? = some (some (.ref f)) ∧ ta τ G0 fun vs G1 => ∃ v, vs = [v] ∧ G1 c' = some (CodeO c' q) ∧ tl v G1 Q)) →
    H c' = some (CodeO c' q) → TT v1 tl H Q → ∃ t, PSs (calleeCx X s H Ng x sg g cdg) bg t ∧ t { nx := fun _ H' => Q .non H', rt := Q } (L2.start Ng [v1, .ref f]) H
def tLam1 (T : List (Addr × Str)) (TT : V → (V → Hp → VK → Prop) → Hp → VK → Prop) (t1 : TE) (tb : TE) : TE := fun σ H Q => t1 σ H fun v1 H0 => Tabs T H0 ∧ ∀ H1, ExtN H0 H1 → Tabs T H1 → TT v1 (fun v G Q' => tb (σ ++ [some v]) G Q') H1 Q
theorem pe_lamcall1 {X : Cx} {T : List (Addr × Str)} {TT : V → (V → Hp → VK → Prop) → Hp → VK → Prop} {x a0 a pr : Str} {g c P : Addr} {k : Nat} {st : Stmt} {fd : FuncData} {Ng : List Str} {params : Arguments} {body e1 : Expr} {lam : Scope} {t1 tb : TE} {p lpos pos : Pos}
    (hg : Gl X x) (hm : X.mg x = some (.ref g)) (F : L2.Fun X.K x x st g fd) (hb : L2.Binds X.K fd [a0, a] []) (Sg : FnScope Ng [a0, a] (defScope st)) (at_ : Ng[1]? = some a) (vis : Vis (defScope st) a) (hG : ∀ cdv, GivesP X Ng x (defScope st) g cdv (defBody st) (k + 1) a (X.env.qual ++ "<lambda>") TT)
    (h1 : PE X e1 t1) (TB : TabB X.base X.mg c P) (hcode : X.env.code = .ref c) (inT : (P, X.env.qual ++ "<lambda>") ∈ T) (one : ∀ p ∈ T, p.1 = P → p.2 = X.env.qual ++ "<lambda>") (room : Room (k + 2) X.A) (L : LamP X.env.scope lam pr) (np : pr ∉ X.N) (hdef : defaultsOf params X.env = ([], []))
    (oneArg : ∀ (q : Str) (cl : List (Str × Addr)) (pm cv ctv u : Value), bindArgs (PySem.W.kla_fn "<lambda>" q params body lam cl pm cv ctv) ⟨[u], []⟩ = pure [(pr, u)]) (inner : ∀ (A : Around) (outer : List Env) (s : Shared) (H : Hp) (f c' : Addr), Room k (A.deeper (lamEnv X lam s.heap.objs.size f c')) → PE (lamCx1 X A outer s H lam f c' pr) body tb)
    (he : starEach [e1, .Lambda params body lam lpos] X.env = (false, eval e1 X.env) :: starEach [.Lambda params body lam lpos] X.env := by rfl)
    (hdb : (x == ("__debug__" : Str)) = false := by decide) (hd : (a == ("__debug__" : Str)) = false := by decide) (hcd : (a == ("__classdict__" : Str)) = false := by decide) : PE X (.Call (.Name x p) [e1, .Lambda params body lam lpos] [] pos) (tLam1 T TT t1 tb) := by
  obtain ⟨oc, od, kV, doc, pm, an, cdv, ct, osl, rfl, lk, hcg⟩ := F.ex
  refine ⟨fun pins s σ H Q I h => wpAny_Call_Name_kw (ld_glob I hg hm (PySem.W.callWith_K (h₀ := X.base) I.ok.mod.kin F.kp ?_ he (by rfl)) hdb)⟩
  rw [he]
  show wpAny _ _ (spliced ((false, eval e1 X.env) :: backTo pos (starEach [.Lambda params body lam lpos] X.env))) _ _ s
  refine Calls.spliced_cons (thn (h1.run pins s σ H _ I h) fun u1 s0 ⟨v1, H0, I0, r1, hT, q⟩ => ?_)
  show wpAny _ _ (spliced ((false, eval (.Lambda params body lam lpos) X.env) :: backTo pos (starEach [] X.env))) _ _ s0
  have frees : ∀ z ∈ lam.names, z.2 = .free → ∃ c, X.env.cells.lookup z.1 = some c := fun z hz e => L.has I0.ok z hz e
  refine Calls.spliced_cons (lam_make2 I0 TB hcode inT one hT hdef frees fun f c' pm' ctv H1 s' I1 eN T1 hf hfn hfr hco => Calls.spliced_nil ⟨I1.kIn, wpAny_call (codeAny_mono (R := CR C8.CX0 X.stack X.prog X.w H1 s' Q C8.E0) ?_ fun r s2 hq => ?_)⟩)
  · refine run_ofS (N := Ng) (ps := [a0, a]) (us := [u1, .ref f]) (vs := [v1, .ref f]) lk hcg Sg room I1.env0 (hb s' [u1, .ref f] I1.kIn rfl) (.cons r1 (.cons rfl .nil)) rfl fun hr' => ?_
    obtain ⟨t', ht', hq'⟩ := hG cdv f c' s' H1 Q v1 (fun v G Q' => tb (σ ++ [some v]) G Q') hr' (fun p1 p2 e ta ha hse => pe_act1 (i := 1) I1 L np hf hfn hfr (fun u => oneArg _ _ _ _ _ u) hr' (fun A outer s H room => inner A outer s H f c' room) at_ vis ha hd hcd hse) hco (q H1 eN T1)
    exact ⟨t', ht'.nox, hq'⟩
  · match r, hq with
    | .error e, hq => exact (show False from hq).elim
    | .ok (.ret u), hq => exact I1.after hq
    | .ok .next, hq => exact False.elim hq
    | .ok .brk, hq => exact False.elim hq
    | .ok .cont, hq => exact False.elim hq
end Gk
/-! names alone: a generator def f(k = v, ..), a method o.m(k = v, ..), an instance o(k = v, ..), a lambda by name -/
namespace Gk
open PySem PySem.Spec PyProof.Rows L2 LamX GenW
section
variable {X : Cx} {CX : CXT} {k : Nat} {f C : Addr} {fd : FuncData} {ps ks : List Str} {x m : Str} {p p2 pos pos2 apos np : Pos} {o : Expr} {kws : List Keyword} {ta tf : TE} {tk : TA} {g : List Value → List Value → List Value} {gV : List V → List V → List V} {E : XK}
/-! ### generator defs -/
theorem run_gfnK {pins : List (Addr × Obj)} {σ : L2.St} {H : Hp} {s : Shared} {ws : List Value} {zs : List V} {sp : SpG} {cont : List V → Hp → Prop} {E1 : Value → Shared → Prop} (F : GFn X.prog X.w X.K X.mg X.base k f fd ps sp) (hr : Room k X.A) (hb : KBn X.K fd ps 0 ks g gV)
    (I : Inv X pins σ H s) (rz : Vals zs ws) (l2 : zs.length = ks.length) (h : sp (gV [] zs) H cont E) :
    wpAny (model X.prog X.w) X.A (call (.ref f) [] (ks.zip ws)) (fun u s' => ∃ H1 sc ex, Inv X pins σ H1 sc ∧ ExOk X pins ex ∧ GMade X.prog X.w k X.stack H1 sc ex cont E u s') E1 s := by
  have r2 : Vals (gV [] zs) (g [] ws) := hb.rel .nil rz
  refine wpAny_call (codeAny_mono (F.run X.A X.stack s H ⟨[], ks.zip ws⟩ (g [] ws) (gV [] zs) cont E hr I.env0 (hb.to s [] ws I.kIn rfl (rz.length.symm.trans l2)) r2 h) fun r s' hq => ?_)
  cases r with
  | error e => exact False.elim hq
  | ok fl =>
    cases fl with
    | ret u => exact ⟨H, s, [], I, .nil, hq⟩
    | next => exact False.elim hq
    | brk => exact False.elim hq
    | cont => exact False.elim hq
structure DgK (P : Program) (w : World) (K : PySem.W.Frag) (mg : Str → Option Value) (base : Heap) (k : Nat) (x : Str) (ps ks : List Str) (gV : List V → List V) (sp : SpG) : Prop where
  ex : ∃ (f : Addr) (fd : FuncData) (g : List Value → List Value → List Value), GFn P w K mg base k f fd ps sp ∧ mg x = some (.ref f) ∧ PySem.W.keepIn K (.ref f) = true ∧ KBn K fd ps 0 ks g (fun _ zs => gV zs)
def tKwG (n : Nat) (gV : List V → List V) (sp : SpG) (E : XK) (tk : TA) : TGen := fun σ H cont => tk σ H fun zs H1 => zs.length = n ∧ sp (gV zs) H1 cont E
theorem pe_listK {sp : SpG} {gV : List V → List V} {j : Nat} (D : DgK X.prog X.w X.K X.mg X.base k x ps ks gV sp) (hr : Room j X.A) (hj : k + 3 ≤ j) (hx : Gl X x) (hg : Gl X "list") (hml : X.mg "list" = none) (hkw : PK X kws tk)
    (hall : (backToKw pos (keywordEach kws X.env)).all (·.1.isSome) = true := by rfl) (hks : (backToKw pos (keywordEach kws X.env)).filterMap (·.1) = ks := by rfl) (hdb : (x == ("__debug__" : Str)) = false := by decide)
    (hpl : ((backTo pos (starEach [] X.env)).any (·.1) || (backToKw pos (keywordEach kws X.env)).any (·.1.isNone)) = false := by rfl)
    (he2 : starEach [.Call (.Name x p) [] kws pos] X.env = (false, eval (.Call (.Name x p) [] kws pos) X.env) :: starEach [] X.env := by rfl) :
    PE X (.Call (.Name "list" p2) [.Call (.Name x p) [] kws pos] [] pos2) (tListG (tKwG ks.length gV sp L2.E0 tk)) := by
  obtain ⟨f, fd, g, F, hm, hk, hb⟩ := D.ex
  have gen : PGen X k (.Call (.Name x p) [] kws pos) (tKwG ks.length gV sp L2.E0 tk) L2.E0 := by
    refine ⟨fun pins s σ H cont I h => ?_⟩
    refine wpAny_Call_Name_kw (ld_glob I hx hm ?_ hdb)
    refine PySem.W.callWith_KW0 (h₀ := X.base) I.ok.mod.kin hk hall (thn (hkw.run pos pins s σ H _ I h) fun ws s2 ⟨zs, H2, I2, rz, l2, q2⟩ => ⟨I2.kIn, ?_⟩) hpl
    rw [hks]
    exact run_gfnK F (hr.mono (by omega)) hb I2 rz l2 q2
  exact pe_listG gen passes_none (fun _ _ _ z => z.elim) (hr.mono hj) hg hml (by rfl) (by decide) (by decide) he2
/-! ### methods -/
def tMethK (C : Addr) (m : Str) (n : Nat) (sp : Sp) (gV : List V → List V → List V) (E : XK) (ta : TE) (tk : TA) : TE := fun σ H Q => ta σ H fun x H1 => ∃ a dx fs, x = .ref a ∧ H1 a = some (.ins C dx fs) ∧ fs.lookup m = none ∧ tk σ H1 fun zs H2 => zs.length = n ∧ sp (gV [x] zs) H2 Q E
theorem pe_methK {pl : Sem Bool} {sp : Sp} (he : PE X o ta) (c : Cls X.K C) (hm : Meth X.K C m f) (F : FnOk X.prog X.w X.K X.mg X.base CX k f fd ps sp) (hr : Room k X.A) (hb : KBn X.K fd ps 1 ks g gV) (hx : Passes CX X E) (hkw : PK X kws tk)
    (hall : (backToKw pos (keywordEach kws X.env)).all (·.1.isSome) = true := by rfl) (hks : (backToKw pos (keywordEach kws X.env)).filterMap (·.1) = ks := by rfl)
    (hpl : ((backTo pos (starEach [] X.env)).any (·.1) || (backToKw pos (keywordEach kws X.env)).any (·.1.isNone)) = false := by rfl)
    (ht : eval (.Call (.Attribute o m apos) [] kws pos) X.env = (do
      let ov ← eval o X.env
      standAt apos.atName
      let (f, first) ← holding [ov] (getMethod ov m pl)
      callWith pos f first (backTo pos (starEach [] X.env)) (backToKw pos (keywordEach kws X.env))) := by rfl) :
    PE X (.Call (.Attribute o m apos) [] kws pos) (tMethK C m ks.length sp gV E ta tk) := by
  refine ⟨fun pins s σ H Q I h => ?_⟩
  refine PySem.W.methodCall_KW (pl := pl) (thn (he.run pins s σ H _ I h) fun u s1 ⟨x, H1, I1, rx, a, dx, fs, ex, ea, l, q⟩ => ?_) ht
  subst ex
  obtain rfl : u = Value.ref a := rx
  refine getmeth_ok I1 ea c hm l ?_
  refine PySem.W.callWith_KW0 (first := [.ref a]) (h₀ := X.base) I.ok.mod.kin hm.kp hall (thn (hkw.run pos pins s1 σ H1 _ I1 q) fun ws s2 ⟨zs, H2, I2, rz, l2, q2⟩ => ⟨I2.kIn, ?_⟩) hpl
  rw [hks]
  exact run_fnN (us := [.ref a]) (vs := [.ref a]) F hr hb hx I2 (.cons rfl .nil) rz rfl l2 q2
/-! ### instances -/
theorem callWith_keptK {M : Model} {A : Around} {E : Value → Shared → Prop} {s : Shared} {pos : Pos} {v : Value} {args : List (Bool × Sem Value)} {kws : List (Option Str × Sem Value)} {Q : Value → Shared → Prop} (hp : (args.any (·.1) || kws.any (·.1.isNone)) = false)
    (h : wpAny M A (evalArgs v true args kws) (fun a s₁ => PySem.W.Looks M s₁.heap (keeperOf v) .caller ∧ wpAny M A (call v a.pos a.kw) Q E s₁) E s) : wpAny M A (callWith pos v [] args kws) Q E s := by
  unfold callWith
  refine wpAny_bind (wpAny_holding (wpAny_mono h (fun a s₁ ⟨L, h₁⟩ => wpAny_bind (wpAny_standAt ?_)) fun _ _ z => z))
  simp only [hp]
  refine wpAny_bind (L.here (wpAny_bind (wpAny_mono (wpAny_operateT h₁) (fun r s₂ hr => wpAny_bind (wpAny_holding (wpAny_point (wpAny_pure hr)))) fun _ _ z => z)))
theorem run_belowK {A : Around} {pins : List (Addr × Obj)} {σ : L2.St} {H : Hp} {s : Shared} {Q : VK} {us ws : List Value} {vs zs : List V} {n : Nat} {sp : Sp} (sb : L2.Sub X k A) (I : Inv X pins σ H s) (F : FnOk X.prog X.w X.K X.mg X.base CX k f fd ps sp) (hb : KBn X.K fd ps n ks g gV) (hx : Passes CX X E)
    (r : Vals vs us) (rz : Vals zs ws) (l1 : vs.length = n) (l2 : zs.length = ks.length) (h : sp (gV vs zs) H Q E) : codeAny (model X.prog X.w) A (.call (.ref f) ⟨us, ks.zip ws⟩) (fun r s' => match r with | .ok (.ret v) => EP X pins σ Q v s' | .ok _ => False | .error e => X.xe e s') s := by
  have e0 : Env0 X.prog X.w X.K X.mg X.base A X.stack s H := by
    have e := I.env0
    exact ⟨by rw [sb.fr]; exact e.frames, e.mod, e.bs, e.bsz, e.funs, e.frf, e.hok, e.bare⟩
  refine codeAny_mono (F.run A X.stack s H ⟨us, ks.zip ws⟩ (g us ws) (gV vs zs) _ E sb.room e0 (hb.to s us ws I.kIn (r.length.symm.trans l1) (rz.length.symm.trans l2)) (hb.rel r rz) h) fun rr s' hq => ?_
  cases rr with
  | error e => exact hx pins σ H s e s' I hq
  | ok fl =>
    cases fl with
    | ret w => exact I.after hq
    | next => exact False.elim hq
    | brk => exact False.elim hq
    | cont => exact False.elim hq
def tCallOwnK (C : Addr) (n : Nat) (sp : Sp) (gV : List V → List V → List V) (E : XK) (tf : TE) (tk : TA) : TE := fun σ H Q => tf σ H fun c H1 => ∃ a, c = .ref a ∧ (∃ dx fs, H1 a = some (.ins C dx fs)) ∧ tk σ H1 fun zs H2 => (∃ dx fs, H2 a = some (.ins C dx fs)) ∧ zs.length = n ∧ sp (gV [.ref a] zs) H2 Q E
theorem pe_callOwnK {sp : Sp} (hs : PySem.W.findIn X.K (.ref C) "__call__" = some (some (.ref f))) (hfn : PySem.W.fnIn X.K f = true) (hf : PySem.W.isFn X.K (.ref f) = true) (F : FnOk X.prog X.w X.K X.mg X.base CX k f fd ps sp) (hr : Room k X.A) (hb : KBn X.K fd ps 1 ks g gV) (hx : Passes CX X E)
    (hc : PE X (.Name x np) tf) (hkw : PK X kws tk) (hall : (backToKw pos (keywordEach kws X.env)).all (·.1.isSome) = true := by rfl) (hks : (backToKw pos (keywordEach kws X.env)).filterMap (·.1) = ks := by rfl)
    (hpl : ((backTo pos (starEach [] X.env)).any (·.1) || (backToKw pos (keywordEach kws X.env)).any (·.1.isNone)) = false := by rfl) : PE X (.Call (.Name x np) [] kws pos) (tCallOwnK C ks.length sp gV E tf tk) := by
  refine ⟨fun pins s σ H Q I h => ?_⟩
  refine wpAny_Call_Name_kw (thn (hc.run pins s σ H _ I h) fun u s1 ⟨c, H1, I1, rc, a, ec, ⟨dx, fs, hi⟩, q1⟩ => ?_)
  subst ec
  obtain rfl : u = Value.ref a := rc
  refine callWith_keptK hpl (evalArgs_kw2_nil hall (thn (hkw.run pos pins s1 σ H1 _ I1 q1) fun ws s2 ⟨zs, H2, I2, rz, ⟨dx2, fs2, hi2⟩, l2, q⟩ => ?_))
  obtain ⟨ox2, od2, J2, hd2⟩ := inst_at I2 hi2
  rw [hks]
  refine ⟨PySem.W.kco_keeper J2 hd2, wpAny_call (PySem.W.kco_code I2.kIn J2 hd2 hs hf hfn (codeAny_mono (run_belowK ⟨hr, rfl⟩ I2 F hb hx (.cons (show RelV (.ref a) (.ref a) from rfl) .nil) rz rfl l2 q) fun rr s' hq => ?_))⟩
  cases rr with
  | error e => exact hq
  | ok fl => cases fl <;> exact hq
end
/-! ### a lambda by name -/
theorem var_at {X : Cx} {pins : List (Addr × Obj)} {σ : L2.St} {H : Hp} {s : Shared} {i : Nat} {x : Str} {pos : Pos} {v : V} {E : Value → Shared → Prop} {Q : Value → Shared → Prop} (I : Inv X pins σ H s) (hN : X.N[i]? = some x) (hv : Vis X.env.scope x) (e : σ[i]? = some (some v)) (h : ∀ u, RelV v u → Q u s)
    (hd : (x == ("__debug__" : Str)) = false := by decide) (hcd : (x == ("__classdict__" : Str)) = false := by decide) : wpAny (model X.prog X.w) X.A (eval (.Name x pos) X.env) Q E s := by
  obtain ⟨m, hn, hl⟩ := I.loc
  obtain ⟨u, r, l⟩ := hl i x v hN e hv
  have fin := h u r
  rcases l with ⟨hk, hm⟩ | ⟨hk, c, hc, hcell⟩
  · exact wpAny_Name (wpAny_loadName_local I.ok.kind hk hn hm fin) hd
  · rcases hk with hk | hk
    · exact wpAny_Name (wpAny_loadName_cell I.ok.kind hk hc hcell fin) hd
    · exact wpAny_Name (wpAny_loadName_free I.ok.kind hk hc hcell fin hcd) hd
def tLamK (T : List (Addr × Str)) (TT : V → (V → Hp → VK → Prop) → Hp → VK → Prop) (i : Nat) (tb : TE) : TE := fun σ H Q => Tabs T H ∧ ∃ v1, σ[i]? = some (some v1) ∧ ∀ H1, ExtN H H1 → Tabs T H1 → TT v1 (fun v G Q' => tb (σ ++ [some v]) G Q') H1 Q
theorem pe_lamcallK {X : Cx} {T : List (Addr × Str)} {TT : V → (V → Hp → VK → Prop) → Hp → VK → Prop} {x a0 a pr y : Str} {g c P : Addr} {k i : Nat} {st : Stmt} {fd : FuncData} {Ng : List Str} {params : Arguments} {body : Expr} {lam : Scope} {tb : TE} {p lpos pos kp1 kp2 yp : Pos}
    (hg : Gl X x) (hm : X.mg x = some (.ref g)) (F : L2.Fun X.K x x st g fd) (hb : ∀ (s : Shared) (u1 u2 : Value), BindsTo s fd ⟨[], [(a, u2), (a0, u1)]⟩ ([a0, a].zip [u1, u2])) (Sg : FnScope Ng [a0, a] (defScope st)) (at_ : Ng[1]? = some a) (vis : Vis (defScope st) a) (hG : ∀ cdv, GivesP X Ng x (defScope st) g cdv (defBody st) (k + 1) a (X.env.qual ++ "<lambda>") TT)
    (hN : X.N[i]? = some y) (hv : Vis X.env.scope y) (TB : TabB X.base X.mg c P) (hcode : X.env.code = .ref c) (inT : (P, X.env.qual ++ "<lambda>") ∈ T) (one : ∀ p ∈ T, p.1 = P → p.2 = X.env.qual ++ "<lambda>") (room : Room (k + 2) X.A) (L : LamP X.env.scope lam pr) (np : pr ∉ X.N) (hdef : defaultsOf params X.env = ([], []))
    (oneArg : ∀ (q : Str) (cl : List (Str × Addr)) (pm cv ctv u : Value), bindArgs (PySem.W.kla_fn "<lambda>" q params body lam cl pm cv ctv) ⟨[u], []⟩ = pure [(pr, u)]) (inner : ∀ (A : Around) (outer : List Env) (s : Shared) (H : Hp) (f c' : Addr), Room k (A.deeper (lamEnv X lam s.heap.objs.size f c')) → PE (lamCx1 X A outer s H lam f c' pr) body tb)
    (hall : (backToKw pos (keywordEach [⟨some a, .Lambda params body lam lpos, kp1⟩, ⟨some a0, .Name y yp, kp2⟩] X.env)).all (·.1.isSome) = true := by rfl)
    (hpl : ((backTo pos (starEach [] X.env)).any (·.1) || (backToKw pos (keywordEach [⟨some a, .Lambda params body lam lpos, kp1⟩, ⟨some a0, .Name y yp, kp2⟩] X.env)).any (·.1.isNone)) = false := by rfl)
    (hdb : (x == ("__debug__" : Str)) = false := by decide) (hd : (a == ("__debug__" : Str)) = false := by decide) (hcd : (a == ("__classdict__" : Str)) = false := by decide) (hdy : (y == ("__debug__" : Str)) = false := by decide) (hcy : (y == ("__classdict__" : Str)) = false := by decide) :
    PE X (.Call (.Name x p) [] [⟨some a, .Lambda params body lam lpos, kp1⟩, ⟨some a0, .Name y yp, kp2⟩] pos) (tLamK T TT i tb) := by
  obtain ⟨oc, od, kV, doc, pm, an, cdv, ct, osl, rfl, lk, hcg⟩ := F.ex
  refine ⟨fun pins s σ H Q I ⟨hT, v1, e1, q⟩ => wpAny_Call_Name_kw (ld_glob I hg hm (PySem.W.callWith_KW0 (h₀ := X.base) I.ok.mod.kin F.kp hall ?_ hpl) hdb)⟩
  show wpAny _ _ (evalAll ((do let v ← eval (.Lambda params body lam lpos) X.env; standAt pos; pure v) :: (do let v ← eval (.Name y yp) X.env; standAt pos; pure v) :: [])) _ _ s
  have frees : ∀ z ∈ lam.names, z.2 = .free → ∃ c, X.env.cells.lookup z.1 = some c := fun z hz e => L.has I.ok z hz e
  refine wpAny_evalAll_cons (wpAny_bind (lam_make2 I TB hcode inT one hT hdef frees fun f c' pm' ctv H1 s' I1 eN T1 hf hfn hfr hco => wpAny_bind (wpAny_standAt (wpAny_pure ?_))))
  refine wpAny_evalAll_cons (wpAny_bind (var_at I1 hN hv e1 (fun u1 r1 => wpAny_bind (wpAny_standAt (wpAny_pure (wpAny_evalAll_nil ?_)))) hdy hcy))
  refine ⟨I1.kIn, wpAny_call (codeAny_mono (R := CR C8.CX0 X.stack X.prog X.w H1 s' Q C8.E0) ?_ fun r s2 hq => ?_)⟩
  · refine run_ofS (N := Ng) (ps := [a0, a]) (us := [u1, .ref f]) (vs := [v1, .ref f]) lk hcg Sg room I1.env0 (hb s' u1 (.ref f)) (.cons r1 (.cons rfl .nil)) rfl fun hr' => ?_
    obtain ⟨t', ht', hq'⟩ := hG cdv f c' s' H1 Q v1 (fun v G Q' => tb (σ ++ [some v]) G Q') hr' (fun p1 p2 e ta ha hse => pe_act1 (i := 1) I1 L np hf hfn hfr (fun u => oneArg _ _ _ _ _ u) hr' (fun A outer s H room => inner A outer s H f c' room) at_ vis ha hd hcd hse) hco (q H1 eN T1)
    exact ⟨t', ht'.nox, hq'⟩
  · match r, hq with
    | .error e, hq => exact (show False from hq).elim
    | .ok (.ret u), hq => exact I1.after hq
    | .ok .next, hq => exact False.elim hq
    | .ok .brk, hq => exact False.elim hq
    | .ok .cont, hq => exact False.elim hq
end Gk
/-! o.m(e, ..): a method of an own class that may raise. -/
namespace Gk
open PySem PySem.Spec PyProof.Rows L2
section
variable {X : Cx} {k j : Nat} {f C : Addr} {fd : FuncData} {ps : List Str} {sp : Sp} {m : Str} {pos apos : Pos} {o e : Expr} {es : List Expr} {ta : TE} {t : TA}
def tMethS (C : Addr) (m : Str) (sp : Sp) (E : L2.St → XK) (ta : TE) (t : TA) : TE := fun σ H Q => ta σ H fun x H1 => ∃ a dx fs, x = .ref a ∧ H1 a = some (.ins C dx fs) ∧ fs.lookup m = none ∧ t σ H1 fun vs H2 => sp (.ref a :: vs) H2 Q (E σ)
theorem pe_methX {W : WX} {pl : Sem Bool} (he : PE X o ta) (c : Cls X.K C) (hm : Meth X.K C m f) (F : FnOk X.prog X.w X.K X.mg X.base (L2.CX X.prog X.w) k f fd ps sp) (tk : Takes X W) (hr : Room k X.A) (hb : Binds X.K fd ps []) (ha : PA X (e :: es) t)
    (h1 : starEach (e :: es) X.env = (false, eval e X.env) :: starEach es X.env := by rfl) (hpl : (backTo pos (starEach es X.env)).any (·.1) = false := by rfl)
    (ht : eval (.Call (.Attribute o m apos) (e :: es) [] pos) X.env = (do
      let ov ← eval o X.env
      standAt apos.atName
      let (f, first) ← holding [ov] (getMethod ov m pl)
      callWith pos f first (backTo pos (starEach (e :: es) X.env)) (backToKw pos (keywordEach [] X.env))) := by rfl) :
    PE X (.Call (.Attribute o m apos) (e :: es) [] pos) (tMethS C m sp (WE W) ta t) := by
  refine ⟨fun pins s σ H Q I h => ?_⟩
  refine PySem.W.methodCall_KW (pl := pl) (thn (he.run pins s σ H _ I h) fun u s1 ⟨x, H1, I1, rx, a, dx, fs, ex, ea, l, q⟩ => ?_) ht
  subst ex
  obtain rfl : u = Value.ref a := rx
  refine getmeth_ok I1 ea c hm l ?_
  refine PySem.W.callWith_K (first := [.ref a]) (h₀ := X.base) I.ok.mod.kin hm.kp (thn (ha.run pos pins s1 σ H1 _ I1 q) fun us s2 ⟨vs, H2, I2, r, q2⟩ => ⟨I2.kIn, ?_⟩) h1 hpl
  exact run_fnS (us := .ref a :: us) (vs := .ref a :: vs) F hr hb (passAt tk σ) I2 (.cons rfl r) q2
end
end Gk
/-! t.index(x), t a tuple of whole numbers. -/
namespace Gk
open PySem PySem.Spec PyProof.Rows L2
theorem flat_ints (ys : List Int) : (ys.map V.int).all flatV = true := by
  rw [List.all_map]
  exact List.all_eq_true.mpr fun _ _ => rfl
section
variable {X : Cx}
def rTupIndexI (K : PySem.W.Frag) : V → List V → Hp → VK → Prop := fun x xs H Q => ∃ (p : Addr) (ys : List Int) (z : Int) (j : Nat), x = .ref p ∧ xs = [.int z] ∧ SqT K H p (ys.map V.int) ∧ ys[j]? = some z ∧ (∀ m, m < j → ys[m]? ≠ some z) ∧ Q (.int (j : Nat)) H
theorem mt_tup_indexI : MtR X "tuple.index" (rTupIndexI X.K) := by
  intro pins s σ H x xs v us Q I rx rs h
  obtain ⟨p, ys, z, j, rfl, rfl, hq, hy, hno, q⟩ := h
  cases rx
  obtain ⟨u, rfl, t, rfl⟩ := vals1 rs
  obtain ⟨its, r, pl, hz⟩ := I.tuple hq
  obtain ⟨⟨cls, dd, dt, sl⟩, ho, hc, n, hd⟩ := pl
  simp only at hc hd
  subst hc
  subst hd
  have hl : its.toArray.size = ys.length := by rw [List.size_toArray, ← r.length, List.length_map]
  have hj : j < its.toArray.size := by rw [hl]; exact (List.getElem?_eq_some_iff.mp hy).1
  have at' : ∀ (m : Nat) (hm : m < its.toArray.size), ∃ y t', ys[m]? = some y ∧ its.toArray[m] = Value.int y t' := fun m hm => by
    have hm' : m < ys.length := by rw [← hl]; exact hm
    obtain ⟨w, hw, t', hw'⟩ := r.get (i := m) (x := .int ys[m]) (by simp [hm'])
    refine ⟨ys[m], t', List.getElem?_eq_getElem hm', ?_⟩
    have e := (List.getElem?_eq_some_iff.mp hw).2
    rw [← hw', ← e]
    simp
  refine call_meets PySem.F.slot_tuple_index ⟨_, ho, rfl⟩ PySem.F.entry_tuple_index (PySem.F.args_tuple_index_2 _ _) (TI.tuple_indexAt p its.toArray n dd sl (.int z t) (eqU (.int z)) j hj ?_ ?_)
    ⟨ho, fun w hw => mem_eqAt (x := .int z) ⟨t, rfl⟩ rfl r (flat_ints ys) w (by simpa using hw), ⟨.int (j : Nat), H, I.tok _, ⟨_, rfl⟩, q⟩⟩
  · obtain ⟨y, t', h1, h2⟩ := at' j hj
    rw [hy] at h1
    cases h1
    rw [h2]
    show (z == z) = true
    exact beq_self_eq_true z
  · intro m hm hmj
    obtain ⟨y, t', h1, h2⟩ := at' m hm
    rw [h2]
    show (y == z) = false
    exact beq_eq_false_iff_ne.mpr fun e => hno m hmj (e ▸ h1)
end
end Gk
/-! readings with the fragment given: within comprehensions, and comprehensions within them -/
namespace Gk
open PySem PySem.Spec PyProof.Rows L2
theorem mt_lcountK {X : Cx} (K : PySem.W.Frag) (h : X.K = K := by rfl) : MtR X "list.count" (rCntI K) := by
  subst h
  exact mt_lcount
theorem pi_listK {X : Cx} {tg l : Expr} {tl : TE} (K : PySem.W.Frag) (hl : PE X l tl) (h : X.K = K := by rfl) : PI X tg l (iList K tl) := by
  subst h
  exact pi_list hl
theorem pi_tupK {X : Cx} {tg l : Expr} {tl : TE} (K : PySem.W.Frag) (hl : PE X l tl) (h : X.K = K := by rfl) : PI X tg l (iTup K tl) := by
  subst h
  exact pi_tup hl
section
variable {X : Cx} {o e : Expr} {es : List Expr} {to : TE} {t : TA} {name : Str} {apos cpos : Pos} {T id : String} {r : V → List V → Hp → VK → Prop}
theorem pe_bmK (K : PySem.W.Frag) (pa : PlainAttrs T) (slot : Slot T name id) (hty : typeOf (.builtin id) = pure (.type "method_descriptor")) (hm : MtR X id r) (ho : PE X o to) (ha : PA X (e :: es) t) (h : X.K = K := by rfl)
    (hbase : attributeBase o name X.env (eval o X.env) = eval o X.env := by rfl)
    (hfew : ((backTo cpos (starEach (e :: es) X.env)).all (fun x => !x.1) && (backToKw cpos (keywordEach [] X.env)).all (fun x => x.1.isSome)
      && decide ((e :: es).length + ([] : List Keyword).length + (if ([] : List Keyword).isEmpty then 0 else 1) < 30)) = true := by rfl)
    (hline : (apos.endLine == cpos.line) = true := by rfl) (hs : starEach (e :: es) X.env = (false, eval e X.env) :: starEach es X.env := by rfl) (hplain : (backTo cpos (starEach es X.env)).any (·.1) = false := by rfl) :
    PE X (.Call (.Attribute o name apos) (e :: es) [] cpos) (tBM K T r to t) := by
  subst h
  exact pe_bm pa slot hty hm ho ha hbase hfew hline hs hplain
end
end Gk
/-! a tuple that was made from a list, with all of its object: so its methods can be called. -/
namespace Gk
open PySem PySem.Spec PyProof.Rows L2
def rTupF (K : PySem.W.Frag) : List V → Hp → VK → Prop := fun xs H Q => ∃ p ys, xs = [.ref p] ∧ SqL K H p ys ∧ ∀ l o, H l = none → o.cls = .type "tuple" → o.dict = none → Q (.ref l) (upd H l (.frz o (.tup ys)))
theorem call_tupleF {X : Cx} : CallR X (.type "tuple") (rTupF X.K) := by
  intro pins s σ H xs us Q I r h
  obtain ⟨p, ys, rfl, hq, q⟩ := h
  obtain ⟨u, rfl, rx⟩ := vals1 r
  cases rx
  obtain ⟨its, r', pl, hz⟩ := I.list hq
  have hlen := r'.length
  refine call_tuple_list pl.isList (fun h' kp => ?_) (by simp only [List.size_toArray] <;> omega)
  have I1 : Inv X pins σ H { s with heap := h' } := I.kept (t' := s.toks) kp
  have I2 : Inv X pins σ (upd H h'.objs.size (.frz { cls := .type "tuple", data := .seq its.toArray } (.tup ys))) { s with heap := h'.push { cls := .type "tuple", data := .seq its.toArray } } :=
    I1.laid (t' := s.toks) (fun b o e => Heap.get?_push_of_some _ e) (Nat.le_refl _) (show ObjOk X.prog X.w _ _ _ (.frz _ (.tup ys)) from ⟨Heap.get?_push_size _ rfl, hz, its, r', IsTup.new _ _⟩)
  exact ⟨.ref h'.objs.size, _, I2, rfl, q _ _ (I1.hok.fresh (Nat.le_refl _)) rfl rfl⟩
/-- the object at p is a tuple without a dict -/
def TupF (H : Hp) (p : Addr) (ys : List V) : Prop := ∃ o, H p = some (.frz o (.tup ys)) ∧ o.cls = .type "tuple" ∧ o.dict = none
theorem TupF.seq {K : PySem.W.Frag} {H : Hp} {p : Addr} {ys : List V} (h : TupF H p ys) : SqT K H p ys := by
  obtain ⟨o, h, _⟩ := h
  exact .inl (.inr ⟨o, h⟩)
theorem TupF.same {H H' : Hp} {p : Addr} {ys : List V} (s : Same H H') (h : TupF H p ys) : TupF H' p ys := by
  obtain ⟨o, h, a⟩ := h
  exact ⟨o, s _ _ h, a⟩
def tBMF (r : V → List V → Hp → VK → Prop) (to : TE) (t : TA) : TE := fun σ H Q => to σ H fun x H1 => (∃ p ys, x = .ref p ∧ TupF H1 p ys) ∧ t σ H1 fun xs H2 => r x xs H2 Q
section
variable {X : Cx} {o e : Expr} {es : List Expr} {to : TE} {t : TA} {name : Str} {apos cpos : Pos} {id : String} {r : V → List V → Hp → VK → Prop}
theorem pe_bmF (slot : Slot "tuple" name id) (hty : typeOf (.builtin id) = pure (.type "method_descriptor")) (hm : MtR X id r) (ho : PE X o to) (ha : PA X (e :: es) t)
    (hbase : attributeBase o name X.env (eval o X.env) = eval o X.env := by rfl)
    (hfew : ((backTo cpos (starEach (e :: es) X.env)).all (fun x => !x.1) && (backToKw cpos (keywordEach [] X.env)).all (fun x => x.1.isSome)
      && decide ((e :: es).length + ([] : List Keyword).length + (if ([] : List Keyword).isEmpty then 0 else 1) < 30)) = true := by rfl)
    (hline : (apos.endLine == cpos.line) = true := by rfl) (hs : starEach (e :: es) X.env = (false, eval e X.env) :: starEach es X.env := by rfl) (hplain : (backTo cpos (starEach es X.env)).any (·.1) = false := by rfl) :
    PE X (.Call (.Attribute o name apos) (e :: es) [] cpos) (tBMF r to t) := by
  refine ⟨fun pins s σ H Q I h => ?_⟩
  refine wpAny_Call_method_late hbase hfew hline rfl (thn (ho.run pins s σ H _ I h) fun v s1 ⟨x, H1, I1, r1, ty, q1⟩ => ?_)
  obtain ⟨p, ys, rfl, ob, hp, hc, hd⟩ := ty
  have rx := r1
  cases r1
  have g := (show ObjOk X.prog X.w H1 s1.heap p (.frz ob (.tup ys)) from I1.hok p _ hp).1
  refine ⟨"tuple", id, PySem.F.plainAttrs_tuple, slot, hty, ⟨ob, g, hc⟩, fun a e => ?_, ?_⟩
  · cases e
    exact ⟨ob, g, hd⟩
  have hA := ha.run cpos pins s1 σ H1 _ I1 q1
  rw [hs] at hA ⊢
  refine Calls.callWith_builtin (by show (false || (backTo cpos (starEach es X.env)).any (·.1)) = false; rw [hplain] <;> rfl) (Calls.evalArgs_plain ?_)
  exact thn hA fun us s2 ⟨vs, H2, I2, r2, q2⟩ => hm pins s2 σ H2 _ vs _ us Q I2 rx r2 q2
end
end Gk
namespace Pf
open PySem PySem.Spec PyProof.Rows L2 Gk
section
variable {P : Program} {w : World} {K : PySem.W.Frag} {mg : Str → Option Value} {base : Heap}
/-- branches, the tuple with all of its object -/
def spBrsF (K : PySem.W.Frag) : Sp := fun vs H Q _ => ∃ (t : Addr) (l : List (Int × Int)), vs = [.ref t] ∧ PairsAt K H t l ∧ Fair l ∧
  ∀ H' p (bs : List Int), Same H H' → TupF H' p (bs.map V.int) → bs.Pairwise (· < ·) → (∀ k, k ∈ bs ↔ ∃ x ∈ l, x.1 = k) → Q (.ref p) H'
theorem ok_brsF {f : Addr} {fd : FuncData} {k : Nat} (mt : mg "tuple" = none) (ms : mg "sorted" = none) (F : L2.Fun K "branches" "branches" sBrs f fd) : FnOk P w K mg base L2.CX0 (k + 1) f fd ["trace"] (spBrsF K) := by
  refine F.ok scBrs (fun vs H Q E h => ?_) (fun cdv A outer s H vs Q E hr h => ?_)
  · obtain ⟨t, l, rfl, _⟩ := h
    rfl
  · obtain ⟨t, l, rfl, hl, fair, q⟩ := h
    obtain ⟨xs, sq, hA, len⟩ := PairsAt.out hl
    refine ⟨_, pss_one (ps_ret (pe_callTy call_tupleF (by rfl) mt (by decide +kernel) (pa_cons (pe_callB (cr_sortedSet (by rfl)) (by rfl) ms (by decide +kernel) (pa_cons (pe_si (own := [("branch", 1), ("outcome", 2)]) (g := gTup K 2 (gCons (gName 1) (gCons (gName 2) gNil))) (by rfl) scBrs.nd (pi_tup (pv 0))
        (blkOk_by (N := nBrs) (sc := defScope sBrs) (by decide +kernel)) (fun _ _ _ _ _ => pg_tup rfl (pgs_cons (pg_name (i := 1) scBrs.nd rfl (.inl rfl)) (pgs_cons (pg_name (i := 2) scBrs.nd rfl (.inl rfl)) pgs_nil))) (fun _ _ _ _ _ => pv 1)) pa_nil)) pa_nil))), ?_⟩
    refine ⟨.ref t, rfl, t, rfl, ⟨_, sq⟩, fun D nD => si_walk (walk_tup (K := K) (a := t) (xs := xs)) (fun i H' => Same H H' ∧ ∃ S, H' D = some (SetO w D S (eight S)) ∧ ∀ k, S k = true ↔ ∃ x ∈ l.take i, x.1 = k) ⟨same_new nD, _, upd_same, fun k => by simp⟩
      (fun i H' hp => Same.seqT hp.1 sq) (fun i x G G' hi hp hy => ?_) (fun G hp => ?_)⟩
    · obtain ⟨sm, S, hD, hS⟩ := hp
      obtain ⟨rfl, hx⟩ := hy
      obtain ⟨y, a, hy, rfl, sa⟩ := pd_at hA hx
      have fy := fair y (List.mem_of_getElem? hy)
      have e8 := eight_le S
      refine ⟨a, _, rfl, Same.seqT sm sa, rfl, _, _, rfl, _, _, rfl, rfl, rfl, .int y.1, rfl, y.1, S, eight S, rfl, hD, Nat.lt_of_le_of_lt (show eight S + 1 ≤ 9 by omega) (by decide), ?_, (fun j => S j || decide (j = y.1)), ?_, fun k => ?_⟩
      · intro c o h
        rw [upd_ne (ne_of_none h nD)]
        exact sm c o h
      · rw [upd_same, ← eight_add fy.1.1 fy.1.2]
        rfl
      · rw [List.take_add_one, hy]
        simp only [Bool.or_eq_true, decide_eq_true_eq, hS k, Option.toList_some, List.mem_append, List.mem_singleton]
        constructor
        · rintro (⟨x, hx, e⟩ | e)
          · exact ⟨x, .inl hx, e⟩
          · exact ⟨y, .inr rfl, e.symm⟩
        · rintro ⟨x, hx | rfl, e⟩
          · exact .inl ⟨x, hx, e⟩
          · exact .inr e.symm
    · obtain ⟨sm, S, hD, hS⟩ := hp
      rw [len, List.take_length] at hS
      refine ⟨D, S, eight S, rfl, hD, Nat.lt_of_le_of_lt (eight_le S) (by decide), fun ns p pw mem _ np => ⟨p, _, rfl, .inl (.inl upd_same), fun p2 o np2 oc od => ?_⟩⟩
      exact q _ p2 ns ((sm.trans (same_new np)).trans (same_new np2)) ⟨o, upd_same, oc, od⟩ pw fun k => (mem k).trans (hS k)
/-- what is told of a tuple of ints alone -/
theorem brs_weak {vs : List V} {H : Hp} {Q : VK} {E : XK} (h : spBrs K vs H Q E) : spBrsF K vs H Q E := by
  obtain ⟨t, l, e, hl, fair, q⟩ := h
  exact ⟨t, l, e, hl, fair, fun H' p bs s tp pw mem => q H' p bs s tp.seq pw mem⟩
end
end Pf
namespace Pf
open PySem PySem.Spec PyProof.Rows L2 Gk Fold
theorem few_lt {n : Nat} : ∀ {bs : List Int}, bs.Pairwise (· < ·) → (∀ b ∈ bs, 0 ≤ b ∧ b < (n : Int)) → bs.length ≤ n := by
  induction n with
  | zero =>
    intro bs _ h
    cases bs with
    | nil => exact Nat.le_refl _
    | cons b bs => have := h b List.mem_cons_self; omega
  | succ n ih =>
    intro bs pw h
    rcases List.eq_nil_or_concat bs with rfl | ⟨cs, c, rfl⟩
    · exact Nat.zero_le _
    · rw [List.concat_eq_append] at *
      have pw := List.pairwise_append.mp pw
      have := ih (bs := cs) pw.1 fun b hb => by
        have h1 := h b (List.mem_append_left _ hb)
        have h2 := pw.2.2 b hb c (List.mem_singleton.mpr rfl)
        have h3 := h c (List.mem_append_right _ (List.mem_singleton.mpr rfl))
        omega
      rw [List.length_append]
      show cs.length + 1 ≤ n + 1
      omega
theorem brs_few {l : List (Int × Int)} {bs : List Int} (fair : Fair l) (pw : bs.Pairwise (· < ·)) (mem : ∀ b, b ∈ bs ↔ ∃ y ∈ l, y.1 = b) : bs.length ≤ 8 := few_lt pw fun b hb => by
  obtain ⟨y, hy, rfl⟩ := (mem b).mp hb
  have := (fair y hy).1
  omega
theorem ints_tame : ∀ {ns : List Int}, (∀ n ∈ ns, n.natAbs < 10 ^ 20) → tameAll (ns.map PyData.int) = true
  | [], _ => rfl
  | n :: ns, h => by
    have e : decide (n.natAbs < 10 ^ 20) = true := decide_eq_true (h n List.mem_cons_self)
    have r := ints_tame fun m hm => h m (List.mem_cons_of_mem _ hm)
    show (decide (n.natAbs < 10 ^ 20) && tameAll (ns.map PyData.int)) = true
    rw [e, r]
    rfl
theorem ints_eqv {ns : List Int} (h : ∀ n ∈ ns, n.natAbs < 10 ^ 20) : PyData.eqv (.list (ns.map PyData.int)) (.list (ns.map PyData.int)) = true := eqv_same (by show tameAll _ = true; exact ints_tame h)
theorem shaped3 (a b c : Int) : SeqAt.shaped (.list ([a, b, c].map PyData.int)) = true := rfl
theorem ints_dp {K : PySem.W.Frag} {H : Hp} {a : Addr} : ∀ {ns : List Int}, H a = some (.lst (ns.map V.int)) → Dp K H (.ref a) (.list (ns.map PyData.int)) := fun {ns} h => .lst (SqL.of h) (by
  clear h
  induction ns with
  | nil => exact .nil
  | cons n ns ih => exact .cons (.int n) ih)
/-! ### pairs in the heap, told by a reading of the heap -/
def keyH (H : Hp) : V → Int × Int
  | .ref t => match H t with
    | some (.tup [.int a, .int b]) => (a, b)
    | _ => (0, 0)
  | _ => (0, 0)
theorem keyH_at {H : Hp} {t : Addr} {a b : Int} (h : H t = some (.tup [.int a, .int b])) : keyH H (.ref t) = (a, b) := by
  simp only [keyH, h]
def Tw (H : Hp) (es : List V) (ps : List (Int × Int)) : Prop := (∀ x ∈ es, ∃ t, x = V.ref t ∧ H t = some (.tup [.int (keyH H x).1, .int (keyH H x).2])) ∧ es.map (keyH H) = ps
theorem Tw.nil {H : Hp} : Tw H [] [] := ⟨fun x h => (nomatch h), rfl⟩
theorem Tw.same {H H' : Hp} {es : List V} {ps : List (Int × Int)} (s : Same H H') (h : Tw H es ps) : Tw H' es ps := by
  have e : ∀ x ∈ es, keyH H' x = keyH H x := fun x hx => by
    obtain ⟨t, rfl, ht⟩ := h.1 x hx
    exact keyH_at (s _ _ ht)
  refine ⟨fun x hx => ?_, ?_⟩
  · rw [e x hx]
    obtain ⟨t, z, ht⟩ := h.1 x hx
    exact ⟨t, z, s _ _ ht⟩
  · rw [← h.2]
    exact List.map_congr_left e
theorem Tw.snoc {H : Hp} {es : List V} {ps : List (Int × Int)} {t : Addr} {p : Int × Int} (h : Tw H es ps) (ht : H t = some (.tup [.int p.1, .int p.2])) : Tw H (es ++ [.ref t]) (ps ++ [p]) := by
  refine ⟨fun x hx => ?_, ?_⟩
  · rcases List.mem_append.mp hx with hx | hx
    · exact h.1 x hx
    · rw [List.mem_singleton.mp hx, keyH_at ht]
      exact ⟨t, rfl, ht⟩
  · rw [List.map_append, h.2]
    show ps ++ [keyH H (.ref t)] = _
    rw [keyH_at ht]
theorem Tw.perm {H : Hp} {es ys : List V} {ps : List (Int × Int)} (h : Tw H es ps) (pm : ys.Perm es) : Tw H ys (ys.map (keyH H)) ∧ (ys.map (keyH H)).Perm ps :=
  ⟨⟨fun x hx => h.1 x (pm.mem_iff.mp hx), rfl⟩, by rw [← h.2]; exact pm.map _⟩
theorem Tw.dp {K : PySem.W.Frag} {H : Hp} : ∀ {es : List V} {ps : List (Int × Int)}, Tw H es ps → DpAll K H es (ps.map pd)
  | [], ps, h => by rw [← h.2]; exact .nil
  | x :: es, ps, h => by
    rw [← h.2]
    obtain ⟨t, e, ht⟩ := h.1 x List.mem_cons_self
    refine .cons ?_ (Tw.dp ⟨fun y hy => h.1 y (List.mem_cons_of_mem _ hy), rfl⟩)
    rw [e] at ht ⊢
    exact .tup (.inl (.inl ht)) (.cons (.int _) (.cons (.int _) .nil))
theorem srt_pairs {H : Hp} {ys : List V} (h : SrtO.Srtd (ltP (keyH H)) ys) : (ys.map (keyH H)).Pairwise (fun a b => ¬ LtP b a) :=
  List.pairwise_map.mpr (List.Pairwise.imp (fun {a b} e => SrtO.lexB_no.mp e) h)
theorem sort_two {ns : List Int} {u v : Int} (pm : ns.Perm [u, v]) (pw : ns.Pairwise (· ≤ ·)) : ns = [(ordP u v).1, (ordP u v).2] := by
  match ns, pm.length_eq with
  | [a, b], _ =>
    have ab : a ≤ b := (List.pairwise_cons.mp pw).1 b List.mem_cons_self
    have ha : a = u ∨ a = v := by simpa using pm.mem_iff.mp (List.mem_cons_self (a := a) (l := [b]))
    rcases ha with rfl | rfl
    · have := List.perm_singleton.mp ((List.perm_cons a).mp pm)
      obtain rfl := List.singleton_inj.mp this
      unfold ordP
      rw [if_pos ab]
    · have pm2 := pm.trans (List.Perm.swap a u [])
      have := List.perm_singleton.mp ((List.perm_cons a).mp pm2)
      obtain rfl := List.singleton_inj.mp this
      unfold ordP
      by_cases c : b ≤ a
      · rw [if_pos c, show a = b by omega]
      · rw [if_neg c]
theorem cellsD_tame {l : List (Int × Int)} {k : Str} {z : Int} {x : Option Int} (fair : Fair l) (h : 1 ≤ l.length) (ok : PlanOk k z x) (n : Nat) : Gk.tame (.tuple (cellsD l k z x n)) = true ∧ SeqAt.shaped (.tuple (cellsD l k z x n)) = true := by
  have each : ∀ d ∈ cellsD l k z x n, Gk.tame d = true ∧ cost d ≤ 200 ∧ d.depth ≤ 2 := fun d hd => by
    rw [cellsD_cl] at hd
    obtain ⟨i, _, rfl⟩ := List.mem_map.mp hd
    exact cl_tame fair h ok i
  have t : Gk.tame (.tuple (cellsD l k z x n)) = true := by
    show tameAll _ = true
    generalize cellsD l k z x n = ds at each
    induction ds with
    | nil => rfl
    | cons d r ih =>
      show (Gk.tame d && tameAll r) = true
      rw [(each d List.mem_cons_self).1, ih fun e he => each e (List.mem_cons_of_mem _ he)]
      rfl
  refine ⟨t, tame_shaped t ?_⟩
  have dd : PyData.depthAll (cellsD l k z x n) ≤ 2 := by
    generalize cellsD l k z x n = ds at each
    clear t
    induction ds with
    | nil => simp only [PyData.depthAll]; omega
    | cons d r ih =>
      have a := (each d List.mem_cons_self).2.2
      have b := ih fun e he => each e (List.mem_cons_of_mem _ he)
      simp only [PyData.depthAll]
      omega
  simp only [PyData.depth]
  omega
end Pf
/-! A generator def whose items are asked for one by one, its caller going on between them. -/
namespace Gk
open PySem PySem.Spec PyProof.Rows L2 GenW

/-! ### the heap up to an address -/
def cut (h : Heap) (n : Nat) : Heap := { h with objs := h.objs.extract 0 n }
theorem cut_get (h : Heap) (n b : Nat) : (cut h n).get? b = if b < n then h.get? b else none := by
  unfold cut Heap.get?
  simp only [Array.getElem?_extract]
  by_cases c : b < n
  · rw [if_pos c]
    by_cases d : b < h.objs.size
    · rw [if_pos (by omega), Nat.zero_add]
    · rw [if_neg (by omega), Array.getElem?_eq_none (by omega)]
  · rw [if_neg c, if_neg (by omega)]
theorem cut_lt {h : Heap} {n b : Nat} {o : Obj} (e : (cut h n).get? b = some o) : b < n ∧ h.get? b = some o := by
  rw [cut_get] at e
  by_cases c : b < n
  · rw [if_pos c] at e
    exact ⟨c, e⟩
  · rw [if_neg c] at e
    cases e
theorem cut_of {h : Heap} {n b : Nat} {o : Obj} (c : b < n) (e : h.get? b = some o) : (cut h n).get? b = some o := by
  rw [cut_get, if_pos c, e]
theorem cut_size (h : Heap) (n : Nat) : (cut h n).objs.size ≤ n := by
  unfold cut
  simp only [Array.size_extract]
  omega
theorem cut_size' {h : Heap} {n m : Nat} (a : m ≤ n) (b : m ≤ h.objs.size) : m ≤ (cut h n).objs.size := by
  unfold cut
  simp only [Array.size_extract]
  omega
theorem funs_cut {h0 h base : Heap} {n : Nat} (hn : h0.objs.size ≤ n) : ∀ {l : List Env}, h0.FunFrames base l → h.FunFrames base l → (cut h n).FunFrames base l
  | [], _, _ => trivial
  | env :: r, ⟨_, ⟨L, _, f0, _, g0, _⟩, r0⟩, ⟨k1, ⟨L', o, f1, b1, g1, d1⟩, r1⟩ => by
    have e : L = L' := by rw [f0] at f1; exact Option.some.inj f1
    subst e
    exact ⟨k1, ⟨L, o, f1, b1, cut_of (Nat.lt_of_lt_of_le (Heap.lt_size g0) hn) g1, d1⟩, funs_cut hn r0 r1⟩

/-! ### the generator's context anew at each turn -/
def re (X : Cx) (s : Shared) (H : Hp) : Cx := { X with s_0 := { s with heap := cut s.heap X.env.locals }, H_0 := H }
/-- a generator's context: no cells of its own, no pins, nothing exempt; nothing is raised -/
structure GCx (X : Cx) : Prop where
  n0 : X.s_0.heap.objs.size = X.env.locals
  ex : X.ex = []
  pn : X.pn = []
  calm : X.calm = true
  cells : ∀ x, X.env.cells.lookup x = none
  nox : ∀ e s, ¬ X.xe e s
/-- what must hold of the state at which the generator goes on -/
structure On (X : Cx) (s : Shared) (H : Hp) : Prop where
  bs : ∀ b o, X.base.get? b = some o → s.heap.get? b = some o ∧ H b = none
  bsz : X.base.objs.size ≤ s.heap.objs.size
  funs : s.heap.FunFrames X.base X.outer
  frf : ∀ b ∈ X.fs, H b = none
  hok : HOk X.prog X.w H s.heap
  bare : AllBare s.gens
theorem On.of {X : Cx} {A : Around} {s : Shared} {H : Hp} (e : Env0 X.prog X.w X.K X.mg X.base A X.outer s H) : On X s H := ⟨e.bs, e.bsz, e.funs, e.frf, e.hok, e.bare⟩
theorem re_ok {X : Cx} {s : Shared} {H : Hp} (g : GCx X) (ok : X.Ok) (o : On X s H) : (re X s H).Ok where
  mod := ok.mod
  kind := ok.kind
  glob := ok.glob
  blt := ok.blt
  above := cut_size _ _
  inj := ok.inj
  has := ok.has
  cab := fun x c _ e => by
    have e : X.env.cells.lookup x = some c := e
    rw [g.cells x] at e
    cases e
  hd := ok.hd
  frames := ok.frames
  stk := ok.stk
  exf := ok.exf
  bs := fun b ob e => ⟨cut_of (Nat.lt_of_lt_of_le (Heap.lt_size e) (Nat.le_trans ok.bsz (Nat.le_of_eq g.n0))) (o.bs b ob e).1, (o.bs b ob e).2⟩
  bsz := cut_size' (Nat.le_trans ok.bsz (Nat.le_of_eq g.n0)) o.bsz
  noex := ok.noex
  exfs := ok.exfs
  funs := funs_cut (Nat.le_of_eq g.n0) ok.funs o.funs
  frf := o.frf
/-- what the generator leaves behind while it sleeps: its frame, its loops' iterators -/
structure Slept (X : Cx) (ip : List (Addr × Obj)) (σ : L2.St) (oL : Obj) : Prop where
  loc : ∀ h : Heap, h.get? X.env.locals = some oL → ∃ m, h.Ns X.env.locals m ∧ ∀ (i : Nat) (x : Str) (v : V), X.N[i]? = some x → σ[i]? = some (some v) → Vis X.env.scope x → ∃ u, RelV v u ∧ Look X.env h m x u
  pin : ∀ p ∈ ip, p.1 ≠ X.env.locals ∧ p.1 ∉ X.fs ∧ ∀ v, p.2.data ≠ .cell v
  data : ∀ v, oL.data ≠ .cell v
  nfs : X.env.locals ∉ X.fs
  len : σ.length = X.N.length
/-- the generator goes to sleep -/
theorem sleep {X : Cx} {s0 s : Shared} {H0 H : Hp} {pe ip : List (Addr × Obj)} {σ : L2.St} (g : GCx X) (I : Inv (re X s0 H0) (pe ++ ip) σ H s) : ∃ oL, s.heap.get? X.env.locals = some oL ∧ H X.env.locals = none ∧ Slept X ip σ oL := by
  obtain ⟨m, hn, hl⟩ := I.loc
  obtain ⟨o, es, ep, ho, r⟩ := hn
  have hd : o.data = .dict es ep := r.1
  refine ⟨o, ho, I.free, ⟨fun h e => ⟨m, ⟨o, es, ep, e, r⟩, fun i x v a b c => ?_⟩, fun p hp => ?_, fun v z => ?_, ?_, I.len⟩⟩
  · obtain ⟨u, ru, l⟩ := hl i x v a b c
    refine ⟨u, ru, ?_⟩
    rcases l with l | ⟨_, c', e', _⟩
    · exact .inl l
    · have e' : X.env.cells.lookup x = some c' := e'
      rw [g.cells x] at e'
      cases e'
  · obtain ⟨_, _, a, b, c⟩ := I.pin p (List.mem_append_right _ (List.mem_append_right _ hp))
    exact ⟨a, b, c⟩
  · rw [hd] at z
    cases z
  · intro hb
    obtain ⟨_, o', e', _⟩ := I.ok.funs.mem hb
    have := (cut_lt e').1
    exact absurd this (Nat.lt_irrefl _)
/-- it wakes -/
theorem waked {X : Cx} {s : Shared} {H : Hp} {pe ip : List (Addr × Obj)} {σ : L2.St} {oL : Obj} (g : GCx X) (ok : X.Ok) (o : On X s H) (S : Slept X ip σ oL) (hL : s.heap.get? X.env.locals = some oL) (nL : H X.env.locals = none)
    (hip : ∀ p ∈ ip, s.heap.get? p.1 = some p.2 ∧ H p.1 = none) (hpe : ∀ p ∈ pe, s.heap.get? p.1 = some p.2 ∧ H p.1 = none ∧ p.1 ≠ X.env.locals ∧ p.1 ∉ X.fs ∧ ∀ v, p.2.data ≠ .cell v) : Inv (re X s H) (pe ++ ip) σ H s where
  ok := re_ok g ok o
  os := rfl
  bare := o.bare
  base := Un.kept fun b u e => (cut_lt e).2
  loc := S.loc s.heap hL
  cell := fun x c e => by
    have e : X.env.cells.lookup x = some c := e
    rw [g.cells x] at e
    cases e
  free := nL
  freeC := fun x c e => by
    have e : X.env.cells.lookup x = some c := e
    rw [g.cells x] at e
    cases e
  pin := fun p hp => by
    have hp : p ∈ X.pn ++ (pe ++ ip) := hp
    rw [g.pn, List.nil_append] at hp
    rcases List.mem_append.mp hp with hp | hp
    · exact hpe p hp
    · obtain ⟨a, b, c⟩ := S.pin p hp
      exact ⟨(hip p hp).1, (hip p hp).2, a, b, c⟩
  hok := o.hok
  len := S.len
end Gk
/-! The statements of a generator def whose caller goes on between its items. γ: what the caller keeps meanwhile. -/
namespace Gk
open PySem PySem.Spec PyProof.Rows L2 GenW

/-- what is wanted behind a statement; n: how many items may still be handed out; yl: of an item, with what is wanted when the generator goes on -/
structure YEnds where
  nx : Nat → L2.St → L2.St → Hp → Prop
  rt : Nat → L2.St → VK
  bk : Nat → L2.St → L2.St → Hp → Prop := fun _ _ _ _ => False
  ct : Nat → L2.St → L2.St → Hp → Prop := fun _ _ _ _ => False
  yl : L2.St → V → Hp → (L2.St → Hp → Prop) → Prop
abbrev TY := YEnds → Nat → L2.St → L2.St → Hp → Prop
def YEnds.at (D : YEnds) (n : Nat) (γ : L2.St) : Ends := { nx := D.nx n γ, rt := D.rt n γ, bk := D.bk n γ, ct := D.ct n γ }
abbrev LK := L2.St → Hp → Shared → List (Addr × Obj) → Prop
/-- the generator has run from s₀ to s -/
structure Went (X : Cx) (pe : List (Addr × Obj)) (H₀ : Hp) (s₀ : Shared) (H : Hp) (s : Shared) : Prop where
  os : s.os = s₀.os
  bare : AllBare s.gens
  un : Un X.fs [] H₀ H (cut s₀.heap X.env.locals) s.heap
  hok : HOk X.prog X.w H s.heap
  pe : ∀ p ∈ pe, s.heap.get? p.1 = some p.2 ∧ H p.1 = none
/-- what may be pinned while the generator runs -/
def PeOk (X : Cx) (Ad : List Addr) (pe : List (Addr × Obj)) (H : Hp) (s : Shared) : Prop :=
  pe.map (·.1) = Ad ∧ ∀ p ∈ pe, s.heap.get? p.1 = some p.2 ∧ H p.1 = none ∧ p.1 ≠ X.env.locals ∧ p.1 ∉ X.fs ∧ ∀ v, p.2.data ≠ .cell v
def YP (X : Cx) (Lk : LK) (Ad : List Addr) (yl : L2.St → V → Hp → (L2.St → Hp → Prop) → Prop) : Protocol := fun n s₀ v s kap =>
  ∃ (γ : L2.St) (H₀ H : Hp) (pe hl : List (Addr × Obj)) (x : V) (k : L2.St → Hp → Prop), Lk γ H₀ s₀ pe ∧ RelV x v ∧ Went X pe H₀ s₀ H s ∧
    (∀ p ∈ hl, s.heap.get? p.1 = some p.2 ∧ H p.1 = none ∧ X.env.locals ≤ p.1 ∧ p.1 ∉ Ad ∧ ∀ v, p.2.data ≠ .cell v) ∧ yl γ x H k ∧
    ∀ γ' H' s'' pe', k γ' H' → Lk γ' H' s'' pe' → On X s'' H' → PeOk X Ad pe' H' s'' → (∀ p ∈ hl, s''.heap.get? p.1 = some p.2 ∧ H' p.1 = none) → kap (.send .none) s''
def YInv (X : Cx) (Lk : LK) (Ad : List Addr) (γ : L2.St) (s₀ : Shared) (ip : List (Addr × Obj)) (σ : L2.St) (H : Hp) (s : Shared) : Prop :=
  ∃ H₀ pe, Lk γ H₀ s₀ pe ∧ pe.map (·.1) = Ad ∧ X.env.locals ≤ s₀.heap.objs.size ∧ Inv (re X s₀ H₀) (pe ++ ip) σ H s
structure YC (X : Cx) (Ad : List Addr) (ip : List (Addr × Obj)) (A : Around) (c : Code) (fs : List Frame) (gd : Bool → Bool) : Prop extends FC X A c fs gd where
  g : GCx X
  ok : X.Ok
  ip : ∀ p ∈ ip, X.env.locals ≤ p.1 ∧ p.1 ∉ Ad
structure YK (X : Cx) (Lk : LK) (Ad : List Addr) (ip : List (Addr × Obj)) (A : Around) (R : GenEnd) (c : Code) (fs : List Frame) (K : Flow → Sem PySem.Fin) (D : YEnds) : Prop where
  ok : ∀ (n : Nat) (γ : L2.St) (s₀ s : Shared) (f : Flow) (H₀ : Hp) (pe : List (Addr × Obj)), Lk γ H₀ s₀ pe → pe.map (·.1) = Ad → X.env.locals ≤ s₀.heap.objs.size → SP (re X s₀ H₀) (pe ++ ip) (D.at n γ) f s →
    Seg (model X.prog X.w) A R (YP X Lk Ad D.yl) n s₀ c (K f) fs s
structure YS (X : Cx) (st : Stmt) (t : TY) : Prop where
  run : ∀ (A : Around) (Lk : LK) (Ad : List Addr) (ip : List (Addr × Obj)) (R : GenEnd) (n : Nat) (γ : L2.St) (s₀ : Shared) (c : Code) (fs : List Frame) (K : Flow → Sem PySem.Fin) (J : Value → Sem PySem.Fin) (gd : Bool → Bool) (lv : List Value → List Value) (s : Shared) (σ : L2.St) (H : Hp) (D : YEnds),
    YC X Ad ip A c fs gd → YK X Lk Ad ip A R c fs K D → YInv X Lk Ad γ s₀ ip σ H s → t D n γ σ H →
    Seg (model X.prog X.w) A R (YP X Lk Ad D.yl) n s₀ c ((exec st X.env).wrap K J gd lv) fs s
structure YSs (X : Cx) (st : List Stmt) (t : TY) : Prop where
  run : ∀ (A : Around) (Lk : LK) (Ad : List Addr) (ip : List (Addr × Obj)) (R : GenEnd) (n : Nat) (γ : L2.St) (s₀ : Shared) (c : Code) (fs : List Frame) (K : Flow → Sem PySem.Fin) (J : Value → Sem PySem.Fin) (gd : Bool → Bool) (lv : List Value → List Value) (s : Shared) (σ : L2.St) (H : Hp) (D : YEnds),
    YC X Ad ip A c fs gd → YK X Lk Ad ip A R c fs K D → YInv X Lk Ad γ s₀ ip σ H s → t D n γ σ H →
    Seg (model X.prog X.w) A R (YP X Lk Ad D.yl) n s₀ c ((execs st X.env).wrap K J gd lv) fs s
section
variable {X : Cx} {st : Stmt} {rest : List Stmt}
def tYPlain (t : TS) : TY := fun D n γ σ H => t (D.at n γ) σ H
theorem ys_ps {t : TS} (h : ∀ s H, PS (re X s H) st t) : YS X st (tYPlain t) := by
  refine ⟨fun A Lk Ad ip R n γ s₀ c fs K J gd lv s σ H D g k hI ht => ?_⟩
  obtain ⟨H₀, pe, lk, ea, hn, I⟩ := hI
  refine seg_wrap ?_
  rw [g.over]
  exact wpAny_mono ((h s₀ H₀).run _ s σ H (D.at n γ) I ht) (fun f s' hs => k.ok n γ s₀ s' f H₀ pe lk ea hn hs) fun x s' hx => (g.nox x s' hx).elim
def tY0 : TY := fun D n γ σ H => D.nx n γ σ H
theorem yss_nil : YSs X [] tY0 := by
  refine ⟨fun A Lk Ad ip R n γ s₀ c fs K J gd lv s σ H D g k hI ht => ?_⟩
  obtain ⟨H₀, pe, lk, ea, hn, I⟩ := hI
  exact seg_execs_nil (k.ok n γ s₀ s .next H₀ pe lk ea hn ⟨σ, H, I, ht⟩)
def tYThen (t u : TY) : TY := fun D n γ σ H => t { D with nx := fun n' γ' σ' H' => u D n' γ' σ' H' } n γ σ H
theorem yss_cons {t u : TY} (a : YS X st t) (b : YSs X rest u) : YSs X (st :: rest) (tYThen t u) := by
  refine ⟨fun A Lk Ad ip R n γ s₀ c fs K J gd lv s σ H D g k hI ht => ?_⟩
  refine seg_execs_cons ?_
  refine a.run A Lk Ad ip R n γ s₀ c fs _ J gd lv s σ H { D with nx := fun n' γ' σ' H' => u D n' γ' σ' H' } g ⟨fun n' γ' s₀' s' f H₀ pe lk ea hn hs => ?_⟩ hI ht
  cases f with
  | next =>
    obtain ⟨σ', H', I', q⟩ := hs
    exact b.run A Lk Ad ip R n' γ' s₀' c fs K J gd lv s' σ' H' D g k ⟨H₀, pe, lk, ea, hn, I'⟩ q
  | brk => exact k.ok n' γ' s₀' s' .brk H₀ pe lk ea hn hs
  | cont => exact k.ok n' γ' s₀' s' .cont H₀ pe lk ea hn hs
  | ret u => exact k.ok n' γ' s₀' s' (.ret u) H₀ pe lk ea hn hs
theorem yss_one {t : TY} (a : YS X st t) : YSs X [st] (tYThen t tY0) := yss_cons a yss_nil
/-- yield e -/
def tYYield (te : TE) : TY := fun D n γ σ H => ∃ m, n = m + 1 ∧ te σ H fun v H1 => D.yl γ v H1 fun γ' H2 => D.nx m γ' σ H2
theorem ys_yield {e : Expr} {yp pos : Pos} {te : TE} (he : ∀ s H, PE (re X s H) e te) (hco : X.env.scope.isCoroutine = false := by rfl) (hi : interactive X.env = false := by rfl) : YS X (.Expr (.Yield (some e) yp) pos) (tYYield te) := by
  refine ⟨fun A Lk Ad ip R n γ s₀ c fs K J gd lv s σ H D g k hI ht => ?_⟩
  obtain ⟨m, rfl, ht⟩ := ht
  obtain ⟨H₀, pe, lk, ea, hn, I⟩ := hI
  refine seg_Expr_Yield (n := m) g.split g.gd g.guard ?_ hco hi
  rw [g.over]
  refine wpAny_mono ((he s₀ H₀).run _ s σ H _ I ht) (fun v s' hv => ?_) fun x s' hx => (g.nox x s' hx).elim
  obtain ⟨x, H1, I1, rv, q⟩ := hv
  intro kap hk
  obtain ⟨oL, hL, nL, S⟩ := sleep g.g I1
  have hpe : ∀ p ∈ pe ++ ip, s'.heap.get? p.1 = some p.2 ∧ H1 p.1 = none ∧ ∀ v, p.2.data ≠ .cell v := fun p hp => by
    obtain ⟨a, b, _, _, d⟩ := I1.pin p (List.mem_append_right _ hp)
    exact ⟨a, b, d⟩
  refine ⟨γ, H₀, H1, pe, (X.env.locals, oL) :: ip, x, _, lk, rv, ⟨I1.os, I1.bare, ?_, I1.hok, fun p hp => ?_⟩, fun p hp => ?_, q, fun γ' H' s'' pe' hk' lk' on po hh => ?_⟩
  · have u := I1.base
    have hex : (re X s₀ H₀).ex = [] := g.g.ex
    rw [hex] at u
    exact u
  · obtain ⟨a, b, _⟩ := hpe p (List.mem_append_left _ hp)
    exact ⟨a, b⟩
  · rcases List.mem_cons.mp hp with rfl | hp
    · refine ⟨hL, nL, Nat.le_refl _, fun z => ?_, S.data⟩
      rw [← ea] at z
      obtain ⟨p, hp, e⟩ := List.mem_map.mp z
      obtain ⟨_, _, ne, _⟩ := I1.pin p (List.mem_append_right _ (List.mem_append_left _ hp))
      exact ne e
    · obtain ⟨a, b, d⟩ := hpe p (List.mem_append_right _ hp)
      exact ⟨a, b, (g.ip p hp).1, (g.ip p hp).2, d⟩
  · obtain ⟨hL', nL'⟩ := hh (X.env.locals, oL) List.mem_cons_self
    have I2 : Inv (re X s'' H') (pe' ++ ip) σ H' s'' := waked g.g g.ok on S hL' nL' (fun p hp => hh p (List.mem_cons_of_mem _ hp)) po.2
    refine hk .none s'' ?_
    show Seg _ _ _ _ _ _ _ _ _ _
    exact k.ok m γ' s'' s'' .next H' pe' lk' po.1 (Nat.le_of_lt (Heap.lt_size hL')) ⟨σ, H', I2, hk'⟩
def tYIf (c : TT) (t u : TY) : TY := fun D n γ σ H => c σ H fun b H1 => if b = true then t D n γ σ H1 else u D n γ σ H1
theorem ys_if {test : Expr} {body orelse : List Stmt} {pos : Pos} {tc : TT} {tb te : TY} (hc : ∀ s H, PT (re X s H) test tc) (hb : YSs X body tb) (he : YSs X orelse te) : YS X (.If test body orelse pos) (tYIf tc tb te) := by
  refine ⟨fun A Lk Ad ip R n γ s₀ c fs K J gd lv s σ H D g k hI ht => ?_⟩
  rw [exec_If]
  show Seg _ _ _ _ _ s₀ c (.at pos fun _ => ((isTrue test X.env (eval test X.env)) >>= fun b => if b = true then execs body X.env else execs orelse X.env).wrap K J gd lv) fs s
  obtain ⟨H₀, pe, lk, ea, hn, I⟩ := hI
  refine seg_at (seg_bind_wrap ?_)
  rw [g.over]
  refine wpAny_mono ((hc s₀ H₀).run _ s σ H _ I ht) (fun b s' hb' => ?_) fun x s' hx => (g.nox x s' hx).elim
  obtain ⟨H1, I1, q⟩ := hb'
  cases b with
  | true =>
    rw [if_pos rfl] at q
    rw [if_pos rfl]
    exact hb.run A Lk Ad ip R n γ s₀ c fs K J gd lv s' σ H1 D g k ⟨H₀, pe, lk, ea, hn, I1⟩ q
  | false =>
    rw [if_neg Bool.false_ne_true] at q
    rw [if_neg Bool.false_ne_true]
    exact he.run A Lk Ad ip R n γ s₀ c fs K J gd lv s' σ H1 D g k ⟨H₀, pe, lk, ea, hn, I1⟩ q
/-- for -/
def tYFor (wi : TI) (g : TG) (tb : TY) : TY := fun D n γ σ H => wi σ H fun J H1 => ∃ W : Nat → Nat → Nat → L2.St → L2.St → Hp → Prop, (∃ m, W 0 m n γ σ H1) ∧ ∀ i m n γ σ H, W i m n γ σ H →
  (J.stop i H ∧ D.nx n γ σ H) ∨ (J.go i H ∧ ∃ N : Nat → L2.St → L2.St → Hp → Prop, (∀ n' γ' σ' H', N n' γ' σ' H' → ∃ m', m' < m ∧ W (i + 1) m' n' γ' σ' H') ∧ ∀ x H', J.yld i H x H' → g x σ H' fun σ2 H2 => tb { D with nx := N, ct := N, bk := D.nx } n γ σ2 H2)
theorem yc_loop {Ad : List Addr} {ip : List (Addr × Obj)} {A : Around} {c c' : Code} {fs : List Frame} {gd : Bool → Bool} {k : Result → Sem PySem.Fin} {l kp : List Value} {p : Pos} (g : YC X Ad ip A c fs gd) (hw : c'.weight = 0) (hu : c'.cUnits = 0) :
    YC X Ad ip A c' (.ret k none (gd false) l c p kp :: fs) id := { toFC := fc_loop g.toFC hw hu, g := g.g, ok := g.ok, ip := g.ip }
theorem ys_for {tg iter : Expr} {body : List Stmt} {wi : TI} {g : TG} {tb : TY} {pos : Pos} (hi : ∀ s H, PI (re X s H) tg iter wi) (hg : ∀ s H, PG (re X s H) tg g) (hb : YSs X body tb)
    (hs : ∀ x, foldedSetIterable iter X.env x = pure x := by intro _; rfl) : YS X (.For tg iter body [] pos) (tYFor wi g tb) := by
  refine ⟨fun A Lk Ad ip R n γ s₀ c fs K J gd lv s σ H D gc k hI ht => ?_⟩
  have hc : X.calm = true := gc.g.calm
  rw [exec_For]
  show Seg _ _ _ _ _ s₀ c (.at pos fun _ => (eval iter X.env >>= fun v => foldedSetIterable iter X.env v >>= fun x => standAt iter.pos >>= fun _ => holding [x] (pyIter x) >>= fun it => runOwn (.forLoop tg it body [] X.env) X.env).wrap K J gd lv) fs s
  obtain ⟨H₀, pe, lk, ea, hn0, I⟩ := hI
  refine seg_at (seg_bind_wrap ?_)
  rw [gc.over]
  refine wpAny_mono ((hi s₀ H₀).run _ s σ H _ I ht) (fun v s1 h1 => ?_) fun x s' hx => (gc.nox x s' hx).elim
  refine seg_bind_wrap (wpAny_of_eq (hs v) ?_)
  refine seg_bind_wrap (wpAny_standAt ?_)
  refine seg_bind_wrap (wpAny_holding ?_)
  rw [gc.over]
  refine wpAny_mono h1 (fun itv s2 h2 => ?_) fun x s' hx => (gc.nox x s' hx).elim
  obtain ⟨it, fp, tn, Jt, H2, e, I2, T, st2, f2, W, ⟨m0, w0⟩, turn⟩ := h2
  subst e
  have nAd : ∀ b ∈ fp, ∀ a ∈ Ad, a ≠ b := fun b hb a ha => by
    rw [← ea] at ha
    obtain ⟨p, hp, rfl⟩ := List.mem_map.mp ha
    exact (f2 b hb).2.2.2.2.2 p (List.mem_append_right _ (List.mem_append_left _ hp))
  have geF : ∀ b ∈ fp, X.env.locals ≤ b := fun b hb => by
    rcases (f2 b hb).2.2.2.1 with z | z
    · have z : b ∈ X.ex := z
      rw [gc.g.ex] at z
      cases z
    · exact Nat.le_trans (cut_size' (Nat.le_refl _) hn0) z
  have stat : ∀ {s₀' : Shared} {H₀' H' : Hp} {pe' : List (Addr × Obj)}, pe'.map (·.1) = Ad → (∀ b ∈ fp, H' b = none) → ∀ b ∈ fp, FpOk (re X s₀' H₀') (pe' ++ ip) H' b := fun {s₀' H₀' H' pe'} ea' hn b hb => by
    obtain ⟨_, q2, q3, q4, q5, q6⟩ := f2 b hb
    refine ⟨hn b hb, q2, q3, .inr (Nat.le_trans (cut_size _ _) (geF b hb)), q5, fun p hp => ?_⟩
    have hp : p ∈ X.pn ++ (pe' ++ ip) := hp
    rw [gc.g.pn, List.nil_append] at hp
    rcases List.mem_append.mp hp with hp | hp
    · exact nAd b hb p.1 (by rw [← ea']; exact List.mem_map.mpr ⟨p, hp, rfl⟩)
    · exact q6 p (List.mem_append_right _ (List.mem_append_right _ hp))
  show Seg _ _ _ _ _ s₀ c (.call (.forLoop tg (.ref it) body [] X.env) none (gd false) (lv []) fun r => ((match r with | .ok f => (.pure f : Sem Flow) | .error e => .raise e).onRaise (cameBack X.env)).wrap K J gd lv) fs s2
  refine seg_call fun p => ?_
  have gl := fun (kk : Result → Sem PySem.Fin) => yc_loop (k := kk) (c' := .forLoop tg (.ref it) body [] X.env) (l := lv []) (kp := []) (p := p) gc rfl rfl
  have loop : ∀ (m i n : Nat) (γ : L2.St) (s₀ s : Shared) (σ : L2.St) (H H₀ : Hp) (pe : List (Addr × Obj)), Lk γ H₀ s₀ pe → pe.map (·.1) = Ad → X.env.locals ≤ s₀.heap.objs.size → Inv (re X s₀ H₀) (pe ++ ip) σ H s → tn i s.heap → (∀ b ∈ fp, H b = none) → W i m n γ σ H →
      Seg (model X.prog X.w) A R (YP X Lk Ad D.yl) n s₀ (.forLoop tg (.ref it) body [] X.env) ((model X.prog X.w).den (.forLoop tg (.ref it) body [] X.env))
        (.ret (fun r => ((match r with | .ok f => (.pure f : Sem Flow) | .error e => .raise e).onRaise (cameBack X.env)).wrap K J gd lv) none (gd false) (lv []) c p [] :: fs) s := by
    intro m
    induction m using Nat.strongRecOn with
    | ind m ih =>
      intro i n γ s₀ s3 σ3 H3 H₀ pe lk ea hn0 I3 st3 fr3 w3
      refine seg_forLoop (fun e => (do noteFrame e X.env; theTreesLotGoes e : Sem Unit).bind fun _ => .raise e) (fun _ => rfl) ?_
      rw [(gl _).over]
      rcases turn i m n γ σ3 H3 w3 with ⟨stop, qn⟩ | ⟨go, N, hN, step⟩
      · refine wpAny_mono (T.done (re X s₀ H₀) rfl rfl rfl hc i (pe ++ ip) s3 σ3 H3 (fun _ _ => False) I3 (stat ea fr3) st3 stop) (fun r s4 ⟨hr, I4⟩ => ?_) fun _ _ z => z.elim
        subst hr
        dsimp only
        refine seg_again rfl ?_
        exact seg_leaf (.ok .next) (k.ok n γ s₀ s4 .next H₀ pe lk ea hn0 ⟨σ3, H3, I4, qn⟩)
      · refine wpAny_mono (T.item (re X s₀ H₀) rfl rfl rfl hc i (pe ++ ip) s3 σ3 H3 (fun _ _ => False) I3 (stat ea fr3) st3 go) (fun r s4 ⟨u, hr, h4⟩ => ?_) fun _ _ z => z.elim
        subst hr
        dsimp only
        refine wpAny_mono h4 (fun _ s5 ⟨x, H5, I5, r5, y5, st5, fr5⟩ => ?_) fun _ _ z => z.elim
        have I5' : Inv (re X s₀ H₀) (pe ++ (ip ++ pinsAt fp s5.heap)) σ3 H5 s5 := by
          rw [← List.append_assoc]
          exact I5.pinned (stat ea fr5) (T.obj _ _ st5)
        refine wpAny_mono ((hg s₀ H₀).run _ s5 σ3 H5 x u _ I5' r5 (step x H5 y5)) (fun _ s6 ⟨σ6, H6, I6, q6⟩ => ?_) fun x s' hx => (gc.nox x s' hx).elim
        have again : ∀ {n' : Nat} {γ' : L2.St} {s₀' s7 : Shared} {σ7 : L2.St} {H7 H₀' : Hp} {pe' : List (Addr × Obj)}, Inv (re X s₀' H₀') (pe' ++ (ip ++ pinsAt fp s5.heap)) σ7 H7 s7 → N n' γ' σ7 H7 → ∃ m', m' < m ∧ Inv (re X s₀' H₀') (pe' ++ ip) σ7 H7 s7 ∧ tn (i + 1) s7.heap ∧ (∀ b ∈ fp, H7 b = none) ∧ W (i + 1) m' n' γ' σ7 H7 := fun {n' γ' s₀' s7 σ7 H7 H₀' pe'} I7 n7 => by
          obtain ⟨m', hm, w7⟩ := hN n' γ' σ7 H7 n7
          have I7' : Inv (re X s₀' H₀') ((pe' ++ ip) ++ pinsAt fp s5.heap) σ7 H7 s7 := by rw [List.append_assoc]; exact I7
          refine ⟨m', hm, I7'.unpinned, T.keep _ _ _ st5 fun b hb o e => (I7'.pin (b, o) (List.mem_append_right _ (List.mem_append_right _ (mem_pinsAt hb e)))).1, fun b hb => ?_, w7⟩
          obtain ⟨o, e, d⟩ := T.obj _ _ st5 b hb
          exact (I7'.pin (b, o) (List.mem_append_right _ (List.mem_append_right _ (mem_pinsAt hb e)))).2.1
        have un : ∀ {s₀' s7 : Shared} {σ7 : L2.St} {H7 H₀' : Hp} {pe' : List (Addr × Obj)}, Inv (re X s₀' H₀') (pe' ++ (ip ++ pinsAt fp s5.heap)) σ7 H7 s7 → Inv (re X s₀' H₀') (pe' ++ ip) σ7 H7 s7 := fun {s₀' s7 σ7 H7 H₀' pe'} I7 => by
          have I7' : Inv (re X s₀' H₀') ((pe' ++ ip) ++ pinsAt fp s5.heap) σ7 H7 s7 := by rw [List.append_assoc]; exact I7
          exact I7'.unpinned
        have gl6 : YC X Ad (ip ++ pinsAt fp s5.heap) A (.forLoop tg (.ref it) body [] X.env) (.ret (fun r => ((match r with | .ok f => (.pure f : Sem Flow) | .error e => .raise e).onRaise (cameBack X.env)).wrap K J gd lv) none (gd false) (lv []) c p [] :: fs) id :=
          { toFC := (gl _).toFC, g := gc.g, ok := gc.ok, ip := fun q hq => by
              rcases List.mem_append.mp hq with hq | hq
              · exact gc.ip q hq
              · obtain ⟨b, hb, e⟩ := List.mem_filterMap.mp hq
                cases eo : s5.heap.get? b with
                | none => rw [eo] at e; cases e
                | some o => rw [eo] at e; cases e; exact ⟨geF b hb, fun z => nAd b hb b z rfl⟩ }
        refine hb.run A Lk Ad (ip ++ pinsAt fp s5.heap) R n γ s₀ _ _ _ _ id id s6 σ6 H6 { D with nx := N, ct := N, bk := D.nx } gl6 ⟨fun n' γ' s₀' s7 f H₀' pe' lk' ea' hn' hs => ?_⟩ ⟨H₀, pe, lk, ea, hn0, I6⟩ q6
        cases f with
        | next =>
          obtain ⟨σ7, H7, I7, n7⟩ := hs
          obtain ⟨m', hm, J7, st7, fr7, w7⟩ := again I7 n7
          exact seg_again rfl (ih m' hm (i + 1) n' γ' s₀' s7 σ7 H7 H₀' pe' lk' ea' hn' J7 st7 fr7 w7)
        | cont =>
          obtain ⟨σ7, H7, I7, n7⟩ := hs
          obtain ⟨m', hm, J7, st7, fr7, w7⟩ := again I7 n7
          exact seg_again rfl (ih m' hm (i + 1) n' γ' s₀' s7 σ7 H7 H₀' pe' lk' ea' hn' J7 st7 fr7 w7)
        | brk =>
          obtain ⟨σ7, H7, I7, q7⟩ := hs
          exact seg_leaf (.ok .next) (k.ok n' γ' s₀' s7 .next H₀' pe' lk' ea' hn' ⟨σ7, H7, un I7, q7⟩)
        | ret v =>
          obtain ⟨x7, σ7, H7, I7, r7, q7⟩ := hs
          exact seg_leaf (.ok (.ret v)) (k.ok n' γ' s₀' s7 (.ret v) H₀' pe' lk' ea' hn' ⟨x7, σ7, H7, un I7, r7, q7⟩)
  exact loop m0 0 n γ s₀ s2 σ H2 H₀ pe lk ea hn0 I2 st2 (fun b hb => (f2 b hb).1) w0
end
end Gk
/-! Code that leaves the table of generators as it is. -/
namespace Gk
open PySem PySem.Spec PyProof.Rows L2 GenW
structure PEg (X : Cx) (e : Expr) (t : TE) : Prop where
  run : ∀ (pins : List (Addr × Obj)) (s : Shared) (σ : L2.St) (H : Hp) (Q : VK), Inv X pins σ H s → t σ H Q → wpAny (model X.prog X.w) X.A (eval e X.env) (fun u s' => EP X pins σ Q u s' ∧ s'.gens = s.gens) X.xe s
structure PTg (X : Cx) (e : Expr) (t : TT) : Prop where
  run : ∀ (pins : List (Addr × Obj)) (s : Shared) (σ : L2.St) (H : Hp) (Q : Bool → Hp → Prop), Inv X pins σ H s → t σ H Q → wpAny (model X.prog X.w) X.A (isTrue e X.env (eval e X.env)) (fun d s' => TP X pins σ Q d s' ∧ s'.gens = s.gens) X.xe s
structure PSg (X : Cx) (st : Stmt) (t : TS) : Prop where
  run : ∀ (pins : List (Addr × Obj)) (s : Shared) (σ : L2.St) (H : Hp) (D : Ends), Inv X pins σ H s → t D σ H → wpAny (model X.prog X.w) X.A (exec st X.env) (fun f s' => SP X pins D f s' ∧ s'.gens = s.gens) X.xe s
structure PSsg (X : Cx) (sts : List Stmt) (t : TS) : Prop where
  run : ∀ (pins : List (Addr × Obj)) (s : Shared) (σ : L2.St) (H : Hp) (D : Ends), Inv X pins σ H s → t D σ H → wpAny (model X.prog X.w) X.A (execs sts X.env) (fun f s' => SP X pins D f s' ∧ s'.gens = s.gens) X.xe s
structure PGg (X : Cx) (tg : Expr) (t : TG) : Prop where
  run : ∀ (pins : List (Addr × Obj)) (s : Shared) (σ : L2.St) (H : Hp) (v : V) (u : Value) (Q : L2.St → Hp → Prop), Inv X pins σ H s → RelV v u → t v σ H Q →
    wpAny (model X.prog X.w) X.A (assign tg X.env u) (fun _ s' => (∃ σ' H', Inv X pins σ' H' s' ∧ Q σ' H') ∧ s'.gens = s.gens) X.xe s
structure PGsg (X : Cx) (es : List Expr) (t : TGs) : Prop where
  run : ∀ (pins : List (Addr × Obj)) (s : Shared) (σ : L2.St) (H : Hp) (vs : List V) (us : List Value) (Q : L2.St → Hp → Prop), Inv X pins σ H s → Vals vs us → t vs σ H Q →
    wpAny (model X.prog X.w) X.A (assignInOrder ((assignEach es X.env).map (·.2)) us) (fun _ s' => (∃ σ' H', Inv X pins σ' H' s' ∧ Q σ' H') ∧ s'.gens = s.gens) X.xe s
section
variable {X : Cx} {pos : Pos}
theorem peg_var {i : Nat} {x : Str} (hN : X.N[i]? = some x) (hv : X.env.scope.names.lookup x = some .local) (hd : (x == ("__debug__" : Str)) = false := by decide) : PEg X (.Name x pos) (tVar i) := by
  refine ⟨fun pins s σ H Q I h => ?_⟩
  obtain ⟨v, e, h⟩ := h
  obtain ⟨m, hn, hl⟩ := I.loc
  obtain ⟨u, r, l⟩ := hl i x v hN e (.inl hv)
  have fin : EP X pins σ Q u s ∧ s.gens = s.gens := ⟨⟨v, H, I, r, h⟩, rfl⟩
  rcases l with ⟨hk, hm⟩ | ⟨hk, _⟩
  · exact wpAny_Name (wpAny_loadName_local I.ok.kind hk hn hm fin) hd
  · have hv' : X.env.kindOf x = some .local := hv
    rcases hk with hk | hk <;> rw [hv'] at hk <;> cases hk
/-- len(x), x a list -/
def rLenG (K : PySem.W.Frag) : List V → Hp → VK → Prop := fun xs H Q => ∃ p ys, xs = [.ref p] ∧ SqL K H p ys ∧ Q (.int ys.length) H
theorem peg_len {e : Expr} {te : TE} {p : Pos} (hg : Gl X "len") (hm : X.mg "len" = none) (he : PEg X e te) (hs : starEach [e] X.env = (false, eval e X.env) :: starEach [] X.env := by rfl) : PEg X (.Call (.Name "len" p) [e] [] pos) (tCB (rLenG X.K) (tCons te tNil)) := by
  refine ⟨fun pins s σ H Q I h => ?_⟩
  refine wpAny_Call_Name_kw (ld_blt I hg hm PySem.boot_len ?_ (by decide) (by decide))
  refine PyProof.Rows.callWith_builtin1 ?_ hs (by rfl)
  rw [hs]
  show wpAny _ _ (spliced ((false, eval e X.env) :: backTo pos (starEach [] X.env))) _ _ s
  refine Calls.spliced_cons (thn (he.run pins s σ H _ I h) fun u s1 ⟨⟨x, H1, I1, r1, q1⟩, g1⟩ => ?_)
  refine Calls.spliced_nil ?_
  obtain ⟨p0, ys, ex, hl, q⟩ := q1
  obtain rfl : x = .ref p0 := (List.cons.inj ex).1
  cases r1
  obtain ⟨its, r', pl, hz⟩ := I1.list hl
  have hlen := r'.length
  have hn := line63
  exact Calls.call_len_list pl.isList (by simp only [List.size_toArray] <;> omega) ⟨⟨.int ys.length, H1, I1.tok _, ⟨s1.toks + 1, by rw [List.size_toArray, hlen]⟩, q⟩, g1⟩
/-- a == b, a != b of whole numbers -/
theorem ptg_eq {a b : Expr} {ta tb : TE} (ha : PEg X a ta) (hb : PEg X b tb) (hm : behindInMarks .Eq b = false) : PTg X (.Compare a [.Eq] [b] pos) (fun σ H Q => ta σ H fun x H1 => tb σ H1 fun y H2 => ∃ i j : Int, x = .int i ∧ y = .int j ∧ Q (i == j) H2) := by
  refine ⟨fun pins s σ H Q I h => ?_⟩
  refine wpAny_isTrue_Compare1 (thn (ha.run pins s σ H _ I h) fun v s1 ⟨⟨x, H1, I1, r1, q1⟩, g1⟩ => thn (hb.run pins s1 σ H1 _ I1 q1) fun u s2 ⟨⟨y, H2, I2, r2, q2⟩, g2⟩ => ?_) hm
  obtain ⟨i, j, rfl, rfl, q⟩ := q2
  obtain ⟨t1, rfl⟩ := r1
  obtain ⟨t2, rfl⟩ := r2
  exact PySem.P.eq_int (wpAny_truthy_bool ⟨⟨H2, I2, q⟩, g2.trans g1⟩)
theorem ptg_ne {a b : Expr} {ta tb : TE} (ha : PEg X a ta) (hb : PEg X b tb) (hm : behindInMarks .NotEq b = false) : PTg X (.Compare a [.NotEq] [b] pos) (fun σ H Q => ta σ H fun x H1 => tb σ H1 fun y H2 => ∃ i j : Int, x = .int i ∧ y = .int j ∧ Q (i != j) H2) := by
  refine ⟨fun pins s σ H Q I h => ?_⟩
  refine wpAny_isTrue_Compare1 (thn (ha.run pins s σ H _ I h) fun v s1 ⟨⟨x, H1, I1, r1, q1⟩, g1⟩ => thn (hb.run pins s1 σ H1 _ I1 q1) fun u s2 ⟨⟨y, H2, I2, r2, q2⟩, g2⟩ => ?_) hm
  obtain ⟨i, j, rfl, rfl, q⟩ := q2
  obtain ⟨t1, rfl⟩ := r1
  obtain ⟨t2, rfl⟩ := r2
  exact PySem.P.ne_int (wpAny_truthy_bool ⟨⟨H2, I2, q⟩, g2.trans g1⟩)
theorem psg_if {c : Expr} {a b : List Stmt} {tc : TT} {t u : TS} (hc : PTg X c tc) (ha : PSsg X a t) (hb : PSsg X b u) : PSg X (.If c a b pos) (tIfS tc t u) := by
  refine ⟨fun pins s σ H D I h => ?_⟩
  refine wpAny_If (thn (hc.run pins s σ H _ I h) fun d s1 ⟨⟨H1, I1, q1⟩, g1⟩ => ?_)
  cases d with
  | true => exact thn (ha.run pins s1 σ H1 D I1 q1) fun f s2 ⟨q, g⟩ => ⟨q, g.trans g1⟩
  | false => exact thn (hb.run pins s1 σ H1 D I1 q1) fun f s2 ⟨q, g⟩ => ⟨q, g.trans g1⟩
theorem psg_break : PSg X (.Break pos) tBreak := ⟨fun _ _ σ H _ I h => wpAny_Break ⟨⟨σ, H, I, h⟩, rfl⟩⟩
def tAppG (tl te : TE) : TS := fun D σ H => tl σ H fun x H1 => ∃ l xs, x = .ref l ∧ H1 l = some (.lst xs) ∧ te σ H1 fun y H2 => ∃ xs2, H2 l = some (.lst xs2) ∧ xs2.length < sizeLine ∧ D.nx σ (upd H2 l (.lst (xs2 ++ [y])))
theorem psg_append {o e : Expr} {to te : TE} {apos cpos : Pos} (ho : PEg X o to) (he : PEg X e te)
    (hbase : attributeBase o "append" X.env (eval o X.env) = eval o X.env := by rfl)
    (hfew : ((backTo cpos (starEach [e] X.env)).all (fun x => !x.1) && (backToKw cpos (keywordEach [] X.env)).all (fun x => x.1.isSome)
      && decide ([e].length + ([] : List Keyword).length + (if ([] : List Keyword).isEmpty then 0 else 1) < 30)) = true := by rfl)
    (hline : (apos.endLine == cpos.line) = true := by rfl) (hs : starEach [e] X.env = (false, eval e X.env) :: starEach [] X.env := by rfl) (hsw : swapsWith (.Call (.Attribute o "append" apos) [e] [] cpos) none pos.line X.env = pure false := by rfl) :
    PSg X (.Expr (.Call (.Attribute o "append" apos) [e] [] cpos) pos) (tAppG to te) := by
  refine ⟨fun pins s σ H D I h => ?_⟩
  refine wpAny_Expr_any ?_ I.quiet hsw
  refine wpAny_Call_method_late hbase hfew hline rfl (thn (ho.run pins s σ H _ I h) fun v s1 ⟨⟨x, H1, I1, r1, l, xs, ex, hl, q1⟩, g1⟩ => ?_)
  subst ex
  obtain ⟨h1, h2⟩ := tyV_is (T := "list") I1 r1 (.inl ⟨rfl, xs, SqL.of hl⟩)
  refine ⟨"list", "list.append", PySem.F.plainAttrs_list, PySem.F.slot_list_append, PySem.F.type_list_append, h1, h2, ?_⟩
  cases r1
  rw [hs]
  refine Calls.callWith_builtin (by rfl) (Calls.evalArgs_plain ?_)
  refine Calls.spliced_cons (thn (he.run pins s1 σ H1 _ I1 q1) fun u s2 ⟨⟨y, H2, I2, r2, xs2, hl2, hz, q2⟩, g2⟩ => ?_)
  refine Calls.spliced_nil ?_
  obtain ⟨z, its, n, r, hln, e2⟩ := I2.lstM hl2
  refine call_meets PySem.F.slot_list_append ⟨_, e2, rfl⟩ PySem.F.entry_list_append (PySem.F.args_list_append_2 _ _) (PySem.list_append l its.toArray n u (by rw [List.size_toArray]; omega)) ⟨e2, ?_⟩
  refine ⟨⟨σ, _, I2.lset (its' := its ++ [u]) hl2 e2 (by simp) (r.append (.cons r2 .nil)) ?_, q2⟩, g2.trans g1⟩
  rw [List.length_append, List.length_singleton]
  omega
theorem pssg_nil : PSsg X [] tNext := ⟨fun pins s σ H D I h => wpAny_execs_nil ⟨⟨σ, H, I, h⟩, rfl⟩⟩
theorem pssg_cons {st : Stmt} {rest : List Stmt} {t u : TS} (h1 : PSg X st t) (h2 : PSsg X rest u) : PSsg X (st :: rest) (tSeq t u) := by
  refine ⟨fun pins s σ H D I h => ?_⟩
  refine wpAny_execs_cons (thn (h1.run pins s σ H { D with nx := u D } I h) fun f s1 ⟨q, g1⟩ => ?_)
  cases f with
  | next =>
    obtain ⟨σ', H', I', q⟩ := q
    exact thn (h2.run pins s1 σ' H' D I' q) fun f s2 ⟨q, g⟩ => ⟨q, g.trans g1⟩
  | ret v => exact ⟨q, g1⟩
  | brk => exact ⟨q, g1⟩
  | cont => exact ⟨q, g1⟩
/-! ### targets -/
theorem pgg_name {i : Nat} {x : Str} (hN : X.N.Nodup) (hi : X.N[i]? = some x) (hx : X.env.scope.names.lookup x = some .local) : PGg X (.Name x pos) (gName i) := by
  refine ⟨fun pins s σ H v u Q I r h => wpAny_assign_Name ?_⟩
  obtain ⟨m, hn, hl⟩ := id I.loc
  have hcls : (X.env.scope.kind == .class || (X.env.scope.kind == .module && X.env.locals != X.env.globals)) = false := by rw [I.ok.kind]; rfl
  have hiσ : i < σ.length := by rw [I.len]; exact (List.getElem?_eq_some_iff.mp hi).1
  have cne := I.cne
  have low : ∀ b o, X.s_0.heap.get? b = some o → b ≠ X.env.locals := fun b o e => Nat.ne_of_lt (Nat.lt_of_lt_of_le (Heap.lt_size e) I.ok.above)
  refine wpAny_storeName_local hx hn (fun h' hn' hs => ⟨⟨_, H, ?_, h⟩, rfl⟩) hcls
  refine ⟨I.ok, I.os, I.bare, ⟨fun b o e n hb hx' => ?_, fun b o e n hb hx' => ?_, I.base.free, fun b o e hx' => ?_, I.base.tups, I.base.frzs, I.base.tbls⟩, ⟨_, hn', fun j y v' e1 e2 e3 => ?_⟩, fun y c e => ?_, I.free, I.freeC, fun p hp => ?_, fun b ob e => ?_, by simpa using I.len⟩
  · rw [hs.2 b (low b o e)]
    exact I.base.keep b o e n hb hx'
  · obtain ⟨sl, e1⟩ := I.base.slot b o e n hb hx'
    exact ⟨sl, by rw [hs.2 b (low b o e)]; exact e1⟩
  · obtain ⟨o', e1⟩ := I.base.there b o e hx'
    exact ⟨o', by rw [hs.2 b (low b o e)]; exact e1⟩
  · by_cases hj : j = i
    · subst hj
      rw [hi] at e1
      cases e1
      rw [List.getElem?_set_self hiσ] at e2
      cases e2
      exact ⟨u, r, .inl ⟨hx, by simp⟩⟩
    · rw [List.getElem?_set_ne (Ne.symm hj)] at e2
      obtain ⟨u', r', q⟩ := hl j y v' e1 e2 e3
      refine ⟨u', r', ?_⟩
      rcases q with ⟨k, e⟩ | ⟨k, c, e, z⟩
      · have ne : y ≠ x := fun e => hj (nodup_ix hN e1 (by rw [e]; exact hi))
        exact .inl ⟨k, by simp [ne, e]⟩
      · exact .inr ⟨k, c, e, z.sameBut hs (cne y c e)⟩
  · obtain ⟨w', z⟩ := I.cell y c e
    exact ⟨w', z.sameBut hs (cne y c e)⟩
  · obtain ⟨e, n, ne, nf, d⟩ := I.pin p hp
    exact ⟨by rw [hs.2 p.1 ne]; exact e, n, ne, nf, d⟩
  · refine (I.hok b ob e).stay (fun c w' hc q => ?_) (fun _ q => q) fun _ _ q => q
    rw [hs.2 c ?_]
    · exact q
    · intro z
      rcases hc with hc | hc
      · rw [← hc, z, I.free] at e
        cases e
      · rw [z, I.free] at hc
        cases hc
theorem pgsg_nil : PGsg X [] gNil := by
  refine ⟨fun pins s σ H vs us Q I r h => ?_⟩
  obtain ⟨rfl, h⟩ := h
  cases r
  exact assignInOrder_nil ⟨⟨σ, H, I, h⟩, rfl⟩
theorem pgsg_cons {e : Expr} {es : List Expr} {t : TG} {u : TGs} (h1 : PGg X e t) (h2 : PGsg X es u)
    (hs : (assignEach (e :: es) X.env).map (·.2) = assign e X.env :: (assignEach es X.env).map (·.2) := by rfl) : PGsg X (e :: es) (gCons t u) := by
  refine ⟨fun pins s σ H vs us Q I r h => ?_⟩
  obtain ⟨v, vr, rfl, h⟩ := h
  cases r with
  | cons r rr =>
    rw [hs]
    refine assignInOrder_cons (thn (h1.run pins s σ H _ _ _ I r h) fun _ s1 ⟨⟨σ1, H1, I1, q1⟩, g1⟩ => ?_)
    exact thn (h2.run pins s1 σ1 H1 _ _ Q I1 rr q1) fun _ s2 ⟨q, g⟩ => ⟨q, g.trans g1⟩
theorem pgg_tup {es : List Expr} {k : Nat} {t : TGs} {n : Nat} (hc : X.calm = true) (h : PGsg X es t)
    (hn : (assignEach es X.env).length = n := by rfl) (hst : (assignEach es X.env).findIdx? (·.1) = none := by rfl) : PGg X (.Tuple es k pos) (gTup X.K n t) := by
  refine ⟨fun pins s σ H v u Q I r hw => ?_⟩
  obtain ⟨a, xs, rfl, hq, hl, hw⟩ := hw
  cases r
  obtain ⟨its, rv, ht, hz⟩ := I.tuple hq
  refine assign_Tuple_tuple (I.ok.hd hc) ht (by simp [hn, ← hl, rv.length]) hst fun h' hx => ?_
  have I1 : Inv X pins σ H { s with heap := h' } := I.kept (t' := s.toks) fun b o e => hx b o (Nat.ne_of_lt (Heap.lt_size e)) e
  exact thn (h.run pins _ σ H xs _ Q I1 (by simpa using rv) hw) fun _ s2 ⟨q, g⟩ => ⟨q, g⟩
end
end Gk
/-! A generator def's promise to a caller that goes on between its items. -/
namespace Gk
open PySem PySem.Spec PyProof.Rows L2 GenW
/-- arguments, heap, how many items at most, what the caller keeps, what is wanted at the end, what is wanted of an item -/
abbrev SpY := List V → Hp → Nat → L2.St → (L2.St → Hp → Prop) → (L2.St → V → Hp → (L2.St → Hp → Prop) → Prop) → Prop
def YRE (X : Cx) (Lk : LK) (dn : L2.St → Hp → Prop) : GenEnd := fun n s₀ r s1 =>
  ((r = .ok (.ret .none) ∨ r = .ok .next) ∧ ∃ γ H₀ pe H, Lk γ H₀ s₀ pe ∧ Went X pe H₀ s₀ H s1 ∧ dn γ H) ∨ ∃ e, r = .error e ∧ False
structure GenX (P : Program) (w : World) (base : Heap) (outer : List Env) (n0 : Nat) (X : Cx) : Prop where
  prog : X.prog = P
  w : X.w = w
  base : X.base = base
  outer : X.outer = outer
  loc : X.env.locals = n0
def YMade (P : Program) (w : World) (base : Heap) (k : Nat) (outer : List Env) (H : Hp) (s : Shared) (n : Nat) (γ : L2.St) (dn : L2.St → Hp → Prop) (yl : L2.St → V → Hp → (L2.St → Hp → Prop) → Prop) (u : Value) (s' : Shared) : Prop :=
  ∃ (a : Addr) (g : Nat) (c : Code) (go : Obj), u = .ref a ∧ s.heap.objs.size < a ∧ s'.heap.get? a = some go ∧ go.cls = .type "generator" ∧ (∃ nm qn, go.data = .fields #[.int g 0, nm, qn]) ∧ go.slots = #[] ∧ s'.gens[g]? = some (.fresh c) ∧ s'.os = s.os ∧ AllBare s'.gens ∧ s'.heap.NoLimit ∧ (∀ b o, s.heap.get? b = some o → s'.heap.get? b = some o) ∧
    ∀ (A : Around), Room k A → A.frames = some outer → ∃ X, GenX P w base outer s.heap.objs.size X ∧ ∀ (Lk : LK) (Ad : List Addr) (s2 : Shared) (pe : List (Addr × Obj)), (∀ b o, s'.heap.get? b = some o → s2.heap.get? b = some o) → Lk γ H s2 pe → On X s2 H → PeOk X Ad pe H s2 →
      Seg (model P w) A (YRE X Lk dn) (YP X Lk Ad yl) n s2 c ((model P w).den c) [] s2
structure GenYd (P : Program) (w : World) (K : PySem.W.Frag) (mg : Str → Option Value) (base : Heap) (k : Nat) (f : Addr) (fd : FuncData) (ps : List Str) (sp : SpY) : Prop where
  len : ∀ vs H n γ dn yl, sp vs H n γ dn yl → vs.length = ps.length
  run : ∀ (A : Around) (outer : List Env) (s : Shared) (H : Hp) (args : Args) (us : List Value) (vs : List V) (n : Nat) (γ : L2.St) (dn : L2.St → Hp → Prop) (yl : L2.St → V → Hp → (L2.St → Hp → Prop) → Prop), Room k A → Env0 P w K mg base A outer s H → BindsTo s fd args (ps.zip us) → Vals vs us → sp vs H n γ dn yl →
    codeAny (model P w) A (.call (.ref f) args) (fun r s' => match r with | .ok (.ret u) => YMade P w base k outer H s n γ dn yl u s' | _ => False) s
/-- the generator as it is made sleeps -/
theorem sleep0 {X : Cx} {H : Hp} {s : Shared} {σ : L2.St} (g : GCx X) (I : Inv X [] σ H s) : ∃ oL, s.heap.get? X.env.locals = some oL ∧ H X.env.locals = none ∧ Slept X [] σ oL := by
  obtain ⟨m, hn, hl⟩ := I.loc
  obtain ⟨o, es, ep, ho, r⟩ := hn
  have hd : o.data = .dict es ep := r.1
  refine ⟨o, ho, I.free, ⟨fun h e => ⟨m, ⟨o, es, ep, e, r⟩, fun i x v a b c => ?_⟩, fun p hp => (by cases hp), fun v z => ?_, ?_, I.len⟩⟩
  · obtain ⟨u, ru, l⟩ := hl i x v a b c
    refine ⟨u, ru, ?_⟩
    rcases l with l | ⟨_, c', e', _⟩
    · exact .inl l
    · rw [g.cells x] at e'
      cases e'
  · rw [hd] at z
    cases z
  · intro hb
    obtain ⟨_, o', e', _⟩ := I.ok.funs.mem hb
    have h1 := Heap.lt_size e'
    rw [g.n0] at h1
    exact absurd h1 (Nat.lt_irrefl _)
theorem gy_of {P : Program} {w : World} {K : PySem.W.Frag} {mg : Str → Option Value} {base : Heap} {k : Nat} {f : Addr} {name qual : Str} {params : Arguments} {body : List Stmt} {scope : Scope} {dV kV doc pm cdv ct oc : Value} {an od : Option Addr}
    {osl : Array (Option Value)} {N ps : List Str} {sp : SpY} (lk : K.lookup f = some ⟨oc, od, .func (PySem.W.fnOf name qual params body scope dV kV doc pm an cdv ct), osl⟩) (hcd : PySem.W.codeIn K cdv qual = true) (S : GScope N ps scope)
    (hcell : ∀ m x, (cellsFrom m scope.names []).lookup x = none)
    (len : ∀ vs H n γ dn yl, sp vs H n γ dn yl → vs.length = ps.length)
    (hbody : ∀ (A : Around) (outer : List Env) (s : Shared) (H : Hp) (vs : List V) (n : Nat) (γ : L2.St) (dn : L2.St → Hp → Prop) (yl : L2.St → V → Hp → (L2.St → Hp → Prop) → Prop), Room k (A.deeper (envOfC qual scope s.heap.objs.size f cdv)) → sp vs H n γ dn yl →
      ∃ t, YSs (fcx P w K mg base N qual scope f cdv A outer s H []) body t ∧ t { nx := fun _ γ _ H' => dn γ H', rt := fun _ γ v H' => v = .non ∧ dn γ H', yl := yl } n γ (start N vs) H) :
    GenYd P w K mg base (k + 1) f (PySem.W.fnOf name qual params body scope dV kV doc pm an cdv ct) ps sp := by
  refine ⟨len, fun A outer s H args us vs n γ dn yl hr e0 hb r hsp => ?_⟩
  have hl := len _ _ _ _ _ _ hsp
  have KX : K.In s.heap := e0.mod.kin.keeps fun b o e => (e0.bs b o e).1
  have lim : s.heap.NoLimit := e0.mod.nolimit.keeps fun b o e => (e0.bs b o e).1
  have hkind : ∀ y ∈ ps.zip us, scope.names.lookup y.1 = some .local ∨ (scope.names.lookup y.1 = some .cell ∧ ((cellsFrom (s.heap.objs.size + 1) scope.names []).lookup y.1).isSome = true) := fun ⟨n, v⟩ hy => by
    rcases S.par n (List.of_mem_zip hy).1 with q | q
    · exact .inl q
    · exact .inr ⟨q, PySem.W.cellsFrom_some _ _ _ (.inl q)⟩
  refine codeAny_call_generator hr.depth (KX _ _ lk) rfl S.co S.gen rfl (PySem.W.codeRec_of KX hcd) (hb _ _ _ _ ?_)
  refine wpAny_newFunctionEnv_cells S.kind hkind fun env he s1 x => ?_
  subst he
  have lim1 : s1.heap.NoLimit := lim.keeps x.toInCall.keep
  refine ⟨lim1, ?_⟩
  obtain ⟨h1, tk, es1, hk1⟩ := x.done
  have os1 : s1.os = s.os := by rw [es1]
  have gen1 : s1.gens = s.gens := by rw [es1]
  have lt1 : s.heap.objs.size < s1.heap.objs.size := x.toInCall.ns.lt
  have kp1 : ∀ b o, s.heap.get? b = some o → s1.heap.get? b = some o := x.toInCall.keep
  have main : ∀ (go : Obj) (nm qn : Value) (tk2 : Nat), go.cls = .type "generator" → go.data = .fields #[.int s1.gens.size 0, nm, qn] → go.slots = #[] → (∀ h : Heap, (h.push go).get? h.objs.size = some go) →
      YMade P w base (k + 1) outer H s n γ dn yl (.ref s1.heap.objs.size) { s1 with gens := s1.gens.push (.fresh (.func body (envOfC qual scope s.heap.objs.size f cdv))), toks := tk2, heap := s1.heap.push go } := by
    intro go nm qn tk2 hgc hgd0 hgs hgp
    refine ⟨s1.heap.objs.size, s1.gens.size, _, go, rfl, lt1, hgp _, hgc, ⟨nm, qn, hgd0⟩, hgs, Array.getElem?_push_size .., os1, AllBare.push (by rw [gen1]; exact e0.bare) rfl, lim1.keeps fun b o e => Heap.get?_push_of_some _ e, fun b o e => Heap.get?_push_of_some _ (kp1 b o e), ?_⟩
    intro Aw hrw hfr
    have g : GCx (fcx P w K mg base N qual scope f cdv Aw outer s H []) := ⟨rfl, rfl, rfl, rfl, fun x => hcell _ x, fun _ _ z => z⟩
    have e0w : Env0 P w K mg base Aw outer s H := ⟨hfr, e0.mod, e0.bs, e0.bsz, e0.funs, e0.frf, e0.hok, e0.bare⟩
    have I1 : Inv (gcxOf P w K mg base N qual scope f cdv Aw outer s H L2.E0 []) [] (start N vs) H s1 := inv_startG S hrw.hd e0w hl r x
    have G1 : Inv (fcx P w K mg base N qual scope f cdv Aw outer s H []) [] (start N vs) H s1 := Inv.wish (X := gcxOf P w K mg base N qual scope f cdv Aw outer s H L2.E0 []) I1 _
    obtain ⟨oL, hL, nL, SL⟩ := sleep0 g G1
    refine ⟨fcx P w K mg base N qual scope f cdv Aw outer s H [], ⟨rfl, rfl, rfl, rfl, rfl⟩, fun Lk Ad s2 pe hk2 lk2 on po => ?_⟩
    obtain ⟨t, ht, hq⟩ := hbody Aw outer s H vs n γ dn yl (hrw.deeper _) hsp
    have hL2 := hk2 _ _ (Heap.get?_push_of_some go hL)
    have I2 := waked g G1.ok on SL hL2 nL (fun p hp => (by cases hp)) po.2
    have yc : YC (fcx P w K mg base N qual scope f cdv Aw outer s H []) Ad [] Aw (.func body (envOfC qual scope s.heap.objs.size f cdv)) [] id := { toFC := ⟨over_func, rfl, rfl, rfl, fun _ _ z => z⟩, g := g, ok := G1.ok, ip := fun p hp => (by cases hp) }
    refine seg_func ?_
    refine ht.run Aw Lk Ad [] _ n γ s2 _ [] _ _ id id s2 (start N vs) H _ yc ⟨fun n' γ' s₀ s' fl H₀ pe' lk' ea' hn' hs => ?_⟩ ⟨H, pe, lk2, po.1, Nat.le_of_lt (Heap.lt_size hL2), I2⟩ hq
    have back : ∀ {σ' : L2.St} {H' : Hp}, Inv (re (fcx P w K mg base N qual scope f cdv Aw outer s H []) s₀ H₀) (pe' ++ []) σ' H' s' → Went (fcx P w K mg base N qual scope f cdv Aw outer s H []) pe' H₀ s₀ H' s' := fun {σ' H'} J =>
      ⟨J.os, J.bare, J.base, J.hok, fun p hp => let ⟨a, b, _⟩ := J.pin p (List.mem_append_right _ (List.mem_append_left _ hp)); ⟨a, b⟩⟩
    cases fl with
    | next =>
      obtain ⟨σ', H', J, hQ⟩ := hs
      exact seg_end (.ok (.ret .none)) (.inl ⟨.inl rfl, γ', H₀, pe', H', lk', back J, hQ⟩)
    | brk => obtain ⟨_, _, _, q⟩ := hs; exact False.elim q
    | cont => obtain ⟨_, _, _, q⟩ := hs; exact False.elim q
    | ret u =>
      obtain ⟨v, σ', H', J, rv, ev, hQ⟩ := hs
      subst ev
      have eu : u = Value.none := rv
      subst eu
      exact seg_end (.ok (.ret .none)) (.inl ⟨.inl rfl, γ', H₀, pe', H', lk', back J, hQ⟩)
  exact main _ _ _ _ rfl rfl rfl fun h => Heap.get?_push_size _ rfl
theorem gY_ok {P : Program} {w : World} {K : PySem.W.Frag} {mg : Str → Option Value} {base : Heap} {x qual : Str} {st : Stmt} {f : Addr} {fd : FuncData} {N ps : List Str} {k : Nat} {sp : SpY} (F : L2.Fun K x qual st f fd) (S : GScope N ps (defScope st))
    (hcell : ∀ m x, (cellsFrom m (defScope st).names []).lookup x = none) (len : ∀ vs H n γ dn yl, sp vs H n γ dn yl → vs.length = ps.length)
    (hbody : ∀ (cdv : Value) (A : Around) (outer : List Env) (s : Shared) (H : Hp) (vs : List V) (n : Nat) (γ : L2.St) (dn : L2.St → Hp → Prop) (yl : L2.St → V → Hp → (L2.St → Hp → Prop) → Prop), Room k (A.deeper (envOfC qual (defScope st) s.heap.objs.size f cdv)) → sp vs H n γ dn yl →
      ∃ t, YSs (fcx P w K mg base N qual (defScope st) f cdv A outer s H []) (defBody st) t ∧ t { nx := fun _ γ _ H' => dn γ H', rt := fun _ γ v H' => v = .non ∧ dn γ H', yl := yl } n γ (start N vs) H) :
    GenYd P w K mg base (k + 1) f fd ps sp := by
  obtain ⟨oc, od, kV, doc, pm, an, cdv, ct, osl, rfl, lk, hcd⟩ := F.ex
  exact gy_of lk hcd S hcell len fun A outer s H vs n γ dn yl hr h => hbody cdv A outer s H vs n γ dn yl hr h
structure Dgy (P : Program) (w : World) (K : PySem.W.Frag) (mg : Str → Option Value) (base : Heap) (k : Nat) (x : Str) (ps : List Str) (sp : SpY) : Prop where
  ex : ∃ (f : Addr) (fd : FuncData), GenYd P w K mg base k f fd ps sp ∧ mg x = some (.ref f) ∧ PySem.W.keepIn K (.ref f) = true ∧ Binds K fd ps []
end Gk
/-! for x in f(..): .., the generator going on turn by turn. -/
namespace Gk
open PySem PySem.Spec PyProof.Rows L2 GenW
section
variable {X X' : Cx} {pins pe : List (Addr × Obj)} {γ : L2.St} {H H₀ : Hp} {s s₀ : Shared} {n0 : Nat}
/-- the caller behind a turn of the generator -/
theorem turn_back (I : Inv X pins γ H₀ s₀) (gx : GenX X.prog X.w X.base X.stack n0 X') (hlow : X.env.locals < n0) (hcells : ∀ x c, X.env.cells.lookup x = some c → c < n0) (hpins : ∀ p ∈ X.pn ++ pins, p.1 < n0) (W : Went X' pe H₀ s₀ H s)
    {s' : Shared} (es : s'.heap = s.heap) (eo : s'.os = s.os) (eg : AllBare s'.gens) : Inv X pins γ H s' := by
  have hfs : X'.fs = frs X.stack := by
    show frs X'.outer = _
    rw [gx.outer]
  have un := W.un
  rw [hfs, gx.loc] at un
  have low : ∀ {b : Addr} {o : Obj}, s₀.heap.get? b = some o → b ∉ (List.range s₀.heap.objs.size).filter (fun b => decide (n0 ≤ b)) → (cut s₀.heap n0).get? b = some o := fun {b o} e hb => by
    refine cut_of ?_ e
    rcases Nat.lt_or_ge b n0 with z | z
    · exact z
    · exact absurd (List.mem_filter.mpr ⟨List.mem_range.mpr (Heap.lt_size e), decide_eq_true z⟩) hb
  have hok : HOk X.prog X.w H s'.heap := by
    have := W.hok
    rw [gx.prog, gx.w] at this
    rw [es]
    exact this
  refine I.call' (ch := (List.range s₀.heap.objs.size).filter (fun b => decide (n0 ≤ b))) (eo.trans W.os) ?_ hok eg fun b hb => ?_
  · rw [es]
    exact ⟨fun b o e n hb hc => un.keep b o (low e hc) n hb (by simp), fun b o e n hb hc => un.slot b o (low e hc) n hb (by simp), fun b o e n hc => un.free b o (low e hc) n (by simp), fun b o e hc => un.there b o (low e hc) (by simp), un.tups, un.frzs, un.tbls⟩
  · have hge : n0 ≤ b := of_decide_eq_true (List.mem_filter.mp hb).2
    refine ⟨.inr (Nat.le_trans I.ok.above (Nat.le_trans (Nat.le_of_lt hlow) hge)), fun z => ?_, fun x c e z => ?_, fun p hp z => ?_⟩
    · rw [z] at hge
      exact absurd hlow (Nat.not_lt.mpr hge)
    · have := hcells x c e
      rw [z] at this
      exact absurd this (Nat.not_lt.mpr hge)
    · have := hpins p hp
      rw [z] at this
      exact absurd this (Nat.not_lt.mpr hge)
theorem on_of (I : Inv X pins γ H s) (gx : GenX X.prog X.w X.base X.stack n0 X') : On X' s H := by
  have e := I.env0
  have hfs : X'.fs = frs X.stack := by
    show frs X'.outer = _
    rw [gx.outer]
  refine ⟨fun b o h => e.bs b o (by rw [← gx.base]; exact h), by rw [gx.base]; exact e.bsz, by rw [gx.base, gx.outer]; exact e.funs, fun b hb => e.frf b (by rw [← hfs]; exact hb), by rw [gx.prog, gx.w]; exact e.hok, e.bare⟩
theorem inv_gens {s' : Shared} (I : Inv X pins γ H s) (eh : s'.heap = s.heap) (eo : s'.os = s.os) (eg : AllBare s'.gens) : Inv X pins γ H s' :=
  I.call' (ch := []) eo (by rw [eh]; exact Un.refl) (by rw [eh]; exact I.hok) eg fun b z => by cases z
end
section
variable {X : Cx} {k : Nat} {f : Addr} {fd : FuncData} {ps : List Str} {sp : SpY} {x : Str} {p pos fpos : Pos} {e : Expr} {es : List Expr} {t : TA} {tg : Expr} {g : TG} {tb : TS} {body : List Stmt}
def tForY (sp : SpY) (t : TA) (g : TG) (tb : TS) : TS := fun D σ H => t σ H fun vs H1 => ∃ n, sp vs H1 n σ (fun γ H2 => D.nx γ H2) (fun γ v H2 k => g v γ H2 fun σ3 H3 => tb { D with nx := k, ct := k, bk := D.nx } σ3 H3)
theorem ps_forY (F : GenYd X.prog X.w X.K X.mg X.base k f fd ps sp) (hr : Room (k + 3) X.A) (hx : Gl X x) (hm : X.mg x = some (.ref f)) (hk : PySem.W.keepIn X.K (.ref f) = true) (hbn : Binds X.K fd ps [])
    (ha : PA X (e :: es) t) (hp : PassesOwn (model X.prog X.w) X.A X.env X.xe) (hc : X.calm = true) (hg : PGg X tg g) (hb : PSsg X body tb)
    (hdb : (x == ("__debug__" : Str)) = false := by decide) (he : starEach (e :: es) X.env = (false, eval e X.env) :: starEach es X.env := by rfl) (hpl : (backTo pos (starEach es X.env)).any (·.1) = false := by rfl)
    (hs : ∀ v, foldedSetIterable (.Call (.Name x p) (e :: es) [] pos) X.env v = pure v := by intro _; rfl) :
    PS X (.For tg (.Call (.Name x p) (e :: es) [] pos) body [] fpos) (tForY sp t g tb) := by
  refine ⟨fun pins s σ H D I h => ?_⟩
  refine wpAny_For ?_ hs
  refine wpAny_Call_Name_kw (ld_glob I hx hm ?_ hdb)
  refine PySem.W.callWith_K (h₀ := X.base) I.ok.mod.kin hk (thn (ha.run pos pins s σ H _ I h) fun us s1 ⟨vs, H1, I1, r1, n, q1⟩ => ⟨I1.kIn, ?_⟩) he hpl
  have hl : (us ++ []).length = ps.length := by rw [List.append_nil, ← r1.length]; exact F.len _ _ _ _ _ _ q1
  have b := hbn s1 us I1.kIn hl
  rw [List.append_nil] at b
  refine wpAny_call (codeAny_mono (F.run X.A X.stack s1 H1 ⟨us, []⟩ us vs n σ _ _ (hr.mono (by omega)) I1.env0 b r1 q1) fun res s2 hq => ?_)
  cases res with
  | error er => exact False.elim hq
  | ok fl =>
    cases fl with
    | brk => exact False.elim hq
    | cont => exact False.elim hq
    | next => exact False.elim hq
    | ret u =>
      obtain ⟨a, gi, c, go, rfl, ha1, hgo, hgc, ⟨nm, qn, hgd⟩, hgs, hfr, hos, hbare, hlim, hkp, wake⟩ := hq
      have isg : ∀ h : Heap, h.get? a = some go → h.IsGen a gi := fun h e => ⟨go, nm, qn, e, hgc, hgd, hgs⟩
      refine wpAny_pyIter_gen (isg _ hgo) ?_
      have rm : Room k X.A.in1 := ⟨hr.hd, by have := hr.dp; show X.A.depth + 3 * k + 5 < _; omega, by have := hr.un; show X.A.units + 1 + 16 * k + 200 < _; omega⟩
      have dep : X.A.depth < recursionLimit := by have := hr.dp; omega
      obtain ⟨X', gx, seg⟩ := wake X.A.in1 rm I1.ok.frames
      have hlow : X.env.locals < s1.heap.objs.size := I1.lt
      have hcells : ∀ y c, X.env.cells.lookup y = some c → c < s1.heap.objs.size := fun y c e => by
        obtain ⟨v, z⟩ := I1.cell y c e
        exact z.lt
      have hpins : ∀ q ∈ X.pn ++ pins, q.1 < s1.heap.objs.size := fun q hq => Heap.lt_size (I1.pin q hq).1
      have hfsl : ∀ z ∈ X.fs, z < s1.heap.objs.size := fun z hz => by
        obtain ⟨_, o, ho, _⟩ := I1.ok.funs.mem hz
        exact Nat.lt_of_lt_of_le (Heap.lt_size ho) I1.sz
      have hfs' : X'.fs = frs X.stack := by
        show frs X'.outer = _
        rw [gx.outer]
      have hstk : ∀ z ∈ frs X.stack, z < s1.heap.objs.size := fun z hz => by
        rcases List.mem_cons.mp (I1.stkSub z hz) with q | q
        · rw [q]; exact hlow
        · exact hfsl z q
      have nocell : ∀ v, go.data ≠ .cell v := fun v z => by rw [hgd] at z; cases z
      have na1 : H1 a = none := I1.hok.fresh (Nat.le_of_lt ha1)
      have I2 : Inv X pins σ H1 s2 := I1.call' (ch := []) hos (Un.kept hkp) (I1.hok.kept hkp) hbare fun b z => by cases z
      -- what links the two
      have peOk : ∀ {H' : Hp} {s' : Shared}, s'.heap.get? a = some go → H' a = none → PeOk X' [a] [(a, go)] H' s' := fun {H' s'} e n => ⟨rfl, fun q hq => by
        rw [List.mem_singleton.mp hq]
        refine ⟨e, n, ?_, ?_, nocell⟩
        · rw [gx.loc]
          exact Nat.ne_of_gt ha1
        · rw [hfs']
          exact fun z => absurd (hstk a z) (Nat.not_lt.mpr (Nat.le_of_lt ha1))⟩
      refine codeAny_forLoop_any (fun m s' => ∃ γ H' gs, Inv X pins γ H' s' ∧ s'.heap.get? a = some go ∧ H' a = none ∧ s'.gens[gi]? = some gs ∧
        gs.Goes (model X.prog X.w) X.A.in1 (YRE X' (fun γ H s pe => Inv X pins γ H s ∧ pe = [(a, go)]) (fun γ H2 => D.nx γ H2)) (YP X' (fun γ H s pe => Inv X pins γ H s ∧ pe = [(a, go)]) [a] (fun γ v H2 k => g v γ H2 fun σ3 H3 => tb { D with nx := k, ct := k, bk := D.nx } σ3 H3)) m (.send .none) (s'.setGen gi .running)) ?_ n ?_
      · rintro m s3 ⟨γ, H3, gs, I3, hgo3, na3, hg3, goes⟩
        have hgl : gi < s3.gens.size := (Array.getElem?_eq_some_iff.mp hg3).1
        refine wpAny_passesOwn hp (wpAny_gsz (n := gi + 1) hgl (next_genG (F := fun _ s₀ s₁ => ∃ γ H₀ pe H, (Inv X pins γ H₀ s₀ ∧ pe = [(a, go)]) ∧ Went X' pe H₀ s₀ H s₁ ∧ D.nx γ H) (Er := fun _ _ => False) (I3.ok.hd hc) I3.nolimit dep (isg _ hgo3) hg3 goes (fun v s₁ gs' hbg hv => ?_) (fun s₁ hf h' hk' => ?_) fun e s₁ z => z.elim))
        · intro hsz
          obtain ⟨γ1, H₀, H4, pe, hl, y, kk, ⟨J0, epe⟩, rv, W, hhl, q, kap⟩ := hv
          subst epe
          have J : Inv X pins γ1 H4 (s₁.setGen gi gs') := turn_back J0 gx hlow hcells hpins W rfl rfl (allBare_setGen W.bare hbg)
          obtain ⟨hgo4, na4⟩ := W.pe (a, go) (List.mem_singleton.mpr rfl)
          have hgi : gi < s₁.gens.size := by
            have q : (s₁.setGen gi gs').gens.size = s₁.gens.size := setGen_size _ _ _
            have : gi + 1 ≤ (s₁.setGen gi gs').gens.size := hsz
            omega
          have pinsOk : ∀ q ∈ pins ++ ((a, go) :: hl), (s₁.setGen gi gs').heap.get? q.1 = some q.2 ∧ H4 q.1 = none ∧ q.1 ≠ X.env.locals ∧ q.1 ∉ X.fs ∧ ∀ v, q.2.data ≠ .cell v := fun q hq => by
            have big : s1.heap.objs.size ≤ q.1 → q.1 ≠ X.env.locals ∧ q.1 ∉ X.fs := fun z => ⟨fun w => absurd hlow (Nat.not_lt.mpr (by rw [← w]; exact z)), fun w => absurd (hfsl _ w) (Nat.not_lt.mpr z)⟩
            rcases List.mem_append.mp hq with hq | hq
            · exact J.pin q (List.mem_append_right _ hq)
            · rcases List.mem_cons.mp hq with rfl | hq
              · exact ⟨hgo4, na4, (big (Nat.le_of_lt ha1)).1, (big (Nat.le_of_lt ha1)).2, nocell⟩
              · obtain ⟨h1, h2, h3, _, h4⟩ := hhl q hq
                rw [gx.loc] at h3
                exact ⟨h1, h2, (big h3).1, (big h3).2, h4⟩
          have J' : Inv X (pins ++ ((a, go) :: hl)) γ1 H4 (s₁.setGen gi gs') := J.pins_of pinsOk
          refine go_of (s := s₁.setGen gi gs') (o := go) (n := "generator") hgo4 hgc hgd (by decide) ?_
          refine wpAny_passesOwn hp (thn (hg.run _ _ γ1 H4 y v _ J' rv q) fun _ s6 ⟨⟨σ6, H6, I6, q6⟩, g6⟩ => ?_)
          refine wpAny_passesOwn hp (thn (hb.run _ s6 σ6 H6 _ I6 q6) fun f s7 ⟨q7, g7⟩ => ?_)
          have eg : s7.gens[gi]? = some gs' := by
            rw [g7, g6]
            exact setGen_at hgi
          have unp : ∀ {σ' : L2.St} {H' : Hp}, Inv X (pins ++ ((a, go) :: hl)) σ' H' s7 → Inv X pins σ' H' s7 := fun {σ' H'} K7 => K7.pins_of fun q hq => K7.pin q (List.mem_append_right _ (List.mem_append_left _ hq))
          have again : ∀ {σ' : L2.St} {H' : Hp}, Inv X (pins ++ ((a, go) :: hl)) σ' H' s7 → kk σ' H' → ∃ m', m' < m ∧ ∃ γ H' gs, Inv X pins γ H' s7 ∧ s7.heap.get? a = some go ∧ H' a = none ∧ s7.gens[gi]? = some gs ∧
              gs.Goes (model X.prog X.w) X.A.in1 (YRE X' (fun γ H s pe => Inv X pins γ H s ∧ pe = [(a, go)]) (fun γ H2 => D.nx γ H2)) (YP X' (fun γ H s pe => Inv X pins γ H s ∧ pe = [(a, go)]) [a] (fun γ v H2 k => g v γ H2 fun σ3 H3 => tb { D with nx := k, ct := k, bk := D.nx } σ3 H3)) m' (.send .none) (s7.setGen gi .running) := fun {σ' H'} K7 hkk => by
            obtain ⟨b1, b2, _⟩ := K7.pin (a, go) (List.mem_append_right _ (List.mem_append_right _ List.mem_cons_self))
            have K8 : Inv X pins σ' H' (s7.setGen gi .running) := inv_gens (unp K7) rfl rfl (allBare_setGen K7.bare rfl)
            have z := kap σ' H' (s7.setGen gi .running) [(a, go)] hkk ⟨K8, rfl⟩ (on_of K8 gx) (peOk b1 b2) fun q hq => by
              obtain ⟨c1, c2, _⟩ := K7.pin q (List.mem_append_right _ (List.mem_append_right _ (List.mem_cons_of_mem _ hq)))
              exact ⟨c1, c2⟩
            cases m with
            | zero => exact z.elim
            | succ m => exact ⟨m, Nat.lt_succ_self m, σ', H', gs', unp K7, b1, b2, eg, z⟩
          cases f with
          | next => obtain ⟨σ', H', K7, z⟩ := q7; exact again K7 z
          | cont => obtain ⟨σ', H', K7, z⟩ := q7; exact again K7 z
          | brk => obtain ⟨σ', H', K7, z⟩ := q7; exact ⟨σ', H', unp K7, z⟩
          | ret v => obtain ⟨v', σ', H', K7, rv', z⟩ := q7; exact ⟨v', σ', H', unp K7, rv', z⟩
        · intro _
          obtain ⟨γ1, H₀, pe, H4, ⟨J0, epe⟩, W, q⟩ := hf
          have J1 : Inv X pins γ1 H4 (s₁.setGen gi .finished) := turn_back J0 gx hlow hcells hpins W rfl rfl (allBare_setGen W.bare rfl)
          have J : Inv X pins γ1 H4 { s₁.setGen gi .finished with heap := h' } := J1.kept (t' := s₁.toks) hk'
          exact wpAny_execs_nil ⟨γ1, H4, J, q⟩
      · have I3 : Inv X pins σ H1 (s2.setGen gi .running) := inv_gens I2 rfl rfl (allBare_setGen hbare rfl)
        exact ⟨σ, H1, _, I2, hgo, na1, hfr, rfl, seg _ [a] (s2.setGen gi .running) [(a, go)] (fun _ _ z => z) ⟨I3, rfl⟩ (on_of I3 gx) (peOk hgo na1)⟩
end
end Gk
/-! Whatever runs without asking a sleeping generator leaves it as it is: run it with all that sleep made ones that can't be woken. -/
namespace Gk
open PySem PySem.Spec PyProof.Rows L2 GenW
/-- a sleeping generator that looks the same, and can't be woken -/
def deaf : GenState → GenState
  | .suspended _ l c p fs cl => .suspended (fun _ => .unsupported "") l c p fs cl
  | y => y
def asleep : GenState → Bool
  | .suspended .. => true
  | _ => false
theorem deaf_seen (x : GenState) : (deaf x).seen = x.seen := by cases x <;> rfl
theorem deaf_bare (x : GenState) : (deaf x).bare = x.bare := by cases x <;> rfl
theorem deaf_asleep (x : GenState) : asleep (deaf x) = asleep x := by cases x <;> rfl
theorem deaf_awake {x : GenState} (h : asleep x = false) : deaf x = x := by
  cases x <;> first | rfl | cases h
theorem runs_unsup0 {M : Model} {Γ : PySem.Ctx} {p : Pos} {w : String} {s s' : Shared} {e : End} : ¬ Runs M Γ p (.unsupported w) [] s e s' := fun h => by cases h
theorem runs_unsup {M : Model} {Γ : PySem.Ctx} {p : Pos} {w : String} {fs : List Frame} {s s' : Shared} {e : End} : ¬ Runs M Γ p (.unsupported w) fs s e s' := fun h => by
  cases h with
  | segRet h _ => exact runs_unsup0 h
  | segGen h _ => exact runs_unsup0 h
  | segSuspOut _ h => exact runs_unsup0 h
  | segSuspGen _ h _ _ => exact runs_unsup0 h
/-- whether the entry i of a table is asleep -/
def slp (old : Array GenState) (i : Nat) : Bool := (old[i]?).elim false asleep
/-- the sleeping ones of an old table put back -/
def pick (old : Array GenState) (i : Nat) (y : GenState) : GenState := if slp old i then (old[i]?).getD y else y
def mend (old gs : Array GenState) : Array GenState := Array.ofFn fun i : Fin gs.size => pick old i.1 gs[i.1]
theorem mend_size (old gs : Array GenState) : (mend old gs).size = gs.size := by simp [mend]
theorem mend_at (old gs : Array GenState) (i : Nat) : (mend old gs)[i]? = (gs[i]?).map (pick old i) := by
  by_cases h : i < gs.size
  · rw [Array.getElem?_eq_getElem (by rw [mend_size]; exact h), Array.getElem?_eq_getElem h]
    simp [mend]
  · rw [Array.getElem?_eq_none (by rw [mend_size]; omega), Array.getElem?_eq_none (by omega)]
    rfl
theorem arr_ext {a b : Array GenState} (h : ∀ i : Nat, a[i]? = b[i]?) : a = b := Array.ext_getElem? h
structure Dead (old gs : Array GenState) : Prop where
  was : ∀ (i : Nat) x, old[i]? = some x → asleep x = true → gs[i]? = some (deaf x)
  new : ∀ (i : Nat) k l c p fs cl, gs[i]? = some (.suspended k l c p fs cl) → slp old i = false → splitAtGen fs = none
theorem pick_awake {old : Array GenState} {i : Nat} {y : GenState} (h : slp old i = false) : pick old i y = y := by
  unfold pick
  rw [h]
  rfl
theorem slp_is {old : Array GenState} {i : Nat} (h : slp old i = true) : ∃ x, old[i]? = some x ∧ asleep x = true := by
  unfold slp at h
  cases e : old[i]? with
  | none => rw [e] at h; cases h
  | some x => rw [e] at h; exact ⟨x, rfl, h⟩
theorem slp_of {old : Array GenState} {i : Nat} {x : GenState} (e : old[i]? = some x) (h : asleep x = true) : slp old i = true := by
  unfold slp
  rw [e]
  exact h
theorem mend_set {old gs : Array GenState} {i : Nat} {y : GenState} (h : slp old i = false) : mend old (gs.setIfInBounds i y) = (mend old gs).setIfInBounds i y := by
  refine arr_ext fun j => ?_
  rw [mend_at, Array.getElem?_setIfInBounds, Array.getElem?_setIfInBounds, mend_at, mend_size]
  by_cases e : i = j
  · subst e
    rw [if_pos rfl, if_pos rfl]
    by_cases c : i < gs.size
    · rw [if_pos c]
      exact congrArg some (pick_awake h)
    · rw [if_neg c]
      rfl
  · rw [if_neg e, if_neg e]
theorem mend_push {old gs : Array GenState} {y : GenState} (h : slp old gs.size = false) : mend old (gs.push y) = (mend old gs).push y := by
  refine arr_ext fun j => ?_
  rw [mend_at, Array.getElem?_push, Array.getElem?_push, mend_size, mend_at]
  by_cases e : j = gs.size
  · subst e
    rw [if_pos rfl, if_pos rfl]
    exact congrArg some (pick_awake h)
  · rw [if_neg e, if_neg e]
theorem Dead.last {old gs : Array GenState} (D : Dead old gs) : slp old gs.size = false := by
  cases e : slp old gs.size with
  | false => rfl
  | true =>
    obtain ⟨x, h1, h2⟩ := slp_is e
    have := D.was _ x h1 h2
    rw [Array.getElem?_eq_none (Nat.le_refl _)] at this
    cases this
theorem Dead.set {old gs : Array GenState} {i : Nat} {y : GenState} (D : Dead old gs) (h : slp old i = false) (hy : ∀ k l c p fs cl, y = .suspended k l c p fs cl → splitAtGen fs = none) : Dead old (gs.setIfInBounds i y) where
  was := fun j x e a => by
    have ne : i ≠ j := fun z => by rw [z, slp_of e a] at h; cases h
    rw [Array.getElem?_setIfInBounds, if_neg ne]
    exact D.was j x e a
  new := fun j k l c p fs cl e a => by
    rw [Array.getElem?_setIfInBounds] at e
    by_cases z : i = j
    · rw [if_pos z] at e
      by_cases q : i < gs.size
      · rw [if_pos q] at e
        exact hy k l c p fs cl (Option.some.inj e)
      · rw [if_neg q] at e
        cases e
    · rw [if_neg z] at e
      exact D.new j k l c p fs cl e a
theorem Dead.push {old gs : Array GenState} {c' : Code} (D : Dead old gs) : Dead old (gs.push (.fresh c')) where
  was := fun j x e a => by
    have q := D.was j x e a
    have hj := (Array.getElem?_eq_some_iff.mp q).1
    rw [Array.getElem?_push, if_neg (Nat.ne_of_lt hj)]
    exact q
  new := fun j k l c p fs cl e a => by
    rw [Array.getElem?_push] at e
    by_cases z : j = gs.size
    · rw [if_pos z] at e
      cases e
    · rw [if_neg z] at e
      exact D.new j k l c p fs cl e a
theorem Dead.deafs (old : Array GenState) : Dead old (old.map deaf) where
  was := fun i x e _ => by rw [Array.getElem?_map, e]; rfl
  new := fun i k l c p fs cl e a => by
    rw [Array.getElem?_map] at e
    cases h : old[i]? with
    | none => rw [h] at e; cases e
    | some x =>
      rw [h] at e
      have e : deaf x = .suspended k l c p fs cl := Option.some.inj e
      have z : asleep x = true := by rw [← deaf_asleep, e]; rfl
      rw [slp_of h z] at a
      cases a
theorem mend_deafs (old : Array GenState) : mend old (old.map deaf) = old := by
  refine arr_ext fun i => ?_
  rw [mend_at, Array.getElem?_map]
  cases h : old[i]? with
  | none => rfl
  | some x =>
    refine congrArg some ?_
    show pick old i (deaf x) = x
    cases a : asleep x with
    | true =>
      unfold pick
      rw [slp_of h a, h]
      rfl
    | false =>
      have : slp old i = false := by unfold slp; rw [h]; exact a
      rw [pick_awake this, deaf_awake a]
theorem bare_deafs {old : Array GenState} (h : AllBare old) : AllBare (old.map deaf) := fun y hy => by
  obtain ⟨x, hx, rfl⟩ := Array.mem_map.mp hy
  rw [deaf_bare]
  exact h x hx
theorem bare_mend {old gs : Array GenState} (h : AllBare old) (hg : AllBare gs) : AllBare (mend old gs) := fun y hy => by
  obtain ⟨i, hi⟩ := Array.mem_iff_getElem?.mp hy
  rw [mend_at] at hi
  cases e : gs[i]? with
  | none => rw [e] at hi; cases hi
  | some z =>
    rw [e] at hi
    have hi : pick old i z = y := Option.some.inj hi
    cases a : slp old i with
    | false =>
      rw [pick_awake a] at hi
      rw [← hi]
      exact hg z (Array.mem_of_getElem? e)
    | true =>
      obtain ⟨x, h1, _⟩ := slp_is a
      unfold pick at hi
      rw [a, h1] at hi
      have hi : x = y := hi
      rw [← hi]
      exact h x (Array.mem_of_getElem? h1)
def mnd (old : Array GenState) (s : Shared) : Shared := { s with gens := mend old s.gens }
theorem split_app : ∀ {a b : List Frame}, splitAtGen a = none → splitAtGen b = none → splitAtGen (a ++ b) = none
  | [], _, _, h => h
  | .ret k h g l c p kp :: a, b, h1, h2 => by
    have h1 : (splitAtGen a).map _ = none := h1
    have h1 : splitAtGen a = none := by simpa using h1
    show (splitAtGen (a ++ b)).map _ = none
    rw [split_app h1 h2]
    rfl
  | .gen g k l c p :: a, b, h1, _ => by cases h1
theorem split_ret {k h g l c p kp} {fs : List Frame} (e : splitAtGen (.ret k h g l c p kp :: fs) = none) : splitAtGen fs = none := by
  have e : (splitAtGen fs).map _ = none := e
  simpa using e
def NoG : End → Prop
  | .ret _ => True
  | .susp _ _ _ _ _ _ fs => splitAtGen fs = none
theorem NoG.st {e : End} (h : NoG e) : ∀ k l c p fs cl, e.genState = .suspended k l c p fs cl → splitAtGen fs = none := fun k l c p fs cl z => by
  cases e with
  | ret r => cases z
  | susp v g l' k' c' p' fs' =>
    injection z with _ _ _ _ z5
    rw [← z5]
    exact h
theorem runs_deaf {old : Array GenState} {M : Model} {Γ : PySem.Ctx} {p : Pos} {t : Sem PySem.Fin} {fs : List Frame} {s s' : Shared} {e : End} (h : Runs M Γ p t fs s e s') :
    splitAtGen fs = none → Dead old s.gens → Dead old s'.gens ∧ NoG e ∧ Runs M Γ p t fs (mnd old s) e (mnd old s') := by
  have frz : ∀ {s : Shared} {i : Nat} {y : GenState}, slp old i = false → mnd old (s.setGen i y) = (mnd old s).setGen i y := fun {s i y} h => by
    show ({ s with gens := mend old (s.gens.setIfInBounds i y) } : Shared) = { s with gens := (mend old s.gens).setIfInBounds i y }
    rw [mend_set h]
  have at_ : ∀ {s : Shared} {i : Nat} {y : GenState}, slp old i = false → s.gens[i]? = some y → (mnd old s).gens[i]? = some y := fun {s i y} h e => by
    show (mend old s.gens)[i]? = _
    rw [mend_at, e]
    exact congrArg some (pick_awake h)
  have awk : ∀ {s : Shared} {i : Nat} {y : GenState}, Dead old s.gens → s.gens[i]? = some y → asleep y = false → slp old i = false := fun {s i y} D e a => by
    cases z : slp old i with
    | false => rfl
    | true =>
      obtain ⟨x, h1, h2⟩ := slp_is z
      have q := D.was i x h1 h2
      rw [e] at q
      rw [Option.some.inj q, deaf_asleep, h2] at a
      cases a
  induction h with
  | done => exact fun hf hs => ⟨hs, trivial, .done⟩
  | raise => exact fun hf hs => ⟨hs, trivial, .raise⟩
  | again hq _ ih => exact fun hf hs => let z := ih hf hs; ⟨z.1, z.2.1, .again hq z.2.2⟩
  | rule _ ih => exact fun hf hs => let z := ih hf hs; ⟨z.1, z.2.1, .rule z.2.2⟩
  | «at» _ ih => exact fun hf hs => let z := ih hf hs; ⟨z.1, z.2.1, .at z.2.2⟩
  | load ho _ ih => exact fun hf hs => let z := ih hf hs; ⟨z.1, z.2.1, .load ho z.2.2⟩
  | update ha _ ih => exact fun hf hs => let z := ih hf hs; ⟨z.1, z.2.1, .update ha z.2.2⟩
  | loadIfAlive _ ih => exact fun hf hs => let z := ih hf hs; ⟨z.1, z.2.1, .loadIfAlive z.2.2⟩
  | point _ ih => exact fun hf hs => let z := ih hf hs; ⟨z.1, z.2.1, .point z.2.2⟩
  | alloc _ ih => exact fun hf hs => let z := ih hf hs; ⟨z.1, z.2.1, .alloc z.2.2⟩
  | fresh _ ih => exact fun hf hs => let z := ih hf hs; ⟨z.1, z.2.1, .fresh z.2.2⟩
  | ask _ ih => exact fun hf hs => let z := ih hf hs; ⟨z.1, z.2.1, .ask z.2.2⟩
  | choose hn _ ih => exact fun hf hs => let z := ih hf hs; ⟨z.1, z.2.1, .choose hn z.2.2⟩
  | os _ ih => exact fun hf hs => let z := ih hf hs; ⟨z.1, z.2.1, .os z.2.2⟩
  | handled _ ih => exact fun hf hs => let z := ih hf hs; ⟨z.1, z.2.1, .handled z.2.2⟩
  | stack _ ih => exact fun hf hs => let z := ih hf hs; ⟨z.1, z.2.1, .stack z.2.2⟩
  | thread _ ih => exact fun hf hs => let z := ih hf hs; ⟨z.1, z.2.1, .thread z.2.2⟩
  | @genState g' st Γ p k s e s' hg _ ih =>
    intro hf hs
    have z := ih hf hs
    refine ⟨z.1, z.2.1, ?_⟩
    cases c : slp old g' with
    | false => exact .genState (at_ c hg) z.2.2
    | true =>
      obtain ⟨x, h1, h2⟩ := slp_is c
      have q := hs.was g' x h1 h2
      rw [hg] at q
      have q := Option.some.inj q
      refine .genState (st := x) ?_ ?_
      · show (mend old s.gens)[g']? = _
        rw [mend_at, hg]
        show some (pick old g' st) = some x
        unfold pick
        rw [c, h1]
        rfl
      · rw [← deaf_seen, ← q]
        exact z.2.2
  | @newGen Γ p k s e s' c _ ih =>
    intro hf hs
    have z := ih hf hs.push
    refine ⟨z.1, z.2.1, .newGen ?_⟩
    have e1 : (mnd old s).gens.size = s.gens.size := mend_size _ _
    rw [e1]
    have y := z.2.2
    have e2 : mnd old { s with gens := s.gens.push (.fresh c) } = { mnd old s with gens := (mnd old s).gens.push (.fresh c) } := by
      show ({ s with gens := mend old (s.gens.push (.fresh c)) } : Shared) = { s with gens := (mend old s.gens).push (.fresh c) }
      rw [mend_push hs.last]
    rw [e2] at y
    exact y
  | call _ _ ih1 ih2 => exact fun hf hs => let z1 := ih1 rfl hs; let z2 := ih2 hf z1.1; ⟨z2.1, z2.2.1, .call z1.2.2 z2.2.2⟩
  | callSusp _ ih => exact fun hf hs => let z := ih rfl hs; ⟨z.1, split_app z.2.1 rfl, .callSusp z.2.2⟩
  | yield => exact fun hf hs => ⟨hs, rfl, .yield⟩
  | resumeFresh hg h1 hq h2 ih1 ih2 =>
    intro hf hs
    have c := awk hs hg rfl
    have z1 := ih1 rfl (hs.set c fun _ _ _ _ _ _ z => by cases z)
    have z2 := ih2 rfl (z1.1.set c z1.2.1.st)
    have y1 := z1.2.2
    have y2 := z2.2.2
    rw [frz c] at y1 y2
    exact ⟨z2.1, z2.2.1, .resumeFresh (at_ c hg) y1 hq y2⟩
  | @resumeSuspended Γ p g' r l k s k₀ l₀ c₀ p₀ fs cl e₁ s₁ e s' hg h1 hq h2 ih1 ih2 =>
    intro hf hs
    cases c : slp old g' with
    | true =>
      obtain ⟨x, h3, h4⟩ := slp_is c
      have q := hs.was g' x h3 h4
      rw [hg] at q
      have q := Option.some.inj q
      cases x with
      | suspended kx lx cx px fx clx =>
        obtain rfl : k₀ = fun _ => .unsupported "" := by
          injection q
        exact (runs_unsup h1).elim
      | fresh _ => cases h4
      | running => cases h4
      | finished => cases h4
    | false =>
      have nf := hs.new g' _ _ _ _ _ _ hg c
      have z1 := ih1 nf (hs.set c fun _ _ _ _ _ _ z => by cases z)
      have z2 := ih2 rfl (z1.1.set c z1.2.1.st)
      have y1 := z1.2.2
      have y2 := z2.2.2
      rw [frz c] at y1 y2
      exact ⟨z2.1, z2.2.1, .resumeSuspended (at_ c hg) y1 hq y2⟩
  | resumeJustStarted hg hv _ ih => exact fun hf hs => let z := ih hf hs; ⟨z.1, z.2.1, .resumeJustStarted (at_ (awk hs hg rfl) hg) hv z.2.2⟩
  | resumeThrowFresh hg _ ih =>
    intro hf hs
    have c := awk hs hg rfl
    have z := ih hf (hs.set c fun _ _ _ _ _ _ z => by cases z)
    have y := z.2.2
    rw [frz c] at y
    exact ⟨z.1, z.2.1, .resumeThrowFresh (at_ c hg) y⟩
  | resumeRunning hg _ ih => exact fun hf hs => let z := ih hf hs; ⟨z.1, z.2.1, .resumeRunning (at_ (awk hs hg rfl) hg) z.2.2⟩
  | resumeFinished hg _ ih => exact fun hf hs => let z := ih hf hs; ⟨z.1, z.2.1, .resumeFinished (at_ (awk hs hg rfl) hg) z.2.2⟩
  | segRet _ _ ih1 ih2 => exact fun hf hs => let z1 := ih1 rfl hs; let z2 := ih2 (split_ret hf) z1.1; ⟨z2.1, z2.2.1, .segRet z1.2.2 z2.2.2⟩
  | segGen _ _ ih1 ih2 => exact fun hf hs => by cases hf
  | segSuspOut hn _ ih => exact fun hf hs => let z := ih rfl hs; ⟨z.1, split_app z.2.1 hf, .segSuspOut hn z.2.2⟩
  | segSuspGen hn _ _ _ ih1 ih2 => exact fun hf hs => by rw [hn] at hf; cases hf
theorem wakes_deaf {old : Array GenState} {M : Model} {Γ : PySem.Ctx} {p : Pos} {g : Nat} {r : Resume} {s s' : Shared} {res : GenResult} (h : Wakes M Γ p g r s res s') (hs : Dead old s.gens) :
    Dead old s'.gens ∧ Wakes M Γ p g r (mnd old s) res (mnd old s') := by
  have frz : ∀ {s : Shared} {y : GenState}, slp old g = false → mnd old (s.setGen g y) = (mnd old s).setGen g y := fun {s y} h => by
    show ({ s with gens := mend old (s.gens.setIfInBounds g y) } : Shared) = { s with gens := (mend old s.gens).setIfInBounds g y }
    rw [mend_set h]
  have at_ : ∀ {y : GenState}, slp old g = false → s.gens[g]? = some y → (mnd old s).gens[g]? = some y := fun {y} h e => by
    show (mend old s.gens)[g]? = _
    rw [mend_at, e]
    exact congrArg some (pick_awake h)
  have awk : ∀ {y : GenState}, s.gens[g]? = some y → asleep y = false → slp old g = false := fun {y} e a => by
    cases z : slp old g with
    | false => rfl
    | true =>
      obtain ⟨x, h1, h2⟩ := slp_is z
      have q := hs.was g x h1 h2
      rw [e] at q
      rw [Option.some.inj q, deaf_asleep, h2] at a
      cases a
  unfold Wakes at h
  cases hg : s.gens[g]? with
  | none => rw [hg] at h; exact h.elim
  | some gs =>
    rw [hg] at h
    cases gs with
    | fresh c =>
      have a := awk hg rfl
      have e2 := at_ a hg
      cases r with
      | send v =>
        by_cases hv : v = .none
        · subst hv
          obtain ⟨e₁, s₂, h₁, hq, rfl, rfl⟩ := h
          have z := runs_deaf h₁ rfl (hs.set a fun _ _ _ _ _ _ z => by cases z)
          refine ⟨z.1.set a z.2.1.st, ?_⟩
          unfold Wakes
          rw [e2]
          refine ⟨e₁, mnd old s₂, ?_, hq, rfl, frz a⟩
          rw [← frz a]
          exact z.2.2
        · have h : res = .justStarted ∧ s' = s := by cases v <;> first | exact absurd rfl hv | exact h
          obtain ⟨rfl, rfl⟩ := h
          refine ⟨hs, ?_⟩
          unfold Wakes
          rw [e2]
          cases v <;> first | exact absurd rfl hv | exact ⟨rfl, rfl⟩
      | throw x =>
        obtain ⟨rfl, rfl⟩ := h
        refine ⟨hs.set a (fun _ _ _ _ _ _ z => by cases z), ?_⟩
        unfold Wakes
        rw [e2]
        exact ⟨rfl, frz a⟩
    | suspended k₀ l₀ c₀ p₀ fs cl =>
      obtain ⟨e₁, s₂, h₁, hq, rfl, rfl⟩ := h
      cases a : slp old g with
      | true =>
        obtain ⟨x, h3, h4⟩ := slp_is a
        have q := hs.was g x h3 h4
        rw [hg] at q
        have q := Option.some.inj q
        cases x with
        | suspended kx lx cx px fx clx =>
          obtain rfl : k₀ = fun _ => .unsupported "" := by
            injection q
          exact (runs_unsup h₁).elim
        | fresh _ => cases h4
        | running => cases h4
        | finished => cases h4
      | false =>
        have nf := hs.new g _ _ _ _ _ _ hg a
        have z := runs_deaf h₁ nf (hs.set a fun _ _ _ _ _ _ z => by cases z)
        refine ⟨z.1.set a z.2.1.st, ?_⟩
        unfold Wakes
        rw [at_ a hg]
        refine ⟨e₁, mnd old s₂, ?_, hq, rfl, frz a⟩
        rw [← frz a]
        exact z.2.2
    | running =>
      obtain ⟨rfl, rfl⟩ := h
      refine ⟨hs, ?_⟩
      unfold Wakes
      rw [at_ (awk hg rfl) hg]
      exact ⟨rfl, rfl⟩
    | finished =>
      obtain ⟨rfl, rfl⟩ := h
      refine ⟨hs, ?_⟩
      unfold Wakes
      rw [at_ (awk hg rfl) hg]
      exact ⟨rfl, rfl⟩
theorem wp_deaf {α : Type} {old : Array GenState} {M : Model} {Γ : PySem.Ctx} {t : Sem α} {Q : α → Pos → Shared → Prop} {E : Value → Pos → Shared → Prop} : ∀ {p : Pos} {s : Shared}, Dead old s.gens → Sem.wp M Γ t Q E p s →
    Sem.wp M Γ t (fun a p' s' => ∃ s2, Dead old s2.gens ∧ s' = mnd old s2 ∧ Q a p' s2) (fun e p' s' => ∃ s2, Dead old s2.gens ∧ s' = mnd old s2 ∧ E e p' s2) p (mnd old s) := by
  induction t with
  | pure x => exact fun {p s} hs h => ⟨s, hs, rfl, h⟩
  | raise v => exact fun {p s} hs h => ⟨s, hs, rfl, h⟩
  | unsupported | finish | yield | fork | await | register => exact fun _ h => h
  | rule _ k ih | «at» _ k ih | loadIfAlive _ k ih | point _ k ih | ask k ih | handled _ k ih | stack k ih | thread k ih => exact fun {p s} hs h => ih _ hs h
  | alloc o k ih => exact fun {p s} hs h => ih _ (s := { s with heap := s.heap.push o }) hs h
  | fresh k ih => exact fun {p s} hs h => ih _ (s := { s with toks := s.toks + 1 }) hs h
  | os q _ k ih => exact fun {p s} hs h => ih _ (s := { s with os := (Os.step s.os q).1 }) hs h
  | newGen c k ih =>
    intro p s hs h
    have z := ih _ (p := p) (s := { s with gens := s.gens.push (.fresh c) }) hs.push h
    have e2 : mnd old { s with gens := s.gens.push (.fresh c) } = { mnd old s with gens := (mnd old s).gens.push (.fresh c) } := by
      show ({ s with gens := mend old (s.gens.push (.fresh c)) } : Shared) = { s with gens := (mend old s.gens).push (.fresh c) }
      rw [mend_push hs.last]
    rw [e2] at z
    have e1 : (mnd old s).gens.size = s.gens.size := mend_size _ _
    show Sem.wp M Γ (k (mnd old s).gens.size) _ _ p _
    rw [e1]
    exact z
  | load a _ k ih => exact fun {p s} hs ⟨o, ho, h⟩ => ⟨o, ho, ih _ hs h⟩
  | genState g k ih =>
    rintro p s hs ⟨st, hg, h⟩
    cases c : slp old g with
    | false =>
      refine ⟨st, ?_, ih _ hs h⟩
      show (mend old s.gens)[g]? = _
      rw [mend_at, hg]
      exact congrArg some (pick_awake c)
    | true =>
      obtain ⟨x, h1, h2⟩ := slp_is c
      have q := hs.was g x h1 h2
      rw [hg] at q
      have q := Option.some.inj q
      refine ⟨x, ?_, ?_⟩
      · show (mend old s.gens)[g]? = _
        rw [mend_at, hg]
        show some (pick old g st) = some x
        unfold pick
        rw [c, h1]
        rfl
      · rw [← deaf_seen, ← q]
        exact ih _ hs h
  | update a _ f k ih => exact fun {p s} hs ⟨ha, h⟩ => ⟨ha, ih _ (s := { s with heap := s.heap.update a f }) hs h⟩
  | choose src n k ih => exact fun {p s} hs ⟨ha, h⟩ => ⟨ha, ih _ (s := { s with drawn := s.drawn.bump src }) hs h⟩
  | call c h' g l k ih =>
    rintro p s hs ⟨r, s1, hr, h⟩
    have z := runs_deaf hr rfl hs
    exact ⟨r, mnd old s1, z.2.2, ih r z.1 h⟩
  | resume g r l k ih =>
    rintro p s hs ⟨res, s1, hw, h⟩
    have z := wakes_deaf hw hs
    exact ⟨res, mnd old s1, z.2, ih res z.1 h⟩
theorem wpAny_deaf {α : Type} {M : Model} {A : Around} {t : Sem α} {Q : α → Shared → Prop} {E : Value → Shared → Prop} {s : Shared} (h : wpAny M A t Q E { s with gens := s.gens.map deaf }) :
    wpAny M A t (fun a s' => ∃ s2, Dead s.gens s2.gens ∧ s' = mnd s.gens s2 ∧ Q a s2) (fun e s' => ∃ s2, Dead s.gens s2.gens ∧ s' = mnd s.gens s2 ∧ E e s2) s := fun Γ p hΓ => by
  have z := wp_deaf (old := s.gens) (p := p) (s := { s with gens := s.gens.map deaf }) (Dead.deafs s.gens) (h Γ p hΓ)
  have e : mnd s.gens { s with gens := s.gens.map deaf } = s := by
    show ({ s with gens := mend s.gens (s.gens.map deaf) } : Shared) = s
    rw [mend_deafs]
  rw [e] at z
  exact z
/-- a sleeping one stays -/
theorem mnd_at {old : Array GenState} {s2 : Shared} {g : Nat} {x : GenState} (D : Dead old s2.gens) (e : old[g]? = some x) (a : asleep x = true) : (mnd old s2).gens[g]? = some x := by
  show (mend old s2.gens)[g]? = _
  rw [mend_at, D.was g x e a]
  show some (pick old g (deaf x)) = some x
  unfold pick
  rw [slp_of e a, e]
  rfl
end Gk
/-! A for over a range within a generator that goes on; for over such a def. -/
namespace Gk
open PySem PySem.Spec PyProof.Rows L2 GenW
theorem for_rangeY {lo : Int} {n : Nat} {g : TG} {tb : TY} {D : YEnds} {m : Nat} {γ σ : L2.St} {H : Hp} (Pv : Nat → Nat → L2.St → L2.St → Hp → Prop) (h0 : Pv 0 m γ σ H)
    (hs : ∀ i m γ σ H, i < n → Pv i m γ σ H → g (.int (lo + i)) σ H fun σ2 H2 => tb { D with nx := Pv (i + 1), ct := Pv (i + 1), bk := D.nx } m γ σ2 H2) (hd : ∀ m γ σ H, Pv n m γ σ H → D.nx m γ σ H) :
    ∃ W : Nat → Nat → Nat → L2.St → L2.St → Hp → Prop, (∃ e, W 0 e m γ σ H) ∧ ∀ i e m γ σ H, W i e m γ σ H →
      ((Itr lo n).stop i H ∧ D.nx m γ σ H) ∨ ((Itr lo n).go i H ∧ ∃ N : Nat → L2.St → L2.St → Hp → Prop, (∀ m' γ' σ' H', N m' γ' σ' H' → ∃ e', e' < e ∧ W (i + 1) e' m' γ' σ' H') ∧ ∀ x H', (Itr lo n).yld i H x H' → g x σ H' fun σ2 H2 => tb { D with nx := N, ct := N, bk := D.nx } m γ σ2 H2) := by
  refine ⟨fun i e m γ σ H => e = n - i ∧ i ≤ n ∧ Pv i m γ σ H, ⟨n, rfl, Nat.zero_le _, h0⟩, fun i e m γ σ H ⟨h1, h2, p⟩ => ?_⟩
  subst h1
  rcases Nat.lt_or_ge i n with c | c
  · exact .inr ⟨c, Pv (i + 1), fun m' γ' σ' H' p' => ⟨n - (i + 1), by omega, rfl, c, p'⟩, fun x H' ⟨e1, e2⟩ => by subst e1 e2; exact hs i m γ σ _ c p⟩
  · obtain rfl : i = n := by omega
    exact .inl ⟨Nat.le_refl _, hd m γ σ H p⟩
section
variable {X : Cx} {k : Nat} {ps : List Str} {sp : SpY} {x : Str} {p pos fpos : Pos} {e : Expr} {es : List Expr} {t : TA} {tg : Expr} {g : TG} {tb : TS} {body : List Stmt}
theorem ps_forYD (D : Dgy X.prog X.w X.K X.mg X.base k x ps sp) (hr : Room (k + 3) X.A) (hx : Gl X x) (ha : PA X (e :: es) t) (hp : PassesOwn (model X.prog X.w) X.A X.env X.xe) (hc : X.calm = true) (hg : PGg X tg g) (hb : PSsg X body tb)
    (hdb : (x == ("__debug__" : Str)) = false := by decide) (he : starEach (e :: es) X.env = (false, eval e X.env) :: starEach es X.env := by rfl) (hpl : (backTo pos (starEach es X.env)).any (·.1) = false := by rfl)
    (hs : ∀ v, foldedSetIterable (.Call (.Name x p) (e :: es) [] pos) X.env v = pure v := by intro _; rfl) :
    PS X (.For tg (.Call (.Name x p) (e :: es) [] pos) body [] fpos) (tForY sp t g tb) := by
  obtain ⟨f, fd, F, hm, hk, hbn⟩ := D.ex
  exact ps_forY F hr hx hm hk hbn ha hp hc hg hb hdb he hpl hs
end
/-- what stands as a tuple stays, a list being written -/
theorem keep_wr {K : PySem.W.Frag} {H : Hp} {D : Addr} {as bs : List V} (h : H D = some (.lst as)) : Keep K H (upd H D (.lst bs)) := fun a xs q => by
  have ne : ∀ {o : HO}, H a = some o → (∀ zs, o ≠ .lst zs) → upd H D (.lst bs) a = some o := fun {o} e n => by
    rw [upd_ne]
    · exact e
    · rintro rfl
      rw [h] at e
      exact n as (Option.some.inj e).symm
  rcases q with (q | ⟨u, q⟩) | q
  · exact .inl (.inl (ne q fun zs z => by cases z))
  · exact .inl (.inr ⟨u, ne q fun zs z => by cases z⟩)
  · exact .inr q
end Gk
/-! for x in f(..), f a generator def, the body any code. -/
namespace Gk
open PySem PySem.Spec PyProof.Rows L2 GenW
/-- what a generator promises when it goes on, n items at most being left -/
def kapG (M : Model) (A : Around) (R : GenEnd) (Y : Protocol) (gs : GenState) : Nat → Resume → Shared → Prop
  | 0 => fun _ _ => False
  | m + 1 => fun r s => gs.Goes M A R Y m r s
section
variable {M : Model}
/-- a generator goes on; what has handed out an item is asleep -/
theorem wpAny_resumeS {A : Around} {R : GenEnd} {Y : Protocol} {n : Nat} {E : Value → Shared → Prop} {s : Shared} {g : Nat} {gs : GenState} {r : Resume} {l : List Value} {α : Type} {k : GenResult → Sem α} {Q : α → Shared → Prop} (hg : s.gens[g]? = some gs)
    (hgo : gs.Goes M A R Y n r (s.setGen g .running)) (hR : ∀ x s₁, R n (s.setGen g .running) x s₁ → wpAny M A (k (End.ret x).result) Q E (s₁.setGen g .finished))
    (hY : ∀ v s₁ gs', gs'.bare = true → asleep gs' = true → Y (n - 1) (s.setGen g .running) v s₁ (kapG M A R Y gs' n) → wpAny M A (k (.yielded v)) Q E (s₁.setGen g gs')) :
    wpAny M A (.resume g r l k) Q E s := by
  intro Γ p hΓ
  rw [Sem.wp_resume]
  have done : ∀ (Γ' : PySem.Ctx) (p' : Pos) (t : Sem PySem.Fin) (fs : List Frame), Γ'.Woken A → Seg M A R Y n (s.setGen g .running) Γ'.code t fs (s.setGen g .running) →
      ∃ e₁ s₁, Runs M Γ' p' t fs (s.setGen g .running) e₁ s₁ ∧ e₁.quiet = true ∧ Sem.wp M Γ (k e₁.result) (fun a _ s' => Q a s') (fun e _ s' => E e s') p (s₁.setGen g e₁.genState) := by
    intro Γ' p' t fs hw hs
    obtain ⟨e₁, s₁, hr, he⟩ := seg_iff.mp hs Γ' p' rfl hw
    cases e₁ with
    | ret x => exact ⟨_, _, hr, rfl, hR x s₁ he Γ p hΓ⟩
    | susp v g₀ l₀ k₀ c₀ p₀ fs₀ =>
      refine ⟨_, _, hr, he.1, hY v s₁ _ (End.bare_of_quiet he.1) rfl ?_ Γ p hΓ⟩
      cases n with
      | zero => exact he.2
      | succ m => exact he.2
  cases gs with
  | fresh c =>
    obtain ⟨rfl, hs⟩ := hgo
    obtain ⟨e₁, s₁, hr, hq, hw⟩ := done (Γ.wake c p) p (M.den c) [] (hΓ.wake c p) hs
    exact ⟨_, _, by unfold Wakes; rw [hg]; exact ⟨e₁, s₁, hr, hq, rfl, rfl⟩, hw⟩
  | suspended k₀ l₀ c₀ p₀ fs₀ cl =>
    obtain ⟨e₁, s₁, hr, hq, hw⟩ := done (Γ.wake c₀ p) p₀ (k₀ r) fs₀ (hΓ.wake c₀ p) hgo
    exact ⟨_, _, by unfold Wakes; rw [hg]; exact ⟨e₁, s₁, hr, hq, rfl, rfl⟩, hw⟩
  | running => exact hgo.elim
  | finished => exact hgo.elim
end
section
variable {P : Program} {w : World} {A : Around} {E : Value → Shared → Prop} {s : Shared}
/-- next(g) of a generator that raises nothing -/
theorem next_genS {a : Addr} {g n : Nat} {gs : GenState} {F : Nat → Shared → Shared → Prop} {Y : Protocol} {Q : Option Value → Shared → Prop} (hh : A.handled = none)
    (hl : s.heap.NoLimit) (hroom : A.depth < recursionLimit) (hg : s.heap.IsGen a g) (hgs : s.gens[g]? = some gs)
    (hgo : gs.Goes (model P w) A.in1 (fun n s₀ r s₁ => ((r = .ok (.ret .none) ∨ r = .ok .next) ∧ F n s₀ s₁) ∨ ∃ e, r = .error e ∧ False) Y n (.send .none) (s.setGen g .running))
    (hY : ∀ v s₁ gs', gs'.bare = true → asleep gs' = true → Y (n - 1) (s.setGen g .running) v s₁ (kapG (model P w) A.in1 (fun n s₀ r s₁ => ((r = .ok (.ret .none) ∨ r = .ok .next) ∧ F n s₀ s₁) ∨ ∃ e, r = .error e ∧ False) Y gs' n) → Q (some v) (s₁.setGen g gs'))
    (hP : ∀ s₁, F n (s.setGen g .running) s₁ → ∀ h', (∀ b o, s₁.heap.get? b = some o → h'.get? b = some o) → Q none { s₁.setGen g .finished with heap := h' }) :
    wpAny (model P w) A (pyNext (.ref a)) Q E s := by
  unfold pyNext
  refine wpAny_bind (wpAny_attempt (wpAny_callSpecial?_slot (name := Str.ofString "__next__") hg.typeIs slot_gen_next
    (wpAny_call_entry slot_gen_next hg.typeIs entry_gen_next ?_ (args_gen_next _))))
  show wpAny _ A.in1 (Builtin.Generator.genWake (.ref a) (.send .none)) _ _ s
  unfold Builtin.Generator.genWake
  refine wpAny_bind (wpAny_holding (wpAny_genNumber hg (wpAny_bind (wpAny_genState hgs ?_))))
  cases gs with
  | running => exact hgo.elim
  | finished => exact hgo.elim
  | _ =>
    refine wpAny_bind (wpAny_roomToWake hl hroom ?_)
    show wpAny _ A.in1 (.resume g (.send .none) [] _) _ _ s
    refine wpAny_resumeS hgs hgo (fun x s₁ hx => ?_) (fun v s₁ gs' hb ha hv => ?_)
    · rcases hx with ⟨hr, hp⟩ | ⟨e, rfl, he⟩
      · have hres : End.result (.ret x) = .returned .none := by
          rcases hr with hr | hr <;> rw [hr] <;> rfl
        first | rw [hres] | simp only [hres]
        show wpAny _ A.in1 (newExc (.type "StopIteration") [] >>= _) _ _ _
        refine wpAny_bind ?_
        simp only [newExc, newTuple]
        refine wpAny_bind (wpAny_newObj_type ?_ (by size_fits))
        refine wpAny_bind (m := firstArgMember _ _) (wpAny_of_eq (a := Value.none) (by first | rfl | (simp only [firstArgMember]; rfl)) ?_)
        refine wpAny_newObj_type ?_ (by size_fits)
        simp only [raiseNew]
        refine wpAny_bind (wpAny_bind (wpAny_handled ?_))
        first | rw [show A.in1.handled = none from hh] | rw [hh]
        refine wpAny_throw ?_
        refine wpAny_bind (wpAny_isInstance (T := "StopIteration") (b := true) ⟨_, Heap.get?_push_size _ rfl, rfl⟩ isSubtype_stop ?_)
        exact wpAny_pure (hP s₁ hp _ fun b o hb => Heap.get?_push_of_some _ (Heap.get?_push_of_some _ hb))
      · exact he.elim
    · exact wpAny_pure ⟨v, rfl, wpAny_pure (hY v s₁ gs' hb ha hv)⟩
end
/-! ### any code, a sleeping generator staying -/
section
variable {X : Cx} {pins : List (Addr × Obj)} {σ : L2.St} {H : Hp} {s : Shared}
theorem inv_deaf (I : Inv X pins σ H s) : Inv X pins σ H { s with gens := s.gens.map deaf } := inv_gens I rfl rfl (bare_deafs I.bare)
theorem inv_mnd {old : Array GenState} {s2 : Shared} (I : Inv X pins σ H s2) (h : AllBare old) : Inv X pins σ H (mnd old s2) := inv_gens I rfl rfl (bare_mend h I.bare)
/-- what is wanted of an exception does not speak of generators -/
def XeG (X : Cx) : Prop := ∀ e s old, AllBare old → X.xe e s → X.xe e (mnd old s)
theorem sp_mnd {D : Ends} {f : Flow} {s2 : Shared} {old : Array GenState} (h : SP X pins D f s2) (hb : AllBare old) : SP X pins D f (mnd old s2) := by
  cases f with
  | next => obtain ⟨σ', H', I, q⟩ := h; exact ⟨σ', H', inv_mnd I hb, q⟩
  | brk => obtain ⟨σ', H', I, q⟩ := h; exact ⟨σ', H', inv_mnd I hb, q⟩
  | cont => obtain ⟨σ', H', I, q⟩ := h; exact ⟨σ', H', inv_mnd I hb, q⟩
  | ret u => obtain ⟨v, σ', H', I, r, q⟩ := h; exact ⟨v, σ', H', inv_mnd I hb, r, q⟩
theorem deaf_run {α : Type} {t : Sem α} {Q Q' : α → Shared → Prop} {g : Nat} {x : GenState} (hx : XeG X) (hb : AllBare s.gens) (hg : s.gens[g]? = some x) (a : asleep x = true)
    (h : wpAny (model X.prog X.w) X.A t Q X.xe { s with gens := s.gens.map deaf }) (hq : ∀ v s2, Q v s2 → Q' v (mnd s.gens s2)) : wpAny (model X.prog X.w) X.A t (fun v s' => Q' v s' ∧ s'.gens[g]? = some x) X.xe s := by
  refine wpAny_mono (wpAny_deaf h) (fun v s' h => ?_) fun e s' h => ?_
  · obtain ⟨s2, D, rfl, q⟩ := h
    exact ⟨hq v s2 q, mnd_at D hg a⟩
  · obtain ⟨s2, D, rfl, q⟩ := h
    exact hx e s2 _ hb q
theorem pss_stay {sts : List Stmt} {t : TS} (hb : PSs X sts t) (hx : XeG X) {D : Ends} (I : Inv X pins σ H s) (h : t D σ H) {g : Nat} {x : GenState} (hg : s.gens[g]? = some x) (a : asleep x = true) :
    wpAny (model X.prog X.w) X.A (execs sts X.env) (fun f s' => SP X pins D f s' ∧ s'.gens[g]? = some x) X.xe s :=
  deaf_run hx I.bare hg a (hb.run pins _ σ H D (inv_deaf I) h) fun v s2 q => sp_mnd q I.bare
theorem pg_stay {tg : Expr} {t : TG} (hb : PG X tg t) (hx : XeG X) {v : V} {u : Value} {Q : L2.St → Hp → Prop} (I : Inv X pins σ H s) (r : RelV v u) (h : t v σ H Q) {g : Nat} {x : GenState} (hg : s.gens[g]? = some x) (a : asleep x = true) :
    wpAny (model X.prog X.w) X.A (assign tg X.env u) (fun _ s' => (∃ σ' H', Inv X pins σ' H' s' ∧ Q σ' H') ∧ s'.gens[g]? = some x) X.xe s :=
  deaf_run hx I.bare hg a (hb.run pins _ σ H v u Q (inv_deaf I) r h) fun _ s2 ⟨σ', H', J, q⟩ => ⟨σ', H', inv_mnd J I.bare, q⟩
theorem pe_stay {e : Expr} {t : TE} (hb : PE X e t) (hx : XeG X) {Q : VK} (I : Inv X pins σ H s) (h : t σ H Q) {g : Nat} {x : GenState} (hg : s.gens[g]? = some x) (a : asleep x = true) :
    wpAny (model X.prog X.w) X.A (eval e X.env) (fun u s' => EP X pins σ Q u s' ∧ s'.gens[g]? = some x) X.xe s :=
  deaf_run hx I.bare hg a (hb.run pins _ σ H Q (inv_deaf I) h) fun u s2 ⟨v, H', J, r, q⟩ => ⟨v, H', inv_mnd J I.bare, r, q⟩
theorem pts_stay {ifs : List Expr} {t : TT} (hb : PTs X ifs t) (hx : XeG X) {Q : Bool → Hp → Prop} (I : Inv X pins σ H s) (h : t σ H Q) {g : Nat} {x : GenState} (hg : s.gens[g]? = some x) (a : asleep x = true) :
    wpAny (model X.prog X.w) X.A (forIn ifs true fun c r => if r = true then do let ok ← isTrue c X.env (eval c X.env); pure (ForInStep.yield ok) else pure (ForInStep.yield r)) (fun d s' => TP X pins σ Q d s' ∧ s'.gens[g]? = some x) X.xe s :=
  deaf_run hx I.bare hg a (hb.run pins _ σ H Q (inv_deaf I) h) fun d s2 ⟨H', J, q⟩ => ⟨H', inv_mnd J I.bare, q⟩
end
end Gk
/-! for x in f(..), f a generator def, the body any code; a comprehension over such a one. -/
namespace Gk
open PySem PySem.Spec PyProof.Rows L2 GenW
section
variable {X : Cx} {k : Nat} {f : Addr} {fd : FuncData} {ps : List Str} {sp : SpY} {x : Str} {p pos fpos : Pos} {e : Expr} {es : List Expr} {t : TA} {tg : Expr} {g : TG} {tb : TS} {body : List Stmt}
theorem ps_forZ (hxe : XeG X) (F : GenYd X.prog X.w X.K X.mg X.base k f fd ps sp) (hr : Room (k + 3) X.A) (hx : Gl X x) (hm : X.mg x = some (.ref f)) (hk : PySem.W.keepIn X.K (.ref f) = true) (hbn : Binds X.K fd ps [])
    (ha : PA X (e :: es) t) (hp : PassesOwn (model X.prog X.w) X.A X.env X.xe) (hc : X.calm = true) (hg : PG X tg g) (hb : PSs X body tb)
    (hdb : (x == ("__debug__" : Str)) = false := by decide) (he : starEach (e :: es) X.env = (false, eval e X.env) :: starEach es X.env := by rfl) (hpl : (backTo pos (starEach es X.env)).any (·.1) = false := by rfl)
    (hs : ∀ v, foldedSetIterable (.Call (.Name x p) (e :: es) [] pos) X.env v = pure v := by intro _; rfl) :
    PS X (.For tg (.Call (.Name x p) (e :: es) [] pos) body [] fpos) (tForY sp t g tb) := by
  refine ⟨fun pins s σ H D I h => ?_⟩
  refine wpAny_For ?_ hs
  refine wpAny_Call_Name_kw (ld_glob I hx hm ?_ hdb)
  refine PySem.W.callWith_K (h₀ := X.base) I.ok.mod.kin hk (thn (ha.run pos pins s σ H _ I h) fun us s1 ⟨vs, H1, I1, r1, n, q1⟩ => ⟨I1.kIn, ?_⟩) he hpl
  have hl : (us ++ []).length = ps.length := by rw [List.append_nil, ← r1.length]; exact F.len _ _ _ _ _ _ q1
  have b := hbn s1 us I1.kIn hl
  rw [List.append_nil] at b
  refine wpAny_call (codeAny_mono (F.run X.A X.stack s1 H1 ⟨us, []⟩ us vs n σ _ _ (hr.mono (by omega)) I1.env0 b r1 q1) fun res s2 hq => ?_)
  cases res with
  | error er => exact False.elim hq
  | ok fl =>
    cases fl with
    | brk => exact False.elim hq
    | cont => exact False.elim hq
    | next => exact False.elim hq
    | ret u =>
      obtain ⟨a, gi, c, go, rfl, ha1, hgo, hgc, ⟨nm, qn, hgd⟩, hgs, hfr, hos, hbare, hlim, hkp, wake⟩ := hq
      have isg : ∀ h : Heap, h.get? a = some go → h.IsGen a gi := fun h e => ⟨go, nm, qn, e, hgc, hgd, hgs⟩
      refine wpAny_pyIter_gen (isg _ hgo) ?_
      have rm : Room k X.A.in1 := ⟨hr.hd, by have := hr.dp; show X.A.depth + 3 * k + 5 < _; omega, by have := hr.un; show X.A.units + 1 + 16 * k + 200 < _; omega⟩
      have dep : X.A.depth < recursionLimit := by have := hr.dp; omega
      obtain ⟨X', gx, seg⟩ := wake X.A.in1 rm I1.ok.frames
      have hlow : X.env.locals < s1.heap.objs.size := I1.lt
      have hcells : ∀ y c, X.env.cells.lookup y = some c → c < s1.heap.objs.size := fun y c e => by
        obtain ⟨v, z⟩ := I1.cell y c e
        exact z.lt
      have hpins : ∀ q ∈ X.pn ++ pins, q.1 < s1.heap.objs.size := fun q hq => Heap.lt_size (I1.pin q hq).1
      have hfsl : ∀ z ∈ X.fs, z < s1.heap.objs.size := fun z hz => by
        obtain ⟨_, o, ho, _⟩ := I1.ok.funs.mem hz
        exact Nat.lt_of_lt_of_le (Heap.lt_size ho) I1.sz
      have hfs' : X'.fs = frs X.stack := by
        show frs X'.outer = _
        rw [gx.outer]
      have hstk : ∀ z ∈ frs X.stack, z < s1.heap.objs.size := fun z hz => by
        rcases List.mem_cons.mp (I1.stkSub z hz) with q | q
        · rw [q]; exact hlow
        · exact hfsl z q
      have nocell : ∀ v, go.data ≠ .cell v := fun v z => by rw [hgd] at z; cases z
      have na1 : H1 a = none := I1.hok.fresh (Nat.le_of_lt ha1)
      have I2 : Inv X pins σ H1 s2 := I1.call' (ch := []) hos (Un.kept hkp) (I1.hok.kept hkp) hbare fun b z => by cases z
      -- what links the two
      have peOk : ∀ {H' : Hp} {s' : Shared}, s'.heap.get? a = some go → H' a = none → PeOk X' [a] [(a, go)] H' s' := fun {H' s'} e n => ⟨rfl, fun q hq => by
        rw [List.mem_singleton.mp hq]
        refine ⟨e, n, ?_, ?_, nocell⟩
        · rw [gx.loc]
          exact Nat.ne_of_gt ha1
        · rw [hfs']
          exact fun z => absurd (hstk a z) (Nat.not_lt.mpr (Nat.le_of_lt ha1))⟩
      refine codeAny_forLoop_any (fun m s' => ∃ γ H' gs, Inv X pins γ H' s' ∧ s'.heap.get? a = some go ∧ H' a = none ∧ s'.gens[gi]? = some gs ∧
        gs.Goes (model X.prog X.w) X.A.in1 (YRE X' (fun γ H s pe => Inv X pins γ H s ∧ pe = [(a, go)]) (fun γ H2 => D.nx γ H2)) (YP X' (fun γ H s pe => Inv X pins γ H s ∧ pe = [(a, go)]) [a] (fun γ v H2 k => g v γ H2 fun σ3 H3 => tb { D with nx := k, ct := k, bk := D.nx } σ3 H3)) m (.send .none) (s'.setGen gi .running)) ?_ n ?_
      · rintro m s3 ⟨γ, H3, gs, I3, hgo3, na3, hg3, goes⟩
        have hgl : gi < s3.gens.size := (Array.getElem?_eq_some_iff.mp hg3).1
        refine wpAny_passesOwn hp (wpAny_gsz (n := gi + 1) hgl (next_genS (F := fun _ s₀ s₁ => ∃ γ H₀ pe H, (Inv X pins γ H₀ s₀ ∧ pe = [(a, go)]) ∧ Went X' pe H₀ s₀ H s₁ ∧ D.nx γ H) (I3.ok.hd hc) I3.nolimit dep (isg _ hgo3) hg3 goes (fun v s₁ gs' hbg hsl hv => ?_) (fun s₁ hf h' hk' => ?_)))
        · intro hsz
          obtain ⟨γ1, H₀, H4, pe, hl, y, kk, ⟨J0, epe⟩, rv, W, hhl, q, kap⟩ := hv
          subst epe
          have J : Inv X pins γ1 H4 (s₁.setGen gi gs') := turn_back J0 gx hlow hcells hpins W rfl rfl (allBare_setGen W.bare hbg)
          obtain ⟨hgo4, na4⟩ := W.pe (a, go) (List.mem_singleton.mpr rfl)
          have hgi : gi < s₁.gens.size := by
            have q : (s₁.setGen gi gs').gens.size = s₁.gens.size := setGen_size _ _ _
            have : gi + 1 ≤ (s₁.setGen gi gs').gens.size := hsz
            omega
          have pinsOk : ∀ q ∈ pins ++ ((a, go) :: hl), (s₁.setGen gi gs').heap.get? q.1 = some q.2 ∧ H4 q.1 = none ∧ q.1 ≠ X.env.locals ∧ q.1 ∉ X.fs ∧ ∀ v, q.2.data ≠ .cell v := fun q hq => by
            have big : s1.heap.objs.size ≤ q.1 → q.1 ≠ X.env.locals ∧ q.1 ∉ X.fs := fun z => ⟨fun w => absurd hlow (Nat.not_lt.mpr (by rw [← w]; exact z)), fun w => absurd (hfsl _ w) (Nat.not_lt.mpr z)⟩
            rcases List.mem_append.mp hq with hq | hq
            · exact J.pin q (List.mem_append_right _ hq)
            · rcases List.mem_cons.mp hq with rfl | hq
              · exact ⟨hgo4, na4, (big (Nat.le_of_lt ha1)).1, (big (Nat.le_of_lt ha1)).2, nocell⟩
              · obtain ⟨h1, h2, h3, _, h4⟩ := hhl q hq
                rw [gx.loc] at h3
                exact ⟨h1, h2, (big h3).1, (big h3).2, h4⟩
          have J' : Inv X (pins ++ ((a, go) :: hl)) γ1 H4 (s₁.setGen gi gs') := J.pins_of pinsOk
          refine go_of (s := s₁.setGen gi gs') (o := go) (n := "generator") hgo4 hgc hgd (by decide) ?_
          refine wpAny_passesOwn hp (thn (pg_stay hg hxe J' rv q (g := gi) (x := gs') (setGen_at hgi) hsl) fun _ s6 ⟨⟨σ6, H6, I6, q6⟩, g6⟩ => ?_)
          refine wpAny_passesOwn hp (thn (pss_stay hb hxe I6 q6 g6 hsl) fun f s7 ⟨q7, g7⟩ => ?_)
          have eg : s7.gens[gi]? = some gs' := g7
          have unp : ∀ {σ' : L2.St} {H' : Hp}, Inv X (pins ++ ((a, go) :: hl)) σ' H' s7 → Inv X pins σ' H' s7 := fun {σ' H'} K7 => K7.pins_of fun q hq => K7.pin q (List.mem_append_right _ (List.mem_append_left _ hq))
          have again : ∀ {σ' : L2.St} {H' : Hp}, Inv X (pins ++ ((a, go) :: hl)) σ' H' s7 → kk σ' H' → ∃ m', m' < m ∧ ∃ γ H' gs, Inv X pins γ H' s7 ∧ s7.heap.get? a = some go ∧ H' a = none ∧ s7.gens[gi]? = some gs ∧
              gs.Goes (model X.prog X.w) X.A.in1 (YRE X' (fun γ H s pe => Inv X pins γ H s ∧ pe = [(a, go)]) (fun γ H2 => D.nx γ H2)) (YP X' (fun γ H s pe => Inv X pins γ H s ∧ pe = [(a, go)]) [a] (fun γ v H2 k => g v γ H2 fun σ3 H3 => tb { D with nx := k, ct := k, bk := D.nx } σ3 H3)) m' (.send .none) (s7.setGen gi .running) := fun {σ' H'} K7 hkk => by
            obtain ⟨b1, b2, _⟩ := K7.pin (a, go) (List.mem_append_right _ (List.mem_append_right _ List.mem_cons_self))
            have K8 : Inv X pins σ' H' (s7.setGen gi .running) := inv_gens (unp K7) rfl rfl (allBare_setGen K7.bare rfl)
            have z := kap σ' H' (s7.setGen gi .running) [(a, go)] hkk ⟨K8, rfl⟩ (on_of K8 gx) (peOk b1 b2) fun q hq => by
              obtain ⟨c1, c2, _⟩ := K7.pin q (List.mem_append_right _ (List.mem_append_right _ (List.mem_cons_of_mem _ hq)))
              exact ⟨c1, c2⟩
            cases m with
            | zero => exact z.elim
            | succ m => exact ⟨m, Nat.lt_succ_self m, σ', H', gs', unp K7, b1, b2, eg, z⟩
          cases f with
          | next => obtain ⟨σ', H', K7, z⟩ := q7; exact again K7 z
          | cont => obtain ⟨σ', H', K7, z⟩ := q7; exact again K7 z
          | brk => obtain ⟨σ', H', K7, z⟩ := q7; exact ⟨σ', H', unp K7, z⟩
          | ret v => obtain ⟨v', σ', H', K7, rv', z⟩ := q7; exact ⟨v', σ', H', unp K7, rv', z⟩
        · intro _
          obtain ⟨γ1, H₀, pe, H4, ⟨J0, epe⟩, W, q⟩ := hf
          have J1 : Inv X pins γ1 H4 (s₁.setGen gi .finished) := turn_back J0 gx hlow hcells hpins W rfl rfl (allBare_setGen W.bare rfl)
          have J : Inv X pins γ1 H4 { s₁.setGen gi .finished with heap := h' } := J1.kept (t' := s₁.toks) hk'
          exact wpAny_execs_nil ⟨γ1, H4, J, q⟩
      · have I3 : Inv X pins σ H1 (s2.setGen gi .running) := inv_gens I2 rfl rfl (allBare_setGen hbare rfl)
        exact ⟨σ, H1, _, I2, hgo, na1, hfr, rfl, seg _ [a] (s2.setGen gi .running) [(a, go)] (fun _ _ z => z) ⟨I3, rfl⟩ (on_of I3 gx) (peOk hgo na1)⟩
end
end Gk
/-! [.. for x in f(..)], f a generator def, the element any code. -/
namespace Gk
open PySem PySem.Spec PyProof.Rows L2 GenW
section
variable {X X' : Cx} {pins pe : List (Addr × Obj)} {σ : L2.St} {H H₀ : Hp} {s s₀ : Shared} {n0 : Nat}
/-- a list that stood untracked is tracked -/
theorem inv_track {D : Addr} {acc : List V} {its : List Value} {c : Nat} (I : Inv X pins σ H s) (hn : H D = none) (hD : s.heap.get? D = some { cls := .type "list", data := .seq its.toArray c }) (rv : Vals acc its) (hz : acc.length ≤ sizeLine)
    (h1 : X.s_0.heap.objs.size ≤ D) (h2 : D ≠ X.env.locals) (h3 : ∀ x c, X.env.cells.lookup x = some c → c ≠ D) (h4 : ∀ p ∈ X.pn ++ pins, p.1 ≠ D) : Inv X pins σ (upd H D (.lst acc)) s := by
  have ne : ∀ {b : Addr} {o : HO}, H b = some o → b ≠ D := fun {b o} e z => by rw [z, hn] at e; cases e
  refine ⟨I.ok, I.os, I.bare, ⟨I.base.keep, I.base.slot, fun b o e n hx => ?_, I.base.there, fun b xs e => ?_, fun b o u e => ?_, fun b ps e => ?_⟩, I.loc, I.cell, ?_, fun x c e => ?_, fun p hp => ?_, fun b o e => ?_, I.len⟩
  · rw [upd_ne]
    · exact I.base.free b o e n hx
    · intro z
      rw [z] at e
      exact absurd (Heap.lt_size e) (Nat.not_lt.mpr h1)
  · have := I.base.tups b xs e
    rw [upd_ne (ne this)]
    exact this
  · have := I.base.frzs b o u e
    rw [upd_ne (ne this)]
    exact this
  · obtain ⟨m, z⟩ := I.base.tbls b ps e
    exact ⟨m, by rw [upd_ne (ne z)]; exact z⟩
  · rw [upd_ne (Ne.symm h2)]
    exact I.free
  · rw [upd_ne (h3 x c e)]
    exact I.freeC x c e
  · obtain ⟨a1, a2, a3⟩ := I.pin p hp
    exact ⟨a1, by rw [upd_ne (h4 p hp)]; exact a2, a3⟩
  · by_cases z : b = D
    · subst z
      rw [upd_same] at e
      cases e
      exact ⟨hz, its, c, rv, hD⟩
    · rw [upd_ne z] at e
      exact (I.hok b o e).stay (fun c v _ q => q) (fun c q => by rw [upd_ne (ne q)]; exact q) fun c xs q => by rw [upd_ne (ne q)]; exact q
/-- a block behind a turn of the generator that it walks -/
theorem turn_backB (I : Inv X pins σ H₀ s₀) (gx : GenX X.prog X.w X.base X.stack n0 X') (hex : ∀ b, n0 ≤ b → b < X.s_0.heap.objs.size → b ∈ X.ex) (hcells : ∀ x c, X.env.cells.lookup x = some c → c < n0) (hpins : ∀ p ∈ X.pn ++ pins, p.1 < n0) (W : Went X' pe H₀ s₀ H s)
    {oC : Obj} (h0 : s₀.heap.get? X.env.locals = some oC) (h1 : s.heap.get? X.env.locals = some oC) (hn : H X.env.locals = none)
    {s' : Shared} (es : s'.heap = s.heap) (eo : s'.os = s.os) (eg : AllBare s'.gens) : Inv X pins σ H s' := by
  have hfs : X'.fs = frs X.stack := by
    show frs X'.outer = _
    rw [gx.outer]
  have un := W.un
  rw [hfs, gx.loc] at un
  have low : ∀ {b : Addr} {o : Obj}, s₀.heap.get? b = some o → b ∉ (List.range s₀.heap.objs.size).filter (fun b => decide (n0 ≤ b ∧ b ≠ X.env.locals)) → (cut s₀.heap n0).get? b = some o ∨ b = X.env.locals := fun {b o} e hb => by
    by_cases z : b = X.env.locals
    · exact .inr z
    · refine .inl (cut_of ?_ e)
      rcases Nat.lt_or_ge b n0 with y | y
      · exact y
      · exact absurd (List.mem_filter.mpr ⟨List.mem_range.mpr (Heap.lt_size e), decide_eq_true ⟨y, z⟩⟩) hb
  have hok : HOk X.prog X.w H s'.heap := by
    have := W.hok
    rw [gx.prog, gx.w] at this
    rw [es]
    exact this
  refine I.call' (ch := (List.range s₀.heap.objs.size).filter (fun b => decide (n0 ≤ b ∧ b ≠ X.env.locals))) (eo.trans W.os) ?_ hok eg fun b hb => ?_
  · rw [es]
    refine ⟨fun b o e n hb hc => ?_, fun b o e n hb hc => ?_, fun b o e n hc => ?_, fun b o e hc => ?_, un.tups, un.frzs, un.tbls⟩
    · rcases low e hc with z | rfl
      · exact un.keep b o z n hb (by simp)
      · rw [h0] at e
        rw [← Option.some.inj e]
        exact h1
    · rcases low e hc with z | rfl
      · exact un.slot b o z n hb (by simp)
      · rw [h0] at e
        rw [← Option.some.inj e]
        exact ⟨oC.slots, h1⟩
    · rcases low e hc with z | rfl
      · exact un.free b o z n (by simp)
      · exact hn
    · rcases low e hc with z | rfl
      · exact un.there b o z (by simp)
      · exact ⟨oC, h1⟩
  · obtain ⟨hge, hne⟩ := of_decide_eq_true (List.mem_filter.mp hb).2
    refine ⟨?_, hne, fun x c e z => ?_, fun p hp z => ?_⟩
    · rcases Nat.lt_or_ge b X.s_0.heap.objs.size with y | y
      · exact .inl (hex b hge y)
      · exact .inr y
    · have := hcells x c e
      rw [z] at this
      exact absurd this (Nat.not_lt.mpr hge)
    · have := hpins p hp
      rw [z] at this
      exact absurd this (Nat.not_lt.mpr hge)
theorem nocells : ∀ {names : List (Str × NameKind)} {h : Heap}, (∀ y ∈ names, y.2 ≠ .cell) → pushCells h names = h
  | [], _, _ => rfl
  | (_, kind) :: r, h, n => by
    unfold pushCells
    rw [if_neg (by have := n _ List.mem_cons_self; simpa using this)]
    exact nocells fun y hy => n y (List.mem_cons_of_mem _ hy)
theorem nocellsF : ∀ {names : List (Str × NameKind)} {m : Nat} {cl : List (Str × Addr)}, (∀ y ∈ names, y.2 ≠ .cell) → cellsFrom m names cl = cl
  | [], _, _, _ => rfl
  | (_, kind) :: r, m, cl, n => by
    unfold cellsFrom
    rw [if_neg (by have := n _ List.mem_cons_self; simpa using this)]
    exact nocellsF fun y hy => n y (List.mem_cons_of_mem _ hy)
end
end Gk
namespace Gk
open PySem PySem.Spec PyProof.Rows L2 GenW
section
variable {X : Cx} {k : Nat} {f : Addr} {fd : FuncData} {ps : List Str} {sp : SpY} {x : Str} {p cpos pos : Pos} {e : Expr} {es : List Expr} {t : TA} {tg : Expr} {g : TG}
/-- what the list holds so far -/
def accOf (γ : L2.St) : List V := γ.filterMap id
theorem accOf_snoc (γ : L2.St) (y : V) : accOf (γ ++ [some y]) = accOf γ ++ [y] := by simp [accOf]
/-- what the block and the generator that it walks keep for each other: the list at D -/
def LkB (Xb : Cx) (σw : L2.St) (a C D : Addr) (go : Obj) : LK := fun γ H s pe => Inv Xb [] σw H s ∧ ∃ (oC : Obj) (its : List Value) (ct : Nat), pe = [(a, go), (C, oC), (D, { cls := .type "list", data := .seq its.toArray ct })] ∧ Vals (accOf γ) its ∧ its.length ≤ sizeLine ∧ s.heap.get? C = some oC
/-- [elt for tg in f(..) if ..]: γ, what the caller keeps of the generator, is the list so far -/
def tLcY (sp : SpY) (t : TA) (g : TG) (tt : TT) (te : TE) (vs : List Nat) : TE := fun σ H Q => t σ H fun us H1 => ∃ n, sp us H1 n [] (fun γ H2 => ∀ D, H2 D = none → Q (.ref D) (upd H2 D (.lst (accOf γ))))
  (fun γ v H2 k => g v (wipe σ vs) H2 fun σ3 H3 => wipe σ3 vs = wipe σ vs ∧ tt σ3 H3 fun b H4 => if b = true then te σ3 H4 fun y H5 => (accOf γ).length < sizeLine ∧ k (γ ++ [some y]) H5 else k γ H4)
theorem pe_lcY {elt : Expr} {ifs : List Expr} {scope : Scope} {own : List (Str × Nat)} {tt : TT} {te : TE} (F : GenYd X.prog X.w X.K X.mg X.base k f fd ps sp) (hr : Room (k + 3) X.A) (hx : Gl X x) (hm : X.mg x = some (.ref f)) (hk : PySem.W.keepIn X.K (.ref f) = true) (hbn : Binds X.K fd ps [])
    (ha : PA X (e :: es) t) (hc : X.calm = true) (hN : X.N.Nodup) (ok : BlkOk X.N X.env.scope scope own) (nc : ∀ y ∈ scope.names, y.2 ≠ .cell)
    (hg : ∀ (s : Shared) (H : Hp) (C : Addr) (cl : List (Str × Addr)) (fp : List Addr), PG (X.blk s H scope (compEnvC scope cl C X.env) fp) tg g) (ht : ∀ (s : Shared) (H : Hp) (C : Addr) (cl : List (Str × Addr)) (fp : List Addr), PTs (X.blk s H scope (compEnvC scope cl C X.env) fp) ifs tt)
    (hel : ∀ (s : Shared) (H : Hp) (C : Addr) (cl : List (Str × Addr)) (fp : List Addr), PE (X.blk s H scope (compEnvC scope cl C X.env) fp) elt te)
    (hdb : (x == ("__debug__" : Str)) = false := by decide) (he : starEach (e :: es) X.env = (false, eval e X.env) :: starEach es X.env := by rfl) (hpl : (backTo cpos (starEach es X.env)).any (·.1) = false := by rfl)
    (hs : ∀ v, foldedSetIterable (.Call (.Name x p) (e :: es) [] cpos) X.env v = pure v := by intro _; rfl) :
    PE X (.ListComp elt [⟨tg, .Call (.Name x p) (e :: es) [] cpos, ifs, 0⟩] scope pos) (tLcY sp t g tt te (own.map (fun y : Str × Nat => y.2))) := by
  refine ⟨fun pins s σ H Q I h => ?_⟩
  rw [eval_ListComp]
  have hfree : ∀ y ∈ scope.names, y.2 = .free → ∃ c, X.env.cells.lookup y.1 = some c := fun y hy e => by
    rcases ok.free y hy e with k | k
    · exact I.ok.has _ (.inl k)
    · exact I.ok.has _ (.inr k)
  refine wpAny_comprehension_free (use := none) rfl hs (closure_ok hfree) ok.kind (fun y hy e => by rw [ok.uniq y hy, e]) ?_
  show wpAny _ _ (eval (.Call (.Name x p) (e :: es) [] cpos) X.env) _ _ s
  refine wpAny_Call_Name_kw (ld_glob I hx hm ?_ hdb)
  refine PySem.W.callWith_K (h₀ := X.base) I.ok.mod.kin hk (thn (ha.run cpos pins s σ H _ I h) fun us s1 ⟨vs, H1, I1, r1, n, q1⟩ => ⟨I1.kIn, ?_⟩) he hpl
  have hl : (us ++ []).length = ps.length := by rw [List.append_nil, ← r1.length]; exact F.len _ _ _ _ _ _ q1
  have b := hbn s1 us I1.kIn hl
  rw [List.append_nil] at b
  refine wpAny_call (codeAny_mono (F.run X.A X.stack s1 H1 ⟨us, []⟩ us vs n [] _ _ (hr.mono (by omega)) I1.env0 b r1 q1) fun res s2 hq => ?_)
  cases res with
  | error er => exact False.elim hq
  | ok fl =>
    cases fl with
    | brk => exact False.elim hq
    | cont => exact False.elim hq
    | next => exact False.elim hq
    | ret u =>
      obtain ⟨a, gi, c, go, rfl, ha1, hgo, hgc, ⟨nm, qn, hgd⟩, hgs, hfr, hos, hbare, hlim, hkp, wake⟩ := hq
      have isg : ∀ h : Heap, h.get? a = some go → h.IsGen a gi := fun h e => ⟨go, nm, qn, e, hgc, hgd, hgs⟩
      refine wpAny_pyIter_gen (isg _ hgo) ?_
      have rm : Room k X.A.in1 := ⟨hr.hd, by have := hr.dp; show X.A.depth + 3 * k + 5 < _; omega, by have := hr.un; show X.A.units + 1 + 16 * k + 200 < _; omega⟩
      have dep : X.A.depth < recursionLimit := by have := hr.dp; omega
      obtain ⟨X', gx, seg⟩ := wake X.A.in1 rm I1.ok.frames
      have hlow : X.env.locals < s1.heap.objs.size := I1.lt
      have hcells : ∀ y c, X.env.cells.lookup y = some c → c < s1.heap.objs.size := fun y c e => by
        obtain ⟨v, z⟩ := I1.cell y c e
        exact z.lt
      have hfsl : ∀ z ∈ X.fs, z < s1.heap.objs.size := fun z hz => by
        obtain ⟨_, o, ho, _⟩ := I1.ok.funs.mem hz
        exact Nat.lt_of_lt_of_le (Heap.lt_size ho) I1.sz
      have hfs' : X'.fs = frs X.stack := by
        show frs X'.outer = _
        rw [gx.outer]
      have hstk : ∀ z ∈ frs X.stack, z < s1.heap.objs.size := fun z hz => by
        rcases List.mem_cons.mp (I1.stkSub z hz) with q | q
        · rw [q]; exact hlow
        · exact hfsl z q
      have nocell : ∀ v, go.data ≠ .cell v := fun v z => by rw [hgd] at z; cases z
      have na1 : H1 a = none := I1.hok.fresh (Nat.le_of_lt ha1)
      have I2 : Inv X pins σ H1 s2 := I1.call' (ch := []) hos (Un.kept hkp) (I1.hok.kept hkp) hbare fun b z => by cases z
      have ha2 : a < s2.heap.objs.size := Heap.lt_size hgo
      -- the new list
      refine wpAny_newObj_type (newEnv_comp ?_) (by show 0 ≤ sizeLine; decide)
      generalize hD : s2.heap.objs.size = D
      have hDn : ∀ {H' : Hp}, HOk X.prog X.w H' s2.heap → H' D = none := fun {H'} z => z.fresh (Nat.le_of_eq hD)
      generalize hs3 : ({ s2 with heap := s2.heap.push { cls := .type "list", data := .seq ([] : List Value).toArray } } : Shared) = s3
      have h3 : s3.heap = s2.heap.push { cls := .type "list", data := .seq ([] : List Value).toArray } := by rw [← hs3]
      have kp3 : ∀ b o, s2.heap.get? b = some o → s3.heap.get? b = some o := fun b o e => by rw [h3]; exact Heap.get?_push_of_some _ e
      have I3 : Inv X pins σ H1 s3 := by
        rw [← hs3]
        exact I2.kept (t' := s2.toks) fun b o e => Heap.get?_push_of_some _ e
      have hD3 : s3.heap.get? D = some { cls := .type "list", data := .seq ([] : List Value).toArray 0 } := by
        rw [h3, ← hD]
        exact Heap.get?_push_size _ rfl
      have sz3 : s3.heap.objs.size = D + 1 := by rw [h3, Heap.size_push, hD]
      have aD : a < D := by rw [← hD]; exact ha2
      have nD : s1.heap.objs.size < D := Nat.lt_trans ha1 aD
      generalize hfp : (List.range s3.heap.objs.size).filter (fun b => decide (s1.heap.objs.size ≤ b)) = fp
      have fpm : ∀ b, b ∈ fp ↔ b < s3.heap.objs.size ∧ s1.heap.objs.size ≤ b := fun b => by
        rw [← hfp, List.mem_filter, List.mem_range]
        simp
      have f3 : ∀ b ∈ fp, FpOk X pins H1 b ∧ b < s3.heap.objs.size := fun b hb =>
        ⟨I1.fpOk ((fpm b).mp hb).2 (I1.hok.fresh ((fpm b).mp hb).2), ((fpm b).mp hb).1⟩
      have I4 := block_start I3 ok hN f3
      have pg := hg s3 H1 s3.heap.objs.size (cellsFrom (s3.heap.objs.size + 1) scope.names (cloFrom X.env.cells scope.names [])) fp
      have pt := ht s3 H1 s3.heap.objs.size (cellsFrom (s3.heap.objs.size + 1) scope.names (cloFrom X.env.cells scope.names [])) fp
      have pe := hel s3 H1 s3.heap.objs.size (cellsFrom (s3.heap.objs.size + 1) scope.names (cloFrom X.env.cells scope.names [])) fp
      show codeAny _ _ (.compStart (.ListComp elt [⟨tg, .Call (.Name x p) (e :: es) [] cpos, ifs, 0⟩] scope pos) 0 (.ref a) (.ref D) (compEnvC scope (cellsFrom (s3.heap.objs.size + 1) scope.names (cloFrom X.env.cells scope.names [])) s3.heap.objs.size X.env)) (compPost (model X.prog X.w) X.A X.xe none _ (.ref D) s3.heap.objs.size) { s3 with heap := pushCells (s3.heap.push { cls := .type "dict", data := .dict #[] }) scope.names }
      have cels : ∀ y c, (cellsFrom (s3.heap.objs.size + 1) scope.names (cloFrom X.env.cells scope.names [])).lookup y = some c → c < s1.heap.objs.size := fun y c e => by
        rw [nocellsF nc] at e
        rcases cloFrom_mem (PySem.mem_of_lookup e) with z | ⟨z1, z2⟩
        · cases z
        · obtain ⟨c', hc'⟩ := hfree _ z1 rfl
          have hc' : X.env.cells.lookup y = some c' := hc'
          rw [hc'] at z2
          have z2 : c = c' := z2
          rw [z2]
          exact hcells y c' hc'
      rw [nocells nc] at I4 ⊢
      generalize hC : s3.heap.objs.size = C at I4 pg pt pe cels f3 fpm ⊢
      have DC : D < C := by omega
      generalize hce : compEnvC scope (cellsFrom (C + 1) scope.names (cloFrom X.env.cells scope.names [])) C X.env = ce at I4 pg pt pe ⊢
      have cL : ce.locals = C := by subst hce; rfl
      have cC : ce.cells = cellsFrom (C + 1) scope.names (cloFrom X.env.cells scope.names []) := by subst hce; rfl
      generalize hs4 : ({ s3 with heap := s3.heap.push { cls := .type "dict", data := .dict #[] } } : Shared) = s4 at I4 ⊢
      have kp4 : ∀ b o, s3.heap.get? b = some o → s4.heap.get? b = some o := fun b o e => by rw [← hs4]; exact Heap.get?_push_of_some _ e
      have g4 : s4.gens = s2.gens := by rw [← hs4, ← hs3]
      have hexB : ∀ b, s1.heap.objs.size ≤ b → b < (X.blk s3 H1 scope ce fp).s_0.heap.objs.size → b ∈ (X.blk s3 H1 scope ce fp).ex := fun b h1 h2 => (fpm b).mpr ⟨by rw [← hC]; exact h2, h1⟩
      have cellsB : ∀ y c, (X.blk s3 H1 scope ce fp).env.cells.lookup y = some c → c < s1.heap.objs.size := fun y c e => by
        have e : ce.cells.lookup y = some c := e
        rw [cC] at e
        exact cels y c e
      have pinsB : ∀ q ∈ (X.blk s3 H1 scope ce fp).pn ++ [], q.1 < s1.heap.objs.size := fun q hq => absurd (show q ∈ ([] : List (Addr × Obj)) ++ [] from hq) (by simp)
      have xeB : XeG (X.blk s3 H1 scope ce fp) := fun _ _ _ _ z => z.elim
      have big : ∀ b, s1.heap.objs.size ≤ b → b ∉ frs X.stack := fun b z w => absurd (hstk b w) (Nat.not_lt.mpr z)
      have peOk : ∀ {H' : Hp} {s' : Shared} {oC : Obj} {its : List Value} {ct : Nat}, s'.heap.get? a = some go → H' a = none → s'.heap.get? C = some oC → H' C = none → (∀ v, oC.data ≠ .cell v) → s'.heap.get? D = some { cls := .type "list", data := .seq its.toArray ct } → H' D = none →
          PeOk X' [a, C, D] [(a, go), (C, oC), (D, { cls := .type "list", data := .seq its.toArray ct })] H' s' := fun {H' s' oC its ct} e1 n1 e2 n2 d2 e3 n3 => ⟨rfl, fun q hq => by
        have hq : q = (a, go) ∨ q = (C, oC) ∨ q = (D, { cls := .type "list", data := .seq its.toArray ct }) := by simpa using hq
        rw [gx.loc, hfs']
        rcases hq with rfl | rfl | rfl
        · exact ⟨e1, n1, Nat.ne_of_gt ha1, big _ (Nat.le_of_lt ha1), nocell⟩
        · exact ⟨e2, n2, Nat.ne_of_gt (Nat.lt_trans nD DC), big _ (Nat.le_of_lt (Nat.lt_trans nD DC)), d2⟩
        · exact ⟨e3, n3, Nat.ne_of_gt nD, big _ (Nat.le_of_lt nD), fun v z => by cases z⟩⟩
      have loop : codeAny (model X.prog X.w) X.A (.compLoop (.ListComp elt [⟨tg, .Call (.Name x p) (e :: es) [] cpos, ifs, 0⟩] scope pos) 0 (.ref a) (.ref D) ce) (compPost (model X.prog X.w) X.A X.xe none (EP X pins σ Q) (.ref D) C) s4 := by
        refine compLoop_any (fun m s' => ∃ (γ : L2.St) (H' : Hp) (gs : GenState) (oC : Obj) (its : List Value) (ct : Nat), Inv (X.blk s3 H1 scope ce fp) [] (wipe σ (own.map (fun y : Str × Nat => y.2))) H' s' ∧ s'.heap.get? a = some go ∧ H' a = none ∧ s'.heap.get? C = some oC ∧ (∀ v, oC.data ≠ .cell v) ∧ s'.heap.get? D = some { cls := .type "list", data := .seq its.toArray ct } ∧ H' D = none ∧ Vals (accOf γ) its ∧ its.length ≤ sizeLine ∧ s'.gens[gi]? = some gs ∧
          gs.Goes (model X.prog X.w) X.A.in1 (YRE X' (LkB (X.blk s3 H1 scope ce fp) (wipe σ (own.map (fun y : Str × Nat => y.2))) a C D go) (fun γ H2 => ∀ D, H2 D = none → Q (.ref D) (upd H2 D (.lst (accOf γ)))))
            (YP X' (LkB (X.blk s3 H1 scope ce fp) (wipe σ (own.map (fun y : Str × Nat => y.2))) a C D go) [a, C, D]
              (fun γ v H2 k => g v (wipe σ (own.map (fun y : Str × Nat => y.2))) H2 fun σ3 H3 => wipe σ3 (own.map (fun y : Str × Nat => y.2)) = wipe σ (own.map (fun y : Str × Nat => y.2)) ∧ tt σ3 H3 fun b H4 => if b = true then te σ3 H4 fun y H5 => (accOf γ).length < sizeLine ∧ k (γ ++ [some y]) H5 else k γ H4)) m (.send .none) (s'.setGen gi .running)) ?_ n ?_
        · rintro m s5 ⟨γ, H5, gs, oC, its, ct, I5, hgo5, na5, hC5, dC5, hD5, nD5, rv5, hz5, hg5, goes⟩
          have hgl : gi < s5.gens.size := (Array.getElem?_eq_some_iff.mp hg5).1
          refine wpAny_gsz (n := gi + 1) hgl (next_genS (F := fun _ s₀ s₁ => ∃ γ H₀ pe H, LkB (X.blk s3 H1 scope ce fp) (wipe σ (own.map (fun y : Str × Nat => y.2))) a C D go γ H₀ s₀ pe ∧ Went X' pe H₀ s₀ H s₁ ∧ ∀ D, H D = none → Q (.ref D) (upd H D (.lst (accOf γ))))
            (I5.ok.hd hc) I5.nolimit dep (isg _ hgo5) hg5 goes (fun v s₁ gs' hbg hsl hv => ?_) (fun s₁ hf h' hk' => ?_))
          · intro hsz
            obtain ⟨γ1, H₀, H6, pe6, hl6, y, kk, ⟨J0, oC0, its0, ct0, epe, rv0, hz0, hCs⟩, rv, W, hhl, q, kap⟩ := hv
            subst epe
            obtain ⟨hgo6, na6⟩ := W.pe (a, go) (by simp)
            obtain ⟨hC6, nC6⟩ := W.pe (C, oC0) (by simp)
            obtain ⟨hD6, nD6⟩ := W.pe (D, { cls := .type "list", data := .seq its0.toArray ct0 }) (by simp)
            have J : Inv (X.blk s3 H1 scope ce fp) [] (wipe σ (own.map (fun y : Str × Nat => y.2))) H6 (s₁.setGen gi gs') := turn_backB (s' := s₁.setGen gi gs') J0 gx hexB cellsB pinsB W (oC := oC0) (by rw [show (X.blk s3 H1 scope ce fp).env.locals = C from cL]; exact hCs) (by rw [show (X.blk s3 H1 scope ce fp).env.locals = C from cL]; exact hC6) (by rw [show (X.blk s3 H1 scope ce fp).env.locals = C from cL]; exact nC6) rfl rfl (allBare_setGen W.bare hbg)
            have hgi : gi < s₁.gens.size := by
              have q : (s₁.setGen gi gs').gens.size = s₁.gens.size := setGen_size _ _ _
              have : gi + 1 ≤ (s₁.setGen gi gs').gens.size := hsz
              omega
            have pinsOk : ∀ q ∈ (D, ({ cls := .type "list", data := .seq its0.toArray ct0 } : Obj)) :: (a, go) :: hl6, (s₁.setGen gi gs').heap.get? q.1 = some q.2 ∧ H6 q.1 = none ∧ q.1 ≠ (X.blk s3 H1 scope ce fp).env.locals ∧ q.1 ∉ (X.blk s3 H1 scope ce fp).fs ∧ ∀ v, q.2.data ≠ .cell v := fun q hq => by
              rw [show (X.blk s3 H1 scope ce fp).env.locals = C from cL]
              rcases List.mem_cons.mp hq with rfl | hq
              · exact ⟨hD6, nD6, Nat.ne_of_lt DC, big _ (Nat.le_of_lt nD), fun v z => by cases z⟩
              rcases List.mem_cons.mp hq with rfl | hq
              · exact ⟨hgo6, na6, Nat.ne_of_lt (Nat.lt_trans aD DC), big _ (Nat.le_of_lt ha1), nocell⟩
              · obtain ⟨h1, h2, h3, h4, h5⟩ := hhl q hq
                rw [gx.loc] at h3
                exact ⟨h1, h2, fun z => h4 (by rw [z]; simp), big _ h3, h5⟩
            have J' := J.pins_of pinsOk
            refine go_of (s := s₁.setGen gi gs') (o := go) (n := "generator") hgo6 hgc hgd (by decide) ?_
            refine thnF (pg_stay pg xeB J' rv q (g := gi) (x := gs') (setGen_at hgi) hsl) fun _ s7 ⟨⟨σ7, H7, I7, hw7, q7⟩, g7⟩ => ?_
            refine thnF (pts_stay pt xeB I7 q7 g7 hsl) fun b s8 ⟨⟨H8, I8, q8⟩, g8⟩ => ?_
            have hlw : (wipe σ (own.map (fun y : Str × Nat => y.2))).length = σ7.length := by rw [← hw7, wipe_length]
            have fin : ∀ {γ' : L2.St} {its' : List Value} {ct' : Nat} {s' : Shared} {H' : Hp}, Inv (X.blk s3 H1 scope ce fp) ((a, go) :: hl6) σ7 H' s' → s'.heap.get? D = some { cls := .type "list", data := .seq its'.toArray ct' } → H' D = none → Vals (accOf γ') its' → its'.length ≤ sizeLine → s'.gens[gi]? = some gs' → kk γ' H' →
                ∃ m', m' < m ∧ ∃ (γ : L2.St) (H' : Hp) (gs : GenState) (oC : Obj) (its : List Value) (ct : Nat), Inv (X.blk s3 H1 scope ce fp) [] (wipe σ (own.map (fun y : Str × Nat => y.2))) H' s' ∧ s'.heap.get? a = some go ∧ H' a = none ∧ s'.heap.get? C = some oC ∧ (∀ v, oC.data ≠ .cell v) ∧ s'.heap.get? D = some { cls := .type "list", data := .seq its.toArray ct } ∧ H' D = none ∧ Vals (accOf γ) its ∧ its.length ≤ sizeLine ∧ s'.gens[gi]? = some gs ∧
                gs.Goes (model X.prog X.w) X.A.in1 (YRE X' (LkB (X.blk s3 H1 scope ce fp) (wipe σ (own.map (fun y : Str × Nat => y.2))) a C D go) (fun γ H2 => ∀ D, H2 D = none → Q (.ref D) (upd H2 D (.lst (accOf γ)))))
                (YP X' (LkB (X.blk s3 H1 scope ce fp) (wipe σ (own.map (fun y : Str × Nat => y.2))) a C D go) [a, C, D]
                  (fun γ v H2 k => g v (wipe σ (own.map (fun y : Str × Nat => y.2))) H2 fun σ3 H3 => wipe σ3 (own.map (fun y : Str × Nat => y.2)) = wipe σ (own.map (fun y : Str × Nat => y.2)) ∧ tt σ3 H3 fun b H4 => if b = true then te σ3 H4 fun y H5 => (accOf γ).length < sizeLine ∧ k (γ ++ [some y]) H5 else k γ H4)) m' (.send .none) (s'.setGen gi .running) := fun {γ' its' ct' s' H'} I' hD' nD' rv' hz' eg hkk => by
              have K : Inv (X.blk s3 H1 scope ce fp) [] (wipe σ (own.map (fun y : Str × Nat => y.2))) H' s' := (I'.pins_of (pins' := []) (fun q hq => by cases hq)).weak hlw (fun j v e => by
                rw [← hw7] at e
                exact (wipe_some e).1)
              obtain ⟨_, ⟨oC', es', ep', hC', rC⟩, _⟩ := id K.loc
              have hC' : s'.heap.get? ce.locals = some oC' := hC'
              rw [cL] at hC'
              have dC' : ∀ v, oC'.data ≠ .cell v := fun v z => by
                have : oC'.data = .dict es' ep' := rC.1
                rw [this] at z
                cases z
              have nC : H' C = none := by
                have z : H' ce.locals = none := K.free
                rw [cL] at z
                exact z
              obtain ⟨b1, b2, _⟩ := I'.pin (a, go) (List.mem_append_right _ List.mem_cons_self)
              have K8 : Inv (X.blk s3 H1 scope ce fp) [] (wipe σ (own.map (fun y : Str × Nat => y.2))) H' (s'.setGen gi .running) := inv_gens K rfl rfl (allBare_setGen K.bare rfl)
              have z := kap γ' H' (s'.setGen gi .running) [(a, go), (C, oC'), (D, { cls := .type "list", data := .seq its'.toArray ct' })] hkk ⟨K8, oC', its', ct', rfl, rv', hz', hC'⟩ (on_of K8 gx) (peOk b1 b2 hC' nC dC' hD' nD') fun q hq => by
                obtain ⟨c1, c2, _⟩ := I'.pin q (List.mem_append_right _ (List.mem_cons_of_mem _ hq))
                exact ⟨c1, c2⟩
              cases m with
              | zero => exact z.elim
              | succ m => exact ⟨m, Nat.lt_succ_self m, γ', H', gs', oC', its', ct', K, b1, b2, hC', dC', hD', nD', rv', hz', eg, z⟩
            cases b with
            | false =>
              simp only [Bool.false_eq_true, if_false] at q8 ⊢
              obtain ⟨d1, d2, _⟩ := I8.pin (D, { cls := .type "list", data := .seq its0.toArray ct0 }) (List.mem_append_right _ List.mem_cons_self)
              exact fin (I8.pins_of fun q hq => I8.pin q (List.mem_append_right _ (List.mem_cons_of_mem _ hq))) d1 d2 rv0 hz0 g8 q8
            | true =>
              simp only [if_true] at q8 ⊢
              refine thnF (pe_stay pe xeB I8 q8 g8 hsl) fun u s9 ⟨⟨yv, H9, I9, r9, zl, nx⟩, g9⟩ => ?_
              obtain ⟨d1, d2, _⟩ := I9.pin (D, { cls := .type "list", data := .seq its0.toArray ct0 }) (List.mem_append_right _ List.mem_cons_self)
              refine append_at (D := D) (its := its0.toArray) (n := ct0) d1 (fun h' sb ho' => ?_) (by rw [List.size_toArray]; exact hz0)
              have I9' : Inv (X.blk s3 H1 scope ce fp) ((a, go) :: hl6) σ7 H9 s9 := I9.pins_of fun q hq => I9.pin q (List.mem_append_right _ (List.mem_cons_of_mem _ hq))
              have hlD : ∀ q ∈ (X.blk s3 H1 scope ce fp).pn ++ ((a, go) :: hl6), q.1 ≠ D := fun q hq => by
                have hq : q ∈ (a, go) :: hl6 := hq
                rcases List.mem_cons.mp hq with rfl | hq
                · exact Nat.ne_of_lt aD
                · obtain ⟨_, _, _, h4, _⟩ := hhl q hq
                  exact fun z => h4 (by rw [z]; simp)
              have I10 : Inv (X.blk s3 H1 scope ce fp) ((a, go) :: hl6) σ7 H9 { s9 with heap := h' } := I9'.turned (t' := s9.toks) (it := D) (fun b o hb e => (sb.2 b hb).trans e) d2 (by rw [show (X.blk s3 H1 scope ce fp).env.locals = C from cL]; exact Nat.ne_of_lt DC) (.inl ((fpm D).mpr ⟨DC, Nat.le_of_lt nD⟩)) (fun y c e z => by have := cellsB y c e; rw [z] at this; exact absurd nD (Nat.not_lt.mpr (Nat.le_of_lt this))) hlD
              have ln := rv0.length
              exact fin (its' := its0 ++ [u]) (ct' := ct0 + 1) I10 (by rw [ho']; simp) d2 (by rw [accOf_snoc]; exact rv0.append (.cons r9 .nil)) (by rw [List.length_append, List.length_singleton, ← ln]; exact zl) g9 nx
          · intro _
            obtain ⟨γ1, H₀, pe6, H6, ⟨J0, oC0, its0, ct0, epe, rv0, hz0, hCs⟩, W, q⟩ := hf
            subst epe
            obtain ⟨hC6, nC6⟩ := W.pe (C, oC0) (by simp)
            obtain ⟨hD6, nD6⟩ := W.pe (D, { cls := .type "list", data := .seq its0.toArray ct0 }) (by simp)
            have J1 : Inv (X.blk s3 H1 scope ce fp) [] (wipe σ (own.map (fun y : Str × Nat => y.2))) H6 (s₁.setGen gi .finished) := turn_backB (s' := s₁.setGen gi .finished) J0 gx hexB cellsB pinsB W (oC := oC0) (by rw [show (X.blk s3 H1 scope ce fp).env.locals = C from cL]; exact hCs) (by rw [show (X.blk s3 H1 scope ce fp).env.locals = C from cL]; exact hC6) (by rw [show (X.blk s3 H1 scope ce fp).env.locals = C from cL]; exact nC6) rfl rfl (allBare_setGen W.bare rfl)
            have J : Inv (X.blk s3 H1 scope ce fp) [] (wipe σ (own.map (fun y : Str × Nat => y.2))) H6 { s₁.setGen gi .finished with heap := h' } := J1.kept (t' := s₁.toks) hk'
            have hD7 : ({ s₁.setGen gi .finished with heap := h' } : Shared).heap.get? D = some { cls := .type "list", data := .seq its0.toArray ct0 } := hk' _ _ hD6
            generalize ({ s₁.setGen gi .finished with heap := h' } : Shared) = s6 at J hD7 ⊢
            have I7 : Inv X pins σ H6 s6 := I3.call' (ch := fp) J.os J.base J.hok J.bare fun b hb => ⟨(f3 b hb).1.2.2.2.1, (f3 b hb).1.2.1, (f3 b hb).1.2.2.2.2.1, (f3 b hb).1.2.2.2.2.2⟩
            have fD := (f3 D ((fpm D).mpr ⟨DC, Nat.le_of_lt nD⟩)).1
            have ln := rv0.length
            have I8 := inv_track I7 nD6 hD7 rv0 (by rw [ln]; exact hz0) (Nat.le_trans I1.sz (Nat.le_of_lt nD)) fD.2.1 fD.2.2.2.2.1 fD.2.2.2.2.2
            obtain ⟨m', hn, _⟩ := J.loc
            have hn : s6.heap.Ns ce.locals m' := hn
            rw [cL] at hn
            obtain ⟨f0, f1, f2, f3', f4, f5⟩ : FpOk X pins (upd H6 D (.lst (accOf γ1))) C := I3.fpOk (Nat.le_of_eq hC) (by rw [upd_ne (Nat.ne_of_gt DC)]; exact nC6)
            exact ⟨m', hn, fun h'' sb => ⟨.ref D, _, I8.turned (t' := s6.toks) (fun b o hb e => (sb.2 b hb).trans e) f0 f1 f3' f4 f5, rfl, q D nD6⟩⟩
        · have hC4 : s4.heap.get? C = some { cls := .type "dict", data := .dict #[] } := by
            rw [← hs4, ← hC]
            exact Heap.get?_push_size _ rfl
          have nC : H1 C = none := by
            have z : H1 ce.locals = none := I4.free
            rw [cL] at z
            exact z
          have dC : ∀ v, ({ cls := .type "dict", data := .dict #[] } : Obj).data ≠ .cell v := fun v z => by cases z
          have gen4 : s4.gens[gi]? = some (.fresh c) := by rw [g4]; exact hfr
          have I5 : Inv (X.blk s3 H1 scope ce fp) [] (wipe σ (own.map (fun y : Str × Nat => y.2))) H1 (s4.setGen gi .running) := inv_gens I4 rfl rfl (allBare_setGen I4.bare rfl)
          have nD1 : H1 D = none := I1.hok.fresh (Nat.le_of_lt nD)
          exact ⟨[], H1, _, _, [], 0, I4, kp4 _ _ (kp3 _ _ hgo), na1, hC4, dC, kp4 _ _ hD3, nD1, .nil, Nat.zero_le _, gen4, rfl,
            seg _ [a, C, D] (s4.setGen gi .running) [(a, go), (C, { cls := .type "dict", data := .dict #[] }), (D, { cls := .type "list", data := .seq ([] : List Value).toArray 0 })] (fun _ _ z => kp4 _ _ (kp3 _ _ z)) ⟨I5, _, [], 0, rfl, .nil, Nat.zero_le _, hC4⟩ (on_of I5 gx) (peOk (kp4 _ _ (kp3 _ _ hgo)) na1 hC4 nC dC (kp4 _ _ hD3) nD1)⟩
      exact codeAny_compStart_list loop (wpAny_pyIter_gen (isg _ (kp4 _ _ (kp3 _ _ hgo))) loop)
theorem pe_lcYD {elt : Expr} {ifs : List Expr} {scope : Scope} {own : List (Str × Nat)} {tt : TT} {te : TE} (D : Dgy X.prog X.w X.K X.mg X.base k x ps sp) (hr : Room (k + 3) X.A) (hx : Gl X x)
    (ha : PA X (e :: es) t) (hc : X.calm = true) (hN : X.N.Nodup) (ok : BlkOk X.N X.env.scope scope own) (nc : ∀ y ∈ scope.names, y.2 ≠ .cell)
    (hg : ∀ (s : Shared) (H : Hp) (C : Addr) (cl : List (Str × Addr)) (fp : List Addr), PG (X.blk s H scope (compEnvC scope cl C X.env) fp) tg g) (ht : ∀ (s : Shared) (H : Hp) (C : Addr) (cl : List (Str × Addr)) (fp : List Addr), PTs (X.blk s H scope (compEnvC scope cl C X.env) fp) ifs tt)
    (hel : ∀ (s : Shared) (H : Hp) (C : Addr) (cl : List (Str × Addr)) (fp : List Addr), PE (X.blk s H scope (compEnvC scope cl C X.env) fp) elt te)
    (hdb : (x == ("__debug__" : Str)) = false := by decide) (he : starEach (e :: es) X.env = (false, eval e X.env) :: starEach es X.env := by rfl) (hpl : (backTo cpos (starEach es X.env)).any (·.1) = false := by rfl)
    (hs : ∀ v, foldedSetIterable (.Call (.Name x p) (e :: es) [] cpos) X.env v = pure v := by intro _; rfl) :
    PE X (.ListComp elt [⟨tg, .Call (.Name x p) (e :: es) [] cpos, ifs, 0⟩] scope pos) (tLcY sp t g tt te (own.map (·.2))) := by
  obtain ⟨f, fd, F, hm, hk, hbn⟩ := D.ex
  exact pe_lcY F hr hx hm hk hbn ha hc hN ok nc hg ht hel hdb he hpl hs
theorem accOf_some (vs : List V) : accOf (vs.map some) = vs := by
  unfold accOf
  rw [List.filterMap_map]
  exact List.filterMap_some
end
end Gk
/-! tuple(..), list(..), dict(..) with the fragment given -/
namespace Gk
open PySem PySem.Spec PyProof.Rows L2
def rTupOf (K : PySem.W.Frag) : List V → Hp → VK → Prop := fun xs H Q => ∃ p ys, xs = [.ref p] ∧ ((SqL K H p ys ∧ ∀ l, H l = none → Q (.ref l) (upd H l (.tup ys))) ∨ (SqT K H p ys ∧ Q (.ref p) H))
theorem call_tupleK {X : Cx} (K : PySem.W.Frag) (h : X.K = K := by rfl) : CallR X (.type "tuple") (rTupOf K) := by
  subst h
  exact call_tuple_of
def rLstOf (K : PySem.W.Frag) : List V → Hp → VK → Prop := fun xs H Q => ∃ p ys, xs = [.ref p] ∧ (SqL K H p ys ∨ SqT K H p ys) ∧ ∀ l, H l = none → Q (.ref l) (upd H l (.lst ys))
theorem call_listK {X : Cx} (K : PySem.W.Frag) (h : X.K = K := by rfl) : CallR X (.type "list") (rLstOf K) := by
  subst h
  exact call_list_of
def rDictP (K : PySem.W.Frag) : List V → Hp → VK → Prop := fun xs H Q => ∃ (a : Addr) (ps : List Addr) (kvs : List (L2.Key × V)), xs = [.ref a] ∧ SqL K H a (ps.map V.ref) ∧ Paired (fun p kv => SqT K H p [kV kv.1, kv.2]) ps kvs ∧ ∀ p, H p = none → Q (.ref p) (upd H p (.dK (mergeK [] kvs)))
/-- dict(l), the keys numbers, texts, or tuples of those -/
theorem call_dict2K {X : Cx} (K : PySem.W.Frag) (hc : X.calm = true) (hu : X.A.units + 2 < cLine) (h : X.K = K := by rfl) : CallR X (.type "dict") (fun xs H Q => rDictP K xs H Q ∨ rDictT K xs H Q) := by
  subst h
  exact CallR.either (call_dictP hc) (cr_dictT hc hu)
end Gk
namespace Pf
open PySem PySem.Spec PyProof.Rows L2 Gk
/-- what comes of the clashes up to a place -/
theorem pre_next {p : Nat → Nat → Bool} {n i j : Nat} (hp : p i (i + 1 + j) = true) (hi : i + 1 + j < n) : ∃ r, allP p n n = (allP p n i ++ rowP p i j) ++ (((i : Nat) : Int), ((i + 1 + j : Nat) : Int)) :: r := by
  obtain ⟨r1, e1⟩ := allP_pre p n (show i + 1 ≤ n by omega)
  obtain ⟨r2, e2⟩ := rowP_pre p i (show j + 1 ≤ n - (i + 1) by omega)
  have e3 : rowP p i (j + 1) = rowP p i j ++ [(((i : Nat) : Int), ((i + 1 + j : Nat) : Int))] := by
    show rowP p i j ++ _ = _
    rw [if_pos hp]
  refine ⟨r2 ++ r1, ?_⟩
  rw [e1]
  show (allP p n i ++ rowP p i (n - (i + 1))) ++ r1 = _
  rw [e2, e3]
  simp
section
variable {P : Program} {w : World} {K : PySem.W.Frag} {mg : Str → Option Value} {base : Heap}
/-- all clashes, the caller going on between them: J tells how many it has seen -/
def spClashY (K : PySem.W.Frag) : SpY := fun vs H n γ dn yl => ∃ (t c : Addr) (l : List (Int × Int)) (k : Str) (z : Int) (x : Option Int) (J : Nat → L2.St → Hp → Prop), vs = [.ref t, .ref c] ∧ PairsAt K H t l ∧ Fair l ∧ 1 ≤ l.length ∧ l.length ≤ 64 ∧ SqT K H c (planV k z x) ∧ PlanOk k z x ∧
  n = (clashL l k z x).length ∧ J 0 γ H ∧ (∀ i γ H1 H2, J i γ H1 → Same H1 H2 → J i γ H2) ∧
  (∀ i γ H1 T y kk, (clashL l k z x)[i]? = some y → J i γ H1 → SqT K H1 T [.int y.1, .int y.2] → (∀ γ' H2, J (i + 1) γ' H2 → Keep K H1 H2 → kk γ' H2) → yl γ (.ref T) H1 kk) ∧
  ∀ γ H1, J (clashL l k z x).length γ H1 → dn γ H1
theorem gy_clash {f : Addr} {fd : FuncData} (DS : Dfn P w K mg base 5 "steady_cells" ["trace", "scheme"] (spSCells K)) (ml : mg "len" = none) (mr : mg "range" = none)
    (F : L2.Fun K "clashes" "clashes" sClash f fd) : GenYd P w K mg base 6 f fd ["trace", "scheme"] (spClashY K) := by
  refine gY_ok F gcClash (fun m x => ?_) (fun vs H n γ dn yl h => ?_) (fun cdv A outer s H vs n γ dn yl hr h => ?_)
  · rfl
  · obtain ⟨t, c, l, k, z, x, J, rfl, _⟩ := h
    rfl
  · obtain ⟨t, c, l, k, z, x, J, rfl, hl, fair, l1, l64, hc, ok, rfl, j0, mono, step, fin⟩ := h
    obtain ⟨xst, sqt, hAt, lt⟩ := PairsAt.out hl
    refine ⟨_, yss_cons (ys_ps fun _ _ => ps_set (i := 2) gcClash.nd rfl (.inl rfl) (pe_d DS hr (by decide) (by rfl) (pa_cons (pv 0) (pa_cons (pv 1) pa_nil))))
      (yss_one (ys_for (fun _ _ => pi_range1 rfl mr (pa_cons (pe_callB (call_lenK K) (by rfl) ml PySem.boot_len (pa_cons (pv 0) pa_nil)) pa_nil)) (fun _ _ => pg_name (i := 3) gcClash.nd rfl (.inl rfl))
        (yss_one (ys_for (fun _ _ => pi_range2 rfl mr (pa_cons (pe_op op_add (pv 3) pe_int) (pa_cons (pe_callB (call_lenK K) (by rfl) ml PySem.boot_len (pa_cons (pv 0) pa_nil)) pa_nil))) (fun _ _ => pg_name (i := 4) gcClash.nd rfl (.inl rfl))
          (yss_one (ys_if (fun _ _ => pt_mid (PW.pt (pw_and (pt_cmpR (op_eqDK K hr.units) (pe_ix (ix_tupK K) (pv 2) (pv 3) (fun _ _ => rfl)) (pe_ix (ix_tupK K) (pv 2) (pv 4) (fun _ _ => rfl)) (nomark _))
              (pw_and1 (pt_cmpR op_ne (pe_ix (ix_tupK K) (pe_ix (ix_tupK K) (pv 0) (pv 3) (fun _ _ => rfl)) pe_int (fun _ _ => rfl)) (pe_ix (ix_tupK K) (pe_ix (ix_tupK K) (pv 0) (pv 4) (fun _ _ => rfl)) pe_int (fun _ _ => rfl)) (nomark _))))))
            (yss_one (ys_yield fun _ _ => pe_tup (pa_cons (pv 3) (pa_cons (pv 4) pa_nil)))) yss_nil)))))), ?_⟩
    refine ⟨.ref t, rfl, .ref c, rfl, t, c, l, k, z, x, rfl, hl, fair, l1, l64, hc, ok, fun G1 c1 as1 s1 sqA dpA => ?_⟩
    refine ⟨.ref t, rfl, t, _, rfl, .inr (Same.seqT s1 sqt), _, rfl, by omega, by omega, for_rangeY (lo := 0) (n := ((xst.length : Nat) : Int).toNat)
        (fun i m γ σ H' => (∃ y3 y4, σ = [some (.ref t), some (.ref c), some (.ref c1), y3, y4]) ∧ Keep K G1 H' ∧ J (allP (clashP l k z x) l.length i).length γ H' ∧ m + (allP (clashP l k z x) l.length i).length = (clashL l k z x).length)
        ⟨⟨none, none, rfl⟩, Keep.refl, mono _ _ _ _ j0 s1, rfl⟩ (fun i m γ σ H4 hi hp => ?_) (fun m γ σ H4 hp => ?_)⟩
    · obtain ⟨⟨y3, y4, rfl⟩, kp, jj, cnt⟩ := hp
      have hil : i < l.length := by omega
      generalize hv : (0 : Int) + (i : Nat) = v
      obtain rfl : v = ((i : Nat) : Int) := by omega
      have sC := (Same.keep (K := K) s1).trans kp
      refine ⟨.int ((i : Nat) : Int), rfl, _, _, rfl, rfl, .ref t, rfl, t, _, rfl, .inr (sC _ _ sqt), _, _, rfl, ⟨by omega, by omega, by omega, by omega⟩, for_rangeY (lo := ((i : Nat) : Int) + 1) (n := (((xst.length : Nat) : Int) - (((i : Nat) : Int) + 1)).toNat)
        (fun j m γ σ H' => (∃ y4, σ = [some (.ref t), some (.ref c), some (.ref c1), some (.int ((i : Nat) : Int)), y4]) ∧ Keep K G1 H' ∧ J (allP (clashP l k z x) l.length i ++ rowP (clashP l k z x) i j).length γ H' ∧ m + (allP (clashP l k z x) l.length i ++ rowP (clashP l k z x) i j).length = (clashL l k z x).length)
        ⟨⟨_, rfl⟩, kp, by rw [rowP, List.append_nil]; exact jj, by rw [rowP, List.append_nil]; exact cnt⟩ (fun j m γ σ H5 hj hp => ?_) (fun m γ σ H5 hp => ?_)⟩
      · obtain ⟨⟨y4, rfl⟩, kp5, jj5, cnt5⟩ := hp
        generalize hw : ((i : Nat) : Int) + 1 + ((j : Nat) : Int) = u
        obtain rfl : u = ((i + 1 + j : Nat) : Int) := by omega
        have hjl : i + 1 + j < l.length := by omega
        have s15 := (Same.keep (K := K) s1).trans kp5
        have sq5 := s15 _ _ sqt
        have hA5 := pairs_keep hAt s15
        have dc := cells_keep dpA kp5
        obtain ⟨v1, g1, e1⟩ := cells_at dc hil
        obtain ⟨v2, g2, e2⟩ := cells_at dc hjl
        obtain ⟨a3, b3, g3, e3⟩ := out_at hA5 hil
        obtain ⟨a4, b4, g4, e4⟩ := out_at hA5 hjl
        have sqA5 := kp5 _ _ sqA
        refine ⟨fun b G => G = H5 ∧ b = clashP l k z x i (i + 1 + j), ?_, fun b G hb => ?_⟩
        · refine ⟨.ref c1, rfl, .int ((i : Nat) : Int), rfl, c1, as1, _, v1, rfl, rfl, sqA5, atI_of g1, .ref c1, rfl, .int ((i + 1 + j : Nat) : Int), rfl, c1, as1, _, v2, rfl, rfl, sqA5, atI_of g2, _, _, e1, e2, cl_shaped fair l1 ok _, cl_shaped fair l1 ok _, _, rfl, ite2 (fun a => ?_) (fun a => ?_)⟩
          · refine ⟨.ref t, rfl, .int ((i : Nat) : Int), rfl, t, xst, _, .ref a3, rfl, rfl, sq5, atI_of g3, a3, _, 1, .int (outAt l i), rfl, rfl, e3, rfl, .ref t, rfl, .int ((i + 1 + j : Nat) : Int), rfl, t, xst, _, .ref a4, rfl, rfl, sq5, atI_of g4, a4, _, 1, .int (outAt l (i + 1 + j)), rfl, rfl, e4, rfl, rfl, _, rfl, rfl, ?_⟩
            unfold clashP
            rw [a, Bool.true_and]
            congr 1
            rw [Bool.eq_iff_iff, decide_eq_true_eq, decide_eq_true_eq]
            exact ⟨fun z => V.int.inj z, fun z => by rw [z]⟩
          · refine ⟨rfl, ?_⟩
            unfold clashP
            rw [Bool.eq_false_iff.mpr a, Bool.false_and]
        · obtain ⟨rfl, rfl⟩ := hb
          refine ite2 (fun a => ?_) (fun a => ?_)
          · obtain ⟨r, er⟩ := pre_next a hjl
            have er : clashL l k z x = (allP (clashP l k z x) l.length i ++ rowP (clashP l k z x) i j) ++ (((i : Nat) : Int), ((i + 1 + j : Nat) : Int)) :: r := er
            have at1 : (clashL l k z x)[(allP (clashP l k z x) l.length i ++ rowP (clashP l k z x) i j).length]? = some (((i : Nat) : Int), ((i + 1 + j : Nat) : Int)) := by
              rw [er, List.getElem?_append_right (Nat.le_refl _), Nat.sub_self]
              rfl
            have up : (allP (clashP l k z x) l.length i ++ rowP (clashP l k z x) i (j + 1)).length = (allP (clashP l k z x) l.length i ++ rowP (clashP l k z x) i j).length + 1 := by
              rw [rowP, if_pos a, List.length_append, List.length_append, List.length_append]
              rfl
            have lt1 : (allP (clashP l k z x) l.length i ++ rowP (clashP l k z x) i j).length < (clashL l k z x).length := (List.getElem?_eq_some_iff.mp at1).1
            obtain ⟨m', rfl⟩ : ∃ m', m = m' + 1 := ⟨m - 1, by omega⟩
            refine ⟨m', rfl, .int ((i : Nat) : Int), rfl, .int ((i + 1 + j : Nat) : Int), rfl, by show 2 ≤ sizeLine; decide, fun T nT => ?_⟩
            refine step _ _ _ T _ _ at1 (mono _ _ _ _ jj5 (same_new nT)) (.inl (.inl upd_same)) fun γ' H2 j2 k2 => ⟨⟨_, rfl⟩, (kp5.trans (Same.keep (same_new nT))).trans k2, ?_, ?_⟩
            · rw [up]
              exact j2
            · rw [up]
              omega
          · refine ⟨⟨_, rfl⟩, kp5, ?_, ?_⟩
            · rw [rowP, if_neg a, List.append_nil]
              exact jj5
            · rw [rowP, if_neg a, List.append_nil]
              exact cnt5
      · obtain ⟨⟨y4, rfl⟩, kp5, jj5, cnt5⟩ := hp
        rw [show (((xst.length : Nat) : Int) - (((i : Nat) : Int) + 1)).toNat = l.length - (i + 1) by omega] at jj5 cnt5
        exact ⟨⟨_, _, rfl⟩, kp5, jj5, cnt5⟩
    · obtain ⟨⟨y3, y4, rfl⟩, kp, jj, cnt⟩ := hp
      rw [show ((xst.length : Nat) : Int).toNat = l.length by omega] at jj
      exact fin _ _ jj
end
end Pf
namespace Pf
open PySem PySem.Spec PyProof.Rows L2 Gk Fold
abbrev sRight : Stmt := topS 35
abbrev nRight : List Str := ["_law_box_here", "_law_loop_here", "_law_plan_here", "_law_by", "_law_due", "_law_size", "_law_later", "_law_homes", "_law_named", "_law_flipped", "_law_other_now", "_law_shifted", "_law_twice", "_law_home", "_law_deed", "_law_at", "_law_to"]
theorem scRight : FnScope nRight ["_law_box_here"] (defScope sRight) := ⟨rfl, rfl, rfl, by decide +kernel, rfl, by decide +kernel, by decide +kernel⟩
theorem cr_sortedK {X : Cx} (K : PySem.W.Frag) (h : X.K = K := by rfl) : CallR X (.builtin "sorted") (rSorted K) := by
  subst h
  exact cr_sorted
theorem mt_tup_indexK {X : Cx} (K : PySem.W.Frag) (h : X.K = K := by rfl) : MtR X "tuple.index" (rTupIndexI K) := by
  subst h
  exact mt_tup_indexI
theorem dpl_two {K : PySem.W.Frag} {H : Hp} : ∀ {xs ys : List V} {ds es : List PyData}, DpAll K H xs ds → DpAll K H ys es → DpAll K H (xs ++ ys) (ds ++ es)
  | _, _, _, _, .nil, h => h
  | _, _, _, _, .cons h t, g => .cons h (dpl_two t g)
theorem pairs_app {K : PySem.W.Frag} {H H' : Hp} {p : Addr} {l : List (Int × Int)} {xs : List V} (hA : DpAll K H xs (l.map pd)) (s : Same H H') (h : SqT K H' p (xs ++ xs)) : PairsAt K H' p (l ++ l) := by
  have h2 := pairs_keep hA (Same.keep s)
  exact .tup h (by rw [List.map_append]; exact dpl_two h2 h2)
section
variable {P : Program} {w : World} {K : PySem.W.Frag} {mg : Str → Option Value} {base : Heap}
def spRight : Sp := fun vs H Q _ => ∃ (b : Addr) (m : Nat), vs = [.ref b] ∧ Box m H b ∧ m ≤ 900000 ∧ ∀ H', But b H H' → Box (m + 300) H' b → Q (.bl true) H'
set_option maxHeartbeats 8000000 in
theorem ok_right {f : Addr} {fd : FuncData} (DTk : Dfn P w K mg base 1 "_law_take" ["_law_box_here", "_law_many"] spTake) (DL : Dfn P w K mg base 3 "_law_loop" ["_law_box_here", "_law_most", "_law_homes"] (spLoop K))
    (DP : Dfn P w K mg base 3 "_law_plan" ["_law_box_here", "_law_most"] (spPlan K)) (DN : Dfn P w K mg base 13 "_law_lengths" ["_law_loop_here"] (spLens K)) (DTu : Dfn P w K mg base 1 "turned" ["trace", "steps"] (spTurn K))
    (DB : Dfn P w K mg base 1 "branches" ["trace"] (spBrsF K)) (DY : Dgy P w K mg base 6 "clashes" ["trace", "scheme"] (spClashY K)) (DG : Dgn P w K mg base 6 "clashes" ["trace", "scheme"] (spClashG K))
    (DS : Dfn P w K mg base 5 "steady_cells" ["trace", "scheme"] (spSCells K)) (DR : Dfn P w K mg base 1 "root_of" ["items"] (spRoot K))
    (mt : mg "tuple" = none) (ms : mg "sorted" = none) (ml : mg "len" = none) (mi : mg "list" = none) (F : L2.Fun K "_law_right" "_law_right" sRight f fd) : FnG P w K mg base 14 f fd ["_law_box_here"] spRight := by
  refine fnG F scRight (fun vs H Q E h => ?_) (fun cdv A outer s H vs Q hr hg h => ?_)
  · obtain ⟨b, m, rfl, _⟩ := h
    rfl
  · obtain ⟨b, m, rfl, hb, hm, q⟩ := h
    refine ⟨_, C8.pss_cut (ps_asg (pe_tup (pa_cons (pe_d DL hr (by decide) (by rfl) (pa_cons (pv 0) (pa_cons pe_int (pa_cons pe_int pa_nil)))) (pa_cons (pe_d DP hr (by decide) (by rfl) (pa_cons (pv 0) (pa_cons pe_int pa_nil))) (pa_cons (pe_op op_sub (pe_d DTk hr (by decide) (by rfl) (pa_cons (pv 0) (pa_cons pe_int pa_nil))) pe_int) pa_nil))))
        (pg_tup (n := 3) (by rfl) (pgs_cons (pg_name (i := 1) scRight.nd rfl (.inl rfl)) (pgs_cons (pg_name (i := 2) scRight.nd rfl (.inl rfl)) (pgs_cons (pg_name (i := 3) scRight.nd rfl (.inr rfl)) pgs_nil)))))
      (C8.pss_cut (ps_asg (pe_tup (pa_cons (pe_d DN hr (by decide) (by rfl) (pa_cons (pv 1) pa_nil)) (pa_cons (pe_callB call_len_seq (by rfl) ml PySem.boot_len (pa_cons (pv 1) pa_nil)) (pa_cons (pe_d DTu hr (by decide) (by rfl) (pa_cons (pv 1) (pa_cons (pv 3) pa_nil))) pa_nil))))
        (pg_tup (n := 3) (by rfl) (pgs_cons (pg_name (i := 4) scRight.nd rfl (.inl rfl)) (pgs_cons (pg_name (i := 5) scRight.nd rfl (.inr rfl)) (pgs_cons (pg_name (i := 6) scRight.nd rfl (.inl rfl)) pgs_nil)))))
      (C8.pss_cut (ps_set (i := 7) scRight.nd rfl (.inr rfl) (pe_d DB hr (by decide) (by rfl) (pa_cons (pv 1) pa_nil)))
      (C8.pss_cut (ps_set (i := 8) scRight.nd rfl (.inl rfl) (pe_callTy call_tuple_of (by rfl) mt (by decide +kernel) (pa_cons (pe_lc (own := [("_law_home", 13), ("_law_deed", 14)]) (g := gTup K 2 (gCons (gName 13) (gCons (gName 14) gNil))) (by rfl) scRight.nd (pi_tup (pv 1))
          (blkOk_by (N := nRight) (sc := defScope sRight) (by decide +kernel)) (fun _ _ _ _ _ => pg_tup rfl (pgs_cons (pg_name (i := 13) scRight.nd rfl (.inl rfl)) (pgs_cons (pg_name (i := 14) scRight.nd rfl (.inl rfl)) pgs_nil)))
          (fun _ _ _ _ _ => pts_nil) (fun _ _ _ _ _ => pe_tup (pa_cons (pe_bmF PySem.F.slot_tuple_index PySem.F.type_tuple_index (mt_tup_indexK K) (pv 7) (pa_cons (pv 13) pa_nil)) (pa_cons (pv 14) pa_nil)))) pa_nil)))
      (C8.pss_cut (ps_set (i := 9) scRight.nd rfl (.inl rfl) (pe_callTy call_tuple_of (by rfl) mt (by decide +kernel) (pa_cons (pe_lc (own := [("_law_home", 13), ("_law_deed", 14)]) (g := gTup K 2 (gCons (gName 13) (gCons (gName 14) gNil))) (by rfl) scRight.nd (pi_tup (pv 1))
          (blkOk_by (N := nRight) (sc := defScope sRight) (by decide +kernel)) (fun _ _ _ _ _ => pg_tup rfl (pgs_cons (pg_name (i := 13) scRight.nd rfl (.inl rfl)) (pgs_cons (pg_name (i := 14) scRight.nd rfl (.inl rfl)) pgs_nil)))
          (fun _ _ _ _ _ => pts_nil) (fun _ _ _ _ _ => pe_tup (pa_cons (pv 13) (pa_cons (pe_op op_sub pe_int (pv 14)) pa_nil)))) pa_nil)))
      (C8.pss_cut (ps_for PassesOwn.never rfl (pi_tup (pe_tup (pa_cons (pv 6) (pa_cons (pe_op op_catU (pv 1) (pv 1)) (pa_cons (pv 8) (pa_cons (pv 9) pa_nil)))))) (pg_name (i := 10) scRight.nd rfl (.inl rfl))
          (pss_one (ps_if (pt_cmpR (op_neD hr.units) (pe_d DN hr (by decide) (by rfl) (pa_cons (pv 10) pa_nil)) (pv 4) (nomark _)) (pss_one (ps_ret pe_bl)) pss_nil)))
      (C8.pss_cut (ps_set (i := 11) scRight.nd rfl (.inl rfl) (pe_callB cr_sortedPO (by rfl) ms (by decide +kernel) (pa_cons (pe_lcYD (own := [("_law_at", 15), ("_law_to", 16)]) (g := gTup K 2 (gCons (gName 15) (gCons (gName 16) gNil))) DY (hr.mono (by decide)) (by rfl) (pa_cons (pv 1) (pa_cons (pv 2) pa_nil)) rfl scRight.nd
          (blkOk_by (N := nRight) (sc := defScope sRight) (by decide +kernel)) (by decide +kernel) (fun _ _ _ _ _ => pg_tup rfl (pgs_cons (pg_name (i := 15) scRight.nd rfl (.inl rfl)) (pgs_cons (pg_name (i := 16) scRight.nd rfl (.inl rfl)) pgs_nil))) (fun _ _ _ _ _ => pts_nil)
          (fun _ _ _ _ _ => pe_callTy (call_tupleK K) (by rfl) mt (by decide +kernel) (pa_cons (pe_callB (cr_sortedK K) (by rfl) ms (by decide +kernel) (pa_cons (pe_lst (pa_cons (pe_op op_mod (pe_op op_sub (pv 15) (pv 3)) (pv 5)) (pa_cons (pe_op op_mod (pe_op op_sub (pv 16) (pv 3)) (pv 5)) pa_nil))) pa_nil)) pa_nil))) pa_nil)))
      (C8.pss_cut (ps_set (i := 12) scRight.nd rfl (.inl rfl) (pe_op op_repU (pe_d DS hr (by decide) (by rfl) (pa_cons (pv 1) (pa_cons (pv 2) pa_nil))) pe_int))
      (C8.pss_cut (ps_if (PW.pt (pw_or (pt_cmpR (op_neD hr.units) (pe_listD DG hr (by decide) (by rfl) (by rfl) mi (pa_cons (pv 6) (pa_cons (pv 2) pa_nil))) (pv 11) (nomark _))
          (pw_or1 (pt_cmpR (op_neD hr.units) (pe_d DS hr (by decide) (by rfl) (pa_cons (pe_op op_catU (pv 1) (pv 1)) (pa_cons (pv 2) pa_nil))) (pv 12) (nomark _))))) (pss_one (ps_ret pe_bl)) pss_nil)
      (pss_one (ps_ret (pe_and (pe_cmpR (op_eqD hr.units) (pe_d DR hr (by decide) (by rfl) (pa_cons (pe_op op_catU (pv 1) (pv 1)) pa_nil)) (pe_d DR hr (by decide) (by rfl) (pa_cons (pv 1) pa_nil)) (nomark _))
          (pe_one (pe_cmpR op_eq (pe_callB call_len_seq (by rfl) ml PySem.boot_len (pa_cons (pe_d DR hr (by decide) (by rfl) (pa_cons (pv 6) pa_nil)) pa_nil)) (pe_callB call_len_seq (by rfl) ml PySem.boot_len (pa_cons (pe_d DR hr (by decide) (by rfl) (pa_cons (pv 1) pa_nil)) pa_nil)) (nomark _)))))))))))))), ?_⟩
    have r0 : ∀ {n : Nat} {d : Int}, 1 ≤ n → (d % (n : Int)).toNat < n := fun {n d} h => by
      have m0 : 0 ≤ d % (n : Int) := Int.emod_nonneg _ (by omega)
      have m1 : d % (n : Int) < n := Int.emod_lt_of_pos _ (by omega)
      omega
    refine ⟨fun σ H' => ∃ (t c : Addr) (l : List (Int × Int)) (k : Str) (z : Int) (x : Option Int) (by' : Int), σ = [some (.ref b), some (.ref t), some (.ref c), some (.int by'), none, none, none, none, none, none, none, none, none, none, none, none, none] ∧ PairsAt K H' t l ∧ Fair l ∧ 1 ≤ l.length ∧ l.length ≤ 16 ∧ SqT K H' c (planV k z x) ∧ PlanOk k z x ∧ -20 ≤ by' ∧ by' < 20 ∧ But b H H' ∧ Box (m + 261) H' b, ?_, fun σ H1 hM => ?_⟩
    · refine ⟨.ref b, rfl, b, 16, 4, m, rfl, by decide, by decide, by decide, by decide, hb, by omega, fun H1 t l bt1 bx1 hl l1 l16 fair => ?_⟩
      refine ⟨.ref b, rfl, b, 8, m + 250, rfl, by decide, by decide, bx1, by omega, fun H2 c k z x bt2 bx2 cb c0 hc ok => ?_⟩
      refine ⟨.ref b, rfl, b, 40, m + 260, rfl, by decide, by decide, bx2, by omega, fun d H3 d0 d1 bt3 bx3 sm3 => ⟨_, _, rfl, rfl, by show 3 ≤ sizeLine; decide, fun p np => ?_⟩⟩
      have sp := same_new (o := .tup [.ref t, .ref c, .int (d - 20)]) np
      refine ⟨p, _, rfl, .inl (.inl upd_same), rfl, _, _, rfl, _, _, rfl, _, _, rfl, rfl, ?_⟩
      have hc3 : SqT K H3 c (planV k z x) := But.keep bt3 bx2 _ _ (.inl (.inl hc))
      exact ⟨t, c, l, k, z, x, d - 20, rfl, ((hl.keep (But.keep bt2 bx1)).keep (But.keep bt3 bx2)).keep (Same.keep sp), fair, l1, by omega, Same.seqT sp hc3, ok, by omega, by omega, ((bt1.trans bt2).trans bt3).trans (But.of_same sp), bx3.same sp⟩
    obtain ⟨t, c, l, k, z, x, by', rfl, hl, fair, l1, l16, hc, ok, by0, by1, bt1, bx1⟩ := hM
    have l64 : l.length ≤ 64 := by omega
    have hr0 := r0 (d := by') l1
    have frR := fair_rot fair (by' % (l.length : Int)).toNat
    have lenR := rot_len (l := l) (r := (by' % (l.length : Int)).toNat) (by omega)
    obtain ⟨xst, sqt, hAt, lxt⟩ := PairsAt.out hl
    refine ⟨fun σ H' => ∃ (du la : Addr) (e1 e2 e3 : Nat), σ = [some (.ref b), some (.ref t), some (.ref c), some (.int by'), some (.ref du), some (.int (l.length : Nat)), some (.ref la), none, none, none, none, none, none, none, none, none, none] ∧ Same H1 H' ∧ e1 ≤ 64 ∧ e2 ≤ 64 ∧ e3 ≤ 64 ∧ Lens l e1 e2 e3 ∧ H' du = some (.lst [.int (e1 : Int), .int (e2 : Int), .int (e3 : Int)]) ∧ PairsAt K H' la (rot l (by' % (l.length : Int)).toNat), ?_, fun σ H2 hM => ?_⟩
    · refine ⟨.ref t, rfl, t, l, rfl, hl, fair, l1, l64, fun H2 du e1 e2 e3 s2 a1 a2 a3 le hd => ?_⟩
      refine ⟨.ref t, rfl, t, xst, rfl, .inr (Same.seqT s2 sqt), .ref t, rfl, .int by', rfl, t, l, by', rfl, hl.keep (Same.keep s2), l1, l64, fun H3 la s3 hp => ⟨by show 3 ≤ sizeLine; decide, fun p np => ?_⟩⟩
      have sp := same_new (o := .tup [.ref du, .int (xst.length : Nat), .ref la]) np
      refine ⟨p, _, rfl, .inl (.inl upd_same), rfl, _, _, rfl, _, _, rfl, _, _, rfl, rfl, ?_⟩
      rw [lxt]
      exact ⟨du, la, e1, e2, e3, rfl, (s2.trans s3).trans (by rw [lxt] at sp; exact sp), a1, a2, a3, le, by rw [lxt] at sp; exact sp _ _ (s3 _ _ hd), by rw [lxt] at sp; exact hp.keep (Same.keep sp)⟩
    obtain ⟨du, la, e1, e2, e3, rfl, s12, a1, a2, a3, le, hdu, hla⟩ := hM
    have hl2 := hl.keep (Same.keep s12)
    -- the branches
    refine ⟨fun σ H' => ∃ (ho : Addr) (bs : List Int), σ = [some (.ref b), some (.ref t), some (.ref c), some (.int by'), some (.ref du), some (.int (l.length : Nat)), some (.ref la), some (.ref ho), none, none, none, none, none, none, none, none, none] ∧ Same H2 H' ∧ TupF H' ho (bs.map V.int) ∧ bs.Pairwise (· < ·) ∧ ∀ k, k ∈ bs ↔ ∃ x ∈ l, x.1 = k, ?_, fun σ H3 hM => ?_⟩
    · exact ⟨.ref t, rfl, t, l, rfl, hl2, fair, fun H3 ho bs s3 tp pw mem => ⟨ho, bs, rfl, s3, tp, pw, mem⟩⟩
    obtain ⟨ho, bs, rfl, s23, hho, pw, mem⟩ := hM
    have s13 := s12.trans s23
    have sqt3 := Same.seqT s13 sqt
    have hA3 := pairs_keep hAt (Same.keep s13)
    -- the trace with the branches named
    refine ⟨fun σ H' => ∃ nm : Addr, σ = [some (.ref b), some (.ref t), some (.ref c), some (.int by'), some (.ref du), some (.int (l.length : Nat)), some (.ref la), some (.ref ho), some (.ref nm), none, none, none, none, none, none, none, none] ∧ Same H3 H' ∧ PairsAt K H' nm (l.map fun p => (((bs.idxOf p.1 : Nat) : Int), p.2)), ?_, fun σ H4 hM => ?_⟩
    · refine ⟨.ref t, rfl, t, rfl, ⟨_, sqt3⟩, fun D nD => lc_tup (K := K) (a := t) (xs := xst) (fun i H' => Same H3 H' ∧ ∃ es, H' D = some (.lst es) ∧ DpAll K H' es (((l.take i).map fun p => (((bs.idxOf p.1 : Nat) : Int), p.2)).map pd)) ⟨same_new nD, [], upd_same, .nil⟩ (fun i H' _ hp => Same.seqT hp.1 sqt3) (fun i v H4 hv hp => ?_) (fun H4 hp => ?_)⟩
      · obtain ⟨sm, es, hD, hE⟩ := hp
        obtain ⟨y, a, hy, rfl, sa⟩ := pd_at hA3 hv
        have ym : y.1 ∈ bs := (mem y.1).mpr ⟨y, List.mem_of_getElem? hy, rfl⟩
        have il : bs.idxOf y.1 < bs.length := List.idxOf_lt_length_iff.mpr ym
        have les : es.length ≤ i := by
          rw [lc_len hE, List.length_map, List.length_take]
          omega
        have ix : i < l.length := (List.getElem?_eq_some_iff.mp hy).1
        refine ⟨a, _, rfl, Same.seqT sm sa, rfl, _, _, rfl, _, _, rfl, rfl, rfl, .ref ho, rfl, ⟨ho, _, rfl, hho.same sm⟩, .int y.1, rfl, ho, bs, y.1, bs.idxOf y.1, rfl, rfl, (hho.same sm).seq, ?_, ?_, .int y.2, rfl, by show 2 ≤ sizeLine; decide, fun T nT => ?_⟩
        · rw [List.getElem?_eq_getElem il, List.getElem_idxOf]
        · intro j hj e
          have := List.not_of_lt_findIdx (p := (· == y.1)) (xs := bs) hj
          have hjl : j < bs.length := by omega
          rw [List.getElem?_eq_getElem hjl] at e
          have e := Option.some.inj e
          rw [e] at this
          simp at this
        · have sT := same_new (o := HO.tup [V.int ((bs.idxOf y.1 : Nat) : Int), .int y.2]) nT
          refine ⟨es, sT _ _ hD, small1000 (by omega), ?_, es ++ [.ref T], upd_same, ?_⟩
          · intro a o h
            rw [upd_ne (ne_of_none h nD)]
            exact sT _ _ (sm _ _ h)
          · rw [List.take_add_one, hy, List.map_append]
            exact pairs_snoc hE hD nT
      · obtain ⟨sm, es, hD, hE⟩ := hp
        rw [lxt, List.take_length] at hE
        exact ⟨D, es, rfl, .inl ⟨.inl (.inl hD), fun p np => ⟨p, rfl, sm.trans (same_new np), .tup (.inl (.inl upd_same)) (pairs_keep hE (Same.keep (same_new np)))⟩⟩⟩
    obtain ⟨nm, rfl, s34, hnm⟩ := hM
    have s14 := s13.trans s34
    have sqt4 := Same.seqT s14 sqt
    have hA4 := pairs_keep hAt (Same.keep s14)
    -- the outcomes exchanged
    refine ⟨fun σ H' => ∃ fl : Addr, σ = [some (.ref b), some (.ref t), some (.ref c), some (.int by'), some (.ref du), some (.int (l.length : Nat)), some (.ref la), some (.ref ho), some (.ref nm), some (.ref fl), none, none, none, none, none, none, none] ∧ Same H4 H' ∧ PairsAt K H' fl (l.map fun p => (p.1, 1 - p.2)), ?_, fun σ H5 hM => ?_⟩
    · refine ⟨.ref t, rfl, t, rfl, ⟨_, sqt4⟩, fun D nD => lc_tup (K := K) (a := t) (xs := xst) (fun i H' => Same H4 H' ∧ ∃ es, H' D = some (.lst es) ∧ DpAll K H' es (((l.take i).map fun p => (p.1, 1 - p.2)).map pd)) ⟨same_new nD, [], upd_same, .nil⟩ (fun i H' _ hp => Same.seqT hp.1 sqt4) (fun i v H5 hv hp => ?_) (fun H5 hp => ?_)⟩
      · obtain ⟨sm, es, hD, hE⟩ := hp
        obtain ⟨y, a, hy, rfl, sa⟩ := pd_at hA4 hv
        have les : es.length ≤ i := by
          rw [lc_len hE, List.length_map, List.length_take]
          omega
        have ix : i < l.length := (List.getElem?_eq_some_iff.mp hy).1
        refine ⟨a, _, rfl, Same.seqT sm sa, rfl, _, _, rfl, _, _, rfl, rfl, rfl, .int y.1, rfl, .int y.2, rfl, _, _, rfl, rfl, by show 2 ≤ sizeLine; decide, fun T nT => ?_⟩
        have sT := same_new (o := HO.tup [V.int y.1, .int (1 - y.2)]) nT
        refine ⟨es, sT _ _ hD, small1000 (by omega), ?_, es ++ [.ref T], upd_same, ?_⟩
        · intro a o h
          rw [upd_ne (ne_of_none h nD)]
          exact sT _ _ (sm _ _ h)
        · rw [List.take_add_one, hy, List.map_append]
          exact pairs_snoc hE hD nT
      · obtain ⟨sm, es, hD, hE⟩ := hp
        rw [lxt, List.take_length] at hE
        exact ⟨D, es, rfl, .inl ⟨.inl (.inl hD), fun p np => ⟨p, rfl, sm.trans (same_new np), .tup (.inl (.inl upd_same)) (pairs_keep hE (Same.keep (same_new np)))⟩⟩⟩
    obtain ⟨fl, rfl, s45, hfl⟩ := hM
    have s15 := s14.trans s45
    have s35 := s34.trans s45
    have s25 := s23.trans s35
    have bs8 := brs_few fair pw mem
    have idx : ∀ p ∈ l, bs.idxOf p.1 < bs.length := fun p hp => List.idxOf_lt_length_iff.mpr ((mem p.1).mpr ⟨p, hp, rfl⟩)
    have frN : Fair (l.map fun p => (((bs.idxOf p.1 : Nat) : Int), p.2)) := fair_named fair (φ := fun b => ((bs.idxOf b : Nat) : Int)) fun p hp => by
      have := idx p hp
      omega
    have lkN : Like l (l.map fun p => (((bs.idxOf p.1 : Nat) : Int), p.2)) 0 0 id := like_named l1 (φ := fun b => ((bs.idxOf b : Nat) : Int)) fun p hp q hq e => by
      have e : bs.idxOf p.1 = bs.idxOf q.1 := by omega
      have h1 := List.getElem_idxOf (idx p hp)
      have h2 := List.getElem_idxOf (idx q hq)
      rw [← h1, ← h2]
      congr 1
    have len2 : (l ++ l).length = l.length + l.length := List.length_append
    have catS : xst.length + xst.length ≤ sizeLine := Nat.le_trans (show _ ≤ 1000 by omega) (by decide)
    -- the four other traces
    refine ⟨fun σ H' => (∃ y10, σ = [some (.ref b), some (.ref t), some (.ref c), some (.int by'), some (.ref du), some (.int (l.length : Nat)), some (.ref la), some (.ref ho), some (.ref nm), some (.ref fl), y10, none, none, none, none, none, none]) ∧ Same H5 H', ?_, fun σ H6 hM => ?_⟩
    · refine ⟨.ref la, rfl, .ref t, rfl, .ref t, rfl, t, t, xst, xst, rfl, rfl, Same.seqT s15 sqt, Same.seqT s15 sqt, catS, fun p2 H6 s6 tp => ⟨.ref nm, rfl, .ref fl, rfl, by show 4 ≤ sizeLine; decide, fun T nT => ?_⟩⟩
      have h2 : PairsAt K H6 p2 (l ++ l) := pairs_app (pairs_keep hAt (Same.keep s15)) s6 tp
      have sT := same_new (o := HO.tup [.ref la, .ref p2, .ref nm, .ref fl]) nT
      refine ⟨T, rfl, ⟨_, .inl (.inl upd_same)⟩, for_tup (K := K) (xs := [.ref la, .ref p2, .ref nm, .ref fl]) (fun i σ H' => (∃ y10, σ = [some (.ref b), some (.ref t), some (.ref c), some (.int by'), some (.ref du), some (.int (l.length : Nat)), some (.ref la), some (.ref ho), some (.ref nm), some (.ref fl), y10, none, none, none, none, none, none]) ∧ Same (upd H6 T (.tup [.ref la, .ref p2, .ref nm, .ref fl])) H') ⟨⟨_, rfl⟩, Same.refl _⟩ (fun i σ H' _ hp => .inl (.inl (hp.2 _ _ upd_same))) (fun i v σ H7 hv hp => ?_) (fun σ H7 hp => ?_)⟩
      · obtain ⟨⟨y10, rfl⟩, s7⟩ := hp
        have s67 := sT.trans s7
        have s57 := s6.trans s67
        have key : ∃ (q : Addr) (l' : List (Int × Int)) (a b : Nat) (f : Bool → Bool), v = .ref q ∧ PairsAt K H7 q l' ∧ Fair l' ∧ 1 ≤ l'.length ∧ l'.length ≤ 64 ∧ Like l l' a b f := by
          match i, hv with
          | 0, hv => exact ⟨la, _, _, _, _, (Option.some.inj hv).symm, hla.keep (Same.keep (s25.trans s57)), frR, by omega, by omega, like_rot hr0⟩
          | 1, hv => exact ⟨p2, _, _, _, _, (Option.some.inj hv).symm, h2.keep (Same.keep s67), fair_two fair, by omega, by omega, like_two l1⟩
          | 2, hv => exact ⟨nm, _, _, _, _, (Option.some.inj hv).symm, hnm.keep (Same.keep (s45.trans s57)), frN, by rw [List.length_map]; exact l1, by rw [List.length_map]; exact l64, lkN⟩
          | 3, hv => exact ⟨fl, _, _, _, _, (Option.some.inj hv).symm, hfl.keep (Same.keep s57), fair_flip fair, by rw [List.length_map]; exact l1, by rw [List.length_map]; exact l64, like_flip fair l1⟩
        obtain ⟨q', l', a', b', f', rfl, hq, fr', l1', l64', lk⟩ := key
        refine ⟨.ref q', rfl, q', l', rfl, hq, fr', l1', l64', fun H8 du2 f1 f2 f3 s8 b1 b2 b3 le2 hd2 => ?_⟩
        obtain ⟨rfl, rfl, rfl⟩ := lk.lens fair l1 l64 fr' l1' l64' le le2
        refine ⟨.ref du, rfl, .list ([(f1 : Int), (f2 : Int), (f3 : Int)].map PyData.int), .list ([(f1 : Int), (f2 : Int), (f3 : Int)].map PyData.int), ints_dp hd2, ints_dp ((s25.trans (s57.trans s8)) _ _ hdu), shaped3 _ _ _, shaped3 _ _ _, _, rfl, ite2 (fun cc => ?_) (fun _ => ⟨⟨_, rfl⟩, s7.trans s8⟩)⟩
        rw [ints_eqv (fun n hn => by
          simp only [List.mem_cons, List.not_mem_nil, or_false] at hn
          rcases hn with rfl | rfl | rfl <;> omega)] at cc
        exact absurd cc (by decide)
      · exact ⟨hp.1, (s6.trans sT).trans hp.2⟩
    obtain ⟨⟨y10, rfl⟩, s56⟩ := hM
    have s16 := s15.trans s56
    -- the clashes at their new positions
    refine ⟨fun σ H' => ∃ (sh : Addr) (ys : List V), σ = [some (.ref b), some (.ref t), some (.ref c), some (.int by'), some (.ref du), some (.int (l.length : Nat)), some (.ref la), some (.ref ho), some (.ref nm), some (.ref fl), y10, some (.ref sh), none, none, none, none, none] ∧ Same H6 H' ∧ H' sh = some (.lst ys) ∧ DpAll K H' ys ((clashL (rot l (by' % (l.length : Int)).toNat) k z x).map pd), ?_, fun σ H7 hM => ?_⟩
    · refine ⟨.ref t, rfl, .ref c, rfl, _, t, c, l, k, z, x, fun i γ H' => Same H6 H' ∧ ∃ es : List V, γ = es.map some ∧ Tw H' es (((clashL l k z x).take i).map (shP by' (l.length : Nat))), rfl, hl.keep (Same.keep s16), fair, l1, l64, Same.seqT s16 hc, ok, rfl, ⟨Same.refl _, [], rfl, Tw.nil⟩, fun i γ Ha Hb ⟨sa, es, e, tw⟩ sb => ⟨sa.trans sb, es, e, tw.same sb⟩, fun i γ Ha T y kk hy hj hT nx => ?_, fun γ Ha hj => ?_⟩
      · obtain ⟨sa, es, rfl, tw⟩ := hj
        have few : (clashL l k z x).length ≤ 3000 := allP_many l64
        have il := (List.getElem?_eq_some_iff.mp hy).1
        have les : es.length ≤ i := by
          have := congrArg List.length tw.2
          rw [List.length_map, List.length_map, List.length_take] at this
          omega
        refine ⟨T, _, rfl, hT, rfl, _, _, rfl, _, _, rfl, rfl, rfl, .int y.1, rfl, .int by', rfl, _, _, rfl, rfl, .int (l.length : Nat), rfl, _, _, rfl, rfl, by show (0 : Int) < (l.length : Nat); omega, .int y.2, rfl, .int by', rfl, _, _, rfl, rfl, .int (l.length : Nat), rfl, _, _, rfl, rfl, by show (0 : Int) < (l.length : Nat); omega, by show 2 ≤ sizeLine; decide, fun D1 nD1 => ?_⟩
        refine ⟨D1, [(y.1 - by') % (l.length : Nat), (y.2 - by') % (l.length : Nat)], rfl, SqL.of upd_same, by show 2 < 64; decide, fun ns p1 pm pw1 np1 => ⟨p1, _, rfl, .inl ⟨SqL.of upd_same, fun T2 nT2 => ?_⟩⟩⟩
        rw [sort_two pm pw1]
        rw [sort_two pm pw1] at nT2
        have s2 := ((same_new (o := HO.lst [V.int ((y.1 - by') % (l.length : Nat)), .int ((y.2 - by') % (l.length : Nat))]) nD1).trans (same_new (o := HO.lst ([(ordP ((y.1 - by') % (l.length : Nat)) ((y.2 - by') % (l.length : Nat))).1, (ordP ((y.1 - by') % (l.length : Nat)) ((y.2 - by') % (l.length : Nat))).2].map V.int)) np1)).trans (same_new (o := HO.tup ([(ordP ((y.1 - by') % (l.length : Nat)) ((y.2 - by') % (l.length : Nat))).1, (ordP ((y.1 - by') % (l.length : Nat)) ((y.2 - by') % (l.length : Nat))).2].map V.int)) nT2)
        refine ⟨?_, nx _ _ ⟨sa.trans s2, es ++ [.ref T2], ?_, ?_⟩ (Same.keep s2)⟩
        · rw [accOf_some]
          exact Nat.lt_of_le_of_lt (show es.length ≤ 3000 by omega) (by decide)
        · rw [List.map_append]
          rfl
        · rw [List.take_add_one, hy, List.map_append]
          exact (tw.same s2).snoc upd_same
      · obtain ⟨sa, es, rfl, tw⟩ := hj
        intro D nD
        have sD := same_new (o := HO.lst (accOf (es.map some))) nD
        have tD := tw.same sD
        refine ⟨D, es, keyH _, rfl, SqL.of (by rw [accOf_some]; exact upd_same), tD.1, fun ys p srt stb np => ?_⟩
        obtain ⟨t1, pm1⟩ := tD.perm stb.perm
        rw [List.take_length] at pm1
        have e := lt_one (pm1.trans (shift_perm fair l1 l64 by')) (srt_pairs srt) (allP_pw _ _ _)
        rw [e] at t1
        have sp := same_new (o := HO.lst ys) np
        exact ⟨p, ys, rfl, (sa.trans sD).trans sp, upd_same, (t1.same sp).dp⟩
    obtain ⟨sh, ys, rfl, s67, hsh, dsh⟩ := hM
    have s17 := s16.trans s67
    -- the cells twice
    refine ⟨fun σ H' => ∃ (tw : Addr) (as : List V), σ = [some (.ref b), some (.ref t), some (.ref c), some (.int by'), some (.ref du), some (.int (l.length : Nat)), some (.ref la), some (.ref ho), some (.ref nm), some (.ref fl), y10, some (.ref sh), some (.ref tw), none, none, none, none] ∧ Same H7 H' ∧ SqT K H' tw as ∧ DpAll K H' as (cellsD (l ++ l) k z x (l ++ l).length), ?_, fun σ H8 hM => ?_⟩
    · refine ⟨.ref t, rfl, .ref c, rfl, t, c, l, k, z, x, rfl, hl.keep (Same.keep s17), fair, l1, l64, Same.seqT s17 hc, ok, fun H8 r as s8 sq dp => ?_⟩
      have las : as.length = l.length := by
        rw [DpAll.len dp]
        unfold cellsD
        rw [List.length_map, List.length_range]
      refine ⟨r, 2, as, rfl, rfl, sq, fun zz => by rw [zz] at las; simp at las; omega, by decide, by decide, by omega, fun p H9 s9 t9 => ⟨p, _, rfl, s8.trans s9, t9, ?_⟩⟩
      have e2 : (List.replicate (2 : Int).toNat as).flatten = as ++ as := by
        show as ++ (as ++ []) = _
        rw [List.append_nil]
      rw [e2, cells_two fair l1 l64]
      have d9 := cells_keep dp (Same.keep s9)
      exact dpl_two d9 d9
    obtain ⟨tw, as, rfl, s78, htw, dtw⟩ := hM
    have s18 := s17.trans s78
    obtain ⟨ctame, cshaped⟩ := cellsD_tame (k := k) (z := z) (x := x) (fair_two fair) (by omega) ok (l ++ l).length
    have tiny : Tiny (clashL (rot l (by' % (l.length : Int)).toNat) k z x) := allP_tiny (by omega)
    refine ⟨fun σ H' => σ = [some (.ref b), some (.ref t), some (.ref c), some (.int by'), some (.ref du), some (.int (l.length : Nat)), some (.ref la), some (.ref ho), some (.ref nm), some (.ref fl), y10, some (.ref sh), some (.ref tw), none, none, none, none] ∧ Same H8 H', ?_, fun σ H9 hM => ?_⟩
    · refine ⟨.ref la, rfl, .ref c, rfl, la, c, _, k, z, x, rfl, hla.keep (Same.keep ((s25.trans s56).trans (s67.trans s78))), frR, by omega, by omega, Same.seqT s18 hc, ok, fun H9 zs s9 dz p np => ?_⟩
      have sp := same_new (o := HO.lst zs) np
      refine ⟨.ref sh, rfl, _, _, .lst (SqL.of upd_same) (pairs_keep dz (Same.keep sp)), .lst (SqL.of ((s78.trans (s9.trans sp)) _ _ hsh)) (pairs_keep dsh (Same.keep (s78.trans (s9.trans sp)))), tiny_shaped16 tiny, tiny_shaped16 tiny, _, rfl, ite2 (fun cc => ?_) (fun _ => ?_)⟩
      · rw [eqv_same (by simpa only [Gk.tame] using tame_tiny tiny)] at cc
        exact absurd cc (by decide)
      · have s1p := s18.trans (s9.trans sp)
        refine ⟨.ref t, rfl, .ref t, rfl, t, t, xst, xst, rfl, rfl, Same.seqT s1p sqt, Same.seqT s1p sqt, catS, fun p2 Ha sa tp => ⟨.ref c, rfl, p2, c, l ++ l, k, z, x, rfl, pairs_app (pairs_keep hAt (Same.keep s1p)) sa tp, fair_two fair, by omega, by omega, Same.seqT (s1p.trans sa) hc, ok, fun Hb rb bs' sb sqb dpb => ⟨.ref tw, rfl, _, _, .tup sqb dpb, .tup (Same.seqT ((s9.trans sp).trans (sa.trans sb)) htw) (cells_keep dtw (Same.keep ((s9.trans sp).trans (sa.trans sb)))), cshaped, cshaped, _, rfl, ite2 (fun cc => ?_) (fun _ => ⟨rfl, (s9.trans sp).trans (sa.trans sb)⟩)⟩⟩⟩
        rw [eqv_same ctame] at cc
        exact absurd cc (by decide)
    obtain ⟨rfl, s89⟩ := hM
    have s19 := s18.trans s89
    have plD := plain_pd fair
    have plD2 := plD.app plD
    have lD : (l.map pd).length = l.length := List.length_map ..
    -- the roots
    refine ⟨.ref t, rfl, .ref t, rfl, t, t, xst, xst, rfl, rfl, Same.seqT s19 sqt, Same.seqT s19 sqt, catS, fun p2 Ha sa tp => ?_⟩
    have h2 : PairsAt K Ha p2 (l ++ l) := pairs_app (pairs_keep hAt (Same.keep s19)) sa tp
    have h2' : ItsAt K Ha p2 (l.map pd ++ l.map pd) := by
      rw [← List.map_append]
      exact h2
    refine ⟨p2, l.map pd ++ l.map pd, rfl, h2', plD2, by rw [List.length_append]; omega, by rw [List.length_append]; omega, fun Hb rb sR sb ri it => ?_⟩
    have s1b := s19.trans (sa.trans sb)
    refine ⟨.ref t, rfl, t, l.map pd, rfl, hl.keep (Same.keep s1b), plD, by omega, by omega, fun Hc rc sQ sc ri2 it2 => ?_⟩
    obtain rfl := root_two ri ri2
    have et : (l.map pd ++ l.map pd).take sR = (l.map pd).take sR := List.take_append_of_le_length ri2.hi
    rw [et] at it
    have plT := plD.take sR
    refine ⟨_, _, it.keep plT (Same.keep sc), it2, plT.shaped, plT.shaped, ?_⟩
    rw [(plain_eq plT plT).mpr rfl]
    have s1c := s1b.trans sc
    obtain ⟨xR, sqR, _, lR⟩ := it2.out
    have la9 : PairsAt K Hc la (rot l (by' % (l.length : Int)).toNat) := hla.keep (Same.keep ((((s25.trans s56).trans (s67.trans s78)).trans s89).trans ((sa.trans sb).trans sc)))
    have plR := plain_pd frR
    refine ⟨_, rfl, ite2 (fun _ => ?_) (fun zz => absurd rfl zz)⟩
    refine ⟨.ref la, rfl, la, _, rfl, la9, plR, by rw [List.length_map]; omega, by rw [List.length_map]; omega, fun Hd rd sU sd ri3 it3 => ?_⟩
    have e3 : sU = sR := by
      have : (rot l (by' % (l.length : Int)).toNat).map pd = rot (l.map pd) (by' % (l.length : Int)).toNat := by
        unfold rot
        rw [List.map_append, List.map_drop, List.map_take]
      rw [this] at ri3
      exact root_rot (by omega) ri3 ri2
    obtain ⟨xU, sqU, _, lU⟩ := it3.out
    refine ⟨rd, xU, rfl, .inr sqU, .ref t, rfl, t, l.map pd, rfl, hl.keep (Same.keep (s1c.trans sd)), plD, by omega, by omega, fun He re sV se ri4 it4 => ?_⟩
    have e4 := ri4.one ri2
    obtain ⟨xV, sqV, _, lV⟩ := it4.out
    have lens : xU.length = xV.length := by
      have := ri2.hi
      rw [lU, lV, List.length_take, List.length_take, List.length_map, List.length_map]
      omega
    refine ⟨re, xV, rfl, .inr sqV, rfl, ?_⟩
    rw [lens, decide_eq_true rfl]
    have s1e := s1c.trans (sd.trans se)
    exact q He (bt1.trans (But.of_same s1e)) ((bx1.same s1e).up (by omega))
end
end Pf
namespace Pf
open PySem PySem.Spec PyProof.Rows L2 Gk Fold
abbrev sLaw : Stmt := topS 36
abbrev nLaw : List Str := ["_law_script", "_law_k", "_law_box_here", "_law_turn"]
theorem scLaw : FnScope nLaw ["_law_script"] (defScope sLaw) := ⟨rfl, rfl, rfl, by decide +kernel, rfl, by decide +kernel, by decide +kernel⟩

section
variable {P : Program} {w : World} {K : PySem.W.Frag} {mg : Str → Option Value} {base : Heap}
def spLaw (K : PySem.W.Frag) : Sp := fun vs H Q _ => ∃ (a : Addr) (ns : List Int), vs = [.ref a] ∧ SqL K H a (ns.map V.int) ∧ ns.length ≤ 63 ∧ ∀ H', Q (.bl true) H'
theorem ok_law {f : Addr} {fd : FuncData} (DB : Dfn P w K mg base 1 "_law_box" ["_law_script", "_law_k"] (spBox K)) (DR : DfG P w K mg base 14 "_law_right" ["_law_box_here"] spRight) 
    (mr : mg "range" = none) (mx : mg "max" = none) (mn : mg "min" = none) (ml : mg "len" = none) (ma : mg "all" = none) (F : L2.Fun K "law" "law" sLaw f fd) : FnG P w K mg base 15 f fd ["_law_script"] (spLaw K) := by
  refine fnG F scLaw (fun vs H Q E h => ?_) (fun cdv A outer s H vs Q hr hg h => ?_)
  · obtain ⟨a, ns, rfl, _⟩ := h
    rfl
  · obtain ⟨a, ns, rfl, hS, hl, q⟩ := h
    refine ⟨_, pss_cons (ps_for PassesOwn.never rfl (pi_range1 rfl mr (pa_cons (pe_callB (call_max2 rfl) (by rfl) mx (by decide +kernel) (pa_cons pe_int (pa_cons (pe_callB (call_min2 rfl) (by rfl) mn (by decide +kernel) (pa_cons pe_int (pa_cons (pe_callB call_len_seq (by rfl) ml PySem.boot_len (pa_cons (pv 0) pa_nil)) pa_nil))) pa_nil))) pa_nil)) (pg_name (i := 1) scLaw.nd rfl (.inl rfl))
        (pss_cons (ps_set (i := 2) scLaw.nd rfl (.inr rfl) (pe_d DB hr (by decide) (by rfl) (pa_cons (pv 0) (pa_cons (pv 1) pa_nil))))
        (pss_one (ps_if (pt_not (pt_val (pe_callB (cr_all rfl) (by rfl) ma (by decide +kernel) (pa_cons (pe_lc (own := [("_law_turn", 3)]) (g := gName 3) (by rfl) scLaw.nd (pi_range1 rfl mr (pa_cons pe_int pa_nil)) (blkOk_by (N := nLaw) (sc := defScope sLaw) (by decide +kernel))
            (fun _ _ _ _ _ => pg_name (i := 3) scLaw.nd rfl (.inl rfl)) (fun _ _ _ _ _ => pts_nil) (fun _ _ _ _ _ => pe_dg DR hr hg (by decide) (by rfl) (pa_cons (pv 2) pa_nil))) pa_nil))))
          (pss_one (ps_ret pe_bl)) pss_nil))))
      (pss_one (ps_ret (pe_bl))), ?_⟩
    refine ⟨.ref a, rfl, a, _, rfl, .inl hS, _, _, rfl, _, _, rfl, _, rfl, ?_, ?_, ?_⟩
    · split <;> omega
    · split <;> omega
    · generalize hz : (if (if ((ns.map V.int).length : Int) < 2 then ((ns.map V.int).length : Int) else 2) > 1 then (if ((ns.map V.int).length : Int) < 2 then ((ns.map V.int).length : Int) else 2) else 1) = z
      have z3 : z ≤ 2 := by rw [← hz]; split <;> omega
      refine for_range (lo := 0) (n := z.toNat) (fun i σ H' => (∃ y1 y2, σ = [some (.ref a), y1, y2, none]) ∧ SqL K H' a (ns.map V.int)) ⟨⟨none, none, rfl⟩, hS⟩ (fun i σ H1 hi hp => ?_) (fun σ H1 hp => ?_)
      · obtain ⟨⟨y1, y2, rfl⟩, hS1⟩ := hp
        refine ⟨.ref a, rfl, .int (0 + (i : Nat)), rfl, a, ns, 0 + (i : Nat), rfl, hS1, hl, by omega, by omega, fun b x y nb => ?_⟩
        have hB0 : Box 0 (upd H1 b (.lst [.int x, .int y, .int 0])) b := ⟨x, y, 0, upd_same, Int.le_refl _, Int.le_refl _⟩
        refine ⟨5, rfl, by decide, by decide, fun D nD => lc_range (lo := 0) (n := (5 : Int).toNat)
          (fun j H' => But b (upd H1 b (.lst [.int x, .int y, .int 0])) H' ∧ Box (300 * j) H' b ∧ H' D = some (.lst ((List.replicate j true).map V.bl))) ⟨But.new nD, hB0.same (same_new nD), upd_same⟩ (fun j H2 hj hp => ?_) (fun H2 hp => ?_)⟩
        · obtain ⟨bt, bx, hD⟩ := hp
          have nDb : D ≠ b := (hB0.ne nD).symm
          have hj : j < 5 := hj
          refine ⟨rfl, .ref b, rfl, b, 300 * j, rfl, bx, by omega, fun H3 bt3 bx3 => ?_⟩
          refine ⟨(List.replicate j true).map V.bl, bt3 _ _ nDb hD, ?_, ?_, ?_, ?_⟩
          · rw [List.length_map, List.length_replicate]
            exact small1000 (by omega)
          · refine butLocal nD (bt.trans bt3) fun a o n1 n2 h => ?_
            rw [upd_ne n2]
            exact h
          · obtain ⟨x1, x2, x3, g1, g2⟩ := bx3
            exact ⟨x1, x2, x3, by rw [upd_ne nDb.symm]; exact g1, g2.1, by have := g2.2; omega⟩
          · rw [upd_same, List.replicate_succ', List.map_append]
            rfl
        · obtain ⟨bt, bx, hD⟩ := hp
          refine ⟨D, List.replicate 5 true, rfl, .inl (.inl hD), _, rfl, ite2 (fun e => absurd e (by decide)) (fun _ => ?_)⟩
          exact ⟨⟨_, _, rfl⟩, keepSeqL hS1 nb bt⟩
      · obtain ⟨⟨y1, y2, rfl⟩, hS1⟩ := hp
        exact q _
theorem law_start {K : PySem.W.Frag} {H : Hp} {a : Addr} {ns : List Int} (hl : ns.length ≤ 63) (hO : Only H) (hS : SqL K H a (ns.map V.int)) : spLaw K [.ref a] H (fun v _ => v = .bl true) L2.E0 :=
  ⟨a, ns, rfl, hS, hl, fun _ => rfl⟩
end
end Pf
namespace Pf
open PySem PySem.Spec PyProof.Rows L2 Gk Fold
theorem all_mk {P : Program} {w : World} {K : PySem.W.Frag} {h : Heap} {mg : Str → Option Value} {fa : Addr} (X : K.In h) (G : h.Ns mainGlobals mg) (hfa : mg "law" = some (.ref fa))
    {f0 : Addr} {od0 an0 : Option Addr} {sl0 : Array (Option Value)} {oc0 kV0 dc0 pm0 cd0 ct0 : Value} {f1 : Addr} {od1 an1 : Option Addr} {sl1 : Array (Option Value)} {oc1 kV1 dc1 pm1 cd1 ct1 : Value} {f2 : Addr} {od2 an2 : Option Addr} {sl2 : Array (Option Value)} {oc2 kV2 dc2 pm2 cd2 ct2 : Value} {f3 : Addr} {od3 an3 : Option Addr} {sl3 : Array (Option Value)} {oc3 kV3 dc3 pm3 cd3 ct3 : Value} {f4 : Addr} {od4 an4 : Option Addr} {sl4 : Array (Option Value)} {oc4 kV4 dc4 pm4 cd4 ct4 : Value} {f5 : Addr} {od5 an5 : Option Addr} {sl5 : Array (Option Value)} {oc5 kV5 dc5 pm5 cd5 ct5 : Value} {f6 : Addr} {od6 an6 : Option Addr} {sl6 : Array (Option Value)} {oc6 kV6 dc6 pm6 cd6 ct6 : Value} {f7 : Addr} {od7 an7 : Option Addr} {sl7 : Array (Option Value)} {oc7 kV7 dc7 pm7 cd7 ct7 : Value} {f8 : Addr} {od8 an8 : Option Addr} {sl8 : Array (Option Value)} {oc8 kV8 dc8 pm8 cd8 ct8 : Value} {f9 : Addr} {od9 an9 : Option Addr} {sl9 : Array (Option Value)} {oc9 kV9 dc9 pm9 cd9 ct9 : Value} {f10 : Addr} {od10 an10 : Option Addr} {sl10 : Array (Option Value)} {oc10 kV10 dc10 pm10 cd10 ct10 : Value} {f11 : Addr} {od11 an11 : Option Addr} {sl11 : Array (Option Value)} {oc11 kV11 dc11 pm11 cd11 ct11 : Value} {f12 : Addr} {od12 an12 : Option Addr} {sl12 : Array (Option Value)} {oc12 kV12 dc12 pm12 cd12 ct12 : Value} {f13 : Addr} {od13 an13 : Option Addr} {sl13 : Array (Option Value)} {oc13 kV13 dc13 pm13 cd13 ct13 : Value} {f14 : Addr} {od14 an14 : Option Addr} {sl14 : Array (Option Value)} {oc14 kV14 dc14 pm14 cd14 ct14 : Value} {f15 : Addr} {od15 an15 : Option Addr} {sl15 : Array (Option Value)} {oc15 kV15 dc15 pm15 cd15 ct15 : Value} {f16 : Addr} {od16 an16 : Option Addr} {sl16 : Array (Option Value)} {oc16 kV16 dc16 pm16 cd16 ct16 : Value} {f17 : Addr} {od17 an17 : Option Addr} {sl17 : Array (Option Value)} {oc17 kV17 dc17 pm17 cd17 ct17 : Value} {f18 : Addr} {od18 an18 : Option Addr} {sl18 : Array (Option Value)} {oc18 kV18 dc18 pm18 cd18 ct18 : Value} {f19 : Addr} {od19 an19 : Option Addr} {sl19 : Array (Option Value)} {oc19 kV19 dc19 pm19 cd19 ct19 : Value} {f20 : Addr} {od20 an20 : Option Addr} {sl20 : Array (Option Value)} {oc20 kV20 dc20 pm20 cd20 ct20 : Value} {f21 : Addr} {od21 an21 : Option Addr} {sl21 : Array (Option Value)} {oc21 kV21 dc21 pm21 cd21 ct21 : Value} {f22 : Addr} {od22 an22 : Option Addr} {sl22 : Array (Option Value)} {oc22 kV22 dc22 pm22 cd22 ct22 : Value} {f23 : Addr} {od23 an23 : Option Addr} {sl23 : Array (Option Value)} {oc23 kV23 dc23 pm23 cd23 ct23 : Value} {f24 : Addr} {od24 an24 : Option Addr} {sl24 : Array (Option Value)} {oc24 kV24 dc24 pm24 cd24 ct24 : Value} {f25 : Addr} {od25 an25 : Option Addr} {sl25 : Array (Option Value)} {oc25 kV25 dc25 pm25 cd25 ct25 : Value} {f26 : Addr} {od26 an26 : Option Addr} {sl26 : Array (Option Value)} {oc26 kV26 dc26 pm26 cd26 ct26 : Value} {f27 : Addr} {od27 an27 : Option Addr} {sl27 : Array (Option Value)} {oc27 kV27 dc27 pm27 cd27 ct27 : Value}
    (a0 : PySem.W.nsIn K mainGlobals "branches" = some (some (.ref f0)))
    (l0 : K.lookup f0 = some ⟨oc0, od0, .func (PySem.W.fnOf "branches" "branches" (defArgs sBrs) (defBody sBrs) (defScope sBrs) .none kV0 dc0 pm0 an0 cd0 ct0), sl0⟩)
    (c0 : PySem.W.codeIn K cd0 "branches" = true) (k0 : PySem.W.keepIn K (.ref f0) = true)
    (a1 : PySem.W.nsIn K mainGlobals "outcomes_of" = some (some (.ref f1)))
    (l1 : K.lookup f1 = some ⟨oc1, od1, .func (PySem.W.fnOf "outcomes_of" "outcomes_of" (defArgs sOuts) (defBody sOuts) (defScope sOuts) .none kV1 dc1 pm1 an1 cd1 ct1), sl1⟩)
    (c1 : PySem.W.codeIn K cd1 "outcomes_of" = true) (k1 : PySem.W.keepIn K (.ref f1) = true)
    (a2 : PySem.W.nsIn K mainGlobals "all_outcomes" = some (some (.ref f2)))
    (l2 : K.lookup f2 = some ⟨oc2, od2, .func (PySem.W.fnOf "all_outcomes" "all_outcomes" (defArgs sAll) (defBody sAll) (defScope sAll) .none kV2 dc2 pm2 an2 cd2 ct2), sl2⟩)
    (c2 : PySem.W.codeIn K cd2 "all_outcomes" = true) (k2 : PySem.W.keepIn K (.ref f2) = true)
    (a3 : PySem.W.nsIn K mainGlobals "_times" = some (some (.ref f3)))
    (l3 : K.lookup f3 = some ⟨oc3, od3, .func (PySem.W.fnOf "_times" "_times" (defArgs sTimes) (defBody sTimes) (defScope sTimes) .none kV3 dc3 pm3 an3 cd3 ct3), sl3⟩)
    (c3 : PySem.W.codeIn K cd3 "_times" = true) (k3 : PySem.W.keepIn K (.ref f3) = true)
    (a4 : PySem.W.nsIn K mainGlobals "_newest" = some (some (.ref f4)))
    (l4 : K.lookup f4 = some ⟨oc4, od4, .func (PySem.W.fnOf "_newest" "_newest" (defArgs sNew) (defBody sNew) (defScope sNew) .none kV4 dc4 pm4 an4 cd4 ct4), sl4⟩)
    (c4 : PySem.W.codeIn K cd4 "_newest" = true) (k4 : PySem.W.keepIn K (.ref f4) = true)
    (a5 : PySem.W.nsIn K mainGlobals "history_at" = some (some (.ref f5)))
    (l5 : K.lookup f5 = some ⟨oc5, od5, .func (PySem.W.fnOf "history_at" "history_at" (defArgs sHist) (defBody sHist) (defScope sHist) .none kV5 dc5 pm5 an5 cd5 ct5), sl5⟩)
    (c5 : PySem.W.codeIn K cd5 "history_at" = true) (k5 : PySem.W.keepIn K (.ref f5) = true)
    (a6 : PySem.W.nsIn K mainGlobals "_binary" = some (some (.ref f6)))
    (l6 : K.lookup f6 = some ⟨oc6, od6, .func (PySem.W.fnOf "_binary" "_binary" (defArgs sBin) (defBody sBin) (defScope sBin) .none kV6 dc6 pm6 an6 cd6 ct6), sl6⟩)
    (c6 : PySem.W.codeIn K cd6 "_binary" = true) (k6 : PySem.W.keepIn K (.ref f6) = true)
    (a7 : PySem.W.nsIn K mainGlobals "fold" = some (some (.ref f7)))
    (l7 : K.lookup f7 = some ⟨oc7, od7, .func (PySem.W.fnOf "fold" "fold" (defArgs sFold) (defBody sFold) (defScope sFold) .none kV7 dc7 pm7 an7 cd7 ct7), sl7⟩)
    (c7 : PySem.W.codeIn K cd7 "fold" = true) (k7 : PySem.W.keepIn K (.ref f7) = true)
    (a8 : PySem.W.nsIn K mainGlobals "cell_of" = some (some (.ref f8)))
    (l8 : K.lookup f8 = some ⟨oc8, od8, .func (PySem.W.fnOf "cell_of" "cell_of" (defArgs sCellOf) (defBody sCellOf) (defScope sCellOf) .none kV8 dc8 pm8 an8 cd8 ct8), sl8⟩)
    (c8 : PySem.W.codeIn K cd8 "cell_of" = true) (k8 : PySem.W.keepIn K (.ref f8) = true)
    (a9 : PySem.W.nsIn K mainGlobals "cell_at" = some (some (.ref f9)))
    (l9 : K.lookup f9 = some ⟨oc9, od9, .func (PySem.W.fnOf "cell_at" "cell_at" (defArgs sCellAt) (defBody sCellAt) (defScope sCellAt) .none kV9 dc9 pm9 an9 cd9 ct9), sl9⟩)
    (c9 : PySem.W.codeIn K cd9 "cell_at" = true) (k9 : PySem.W.keepIn K (.ref f9) = true)
    (a10 : PySem.W.nsIn K mainGlobals "_steady_moment" = some (some (.ref f10)))
    (l10 : K.lookup f10 = some ⟨oc10, od10, .func (PySem.W.fnOf "_steady_moment" "_steady_moment" (defArgs sMom) (defBody sMom) (defScope sMom) .none kV10 dc10 pm10 an10 cd10 ct10), sl10⟩)
    (c10 : PySem.W.codeIn K cd10 "_steady_moment" = true) (k10 : PySem.W.keepIn K (.ref f10) = true)
    (a11 : PySem.W.nsIn K mainGlobals "steady_cells" = some (some (.ref f11)))
    (l11 : K.lookup f11 = some ⟨oc11, od11, .func (PySem.W.fnOf "steady_cells" "steady_cells" (defArgs sSCells) (defBody sSCells) (defScope sSCells) .none kV11 dc11 pm11 an11 cd11 ct11), sl11⟩)
    (c11 : PySem.W.codeIn K cd11 "steady_cells" = true) (k11 : PySem.W.keepIn K (.ref f11) = true)
    (a12 : PySem.W.nsIn K mainGlobals "clashes" = some (some (.ref f12)))
    (l12 : K.lookup f12 = some ⟨oc12, od12, .func (PySem.W.fnOf "clashes" "clashes" (defArgs sClash) (defBody sClash) (defScope sClash) .none kV12 dc12 pm12 an12 cd12 ct12), sl12⟩)
    (c12 : PySem.W.codeIn K cd12 "clashes" = true) (k12 : PySem.W.keepIn K (.ref f12) = true)
    (a13 : PySem.W.nsIn K mainGlobals "first_clash" = some (some (.ref f13)))
    (l13 : K.lookup f13 = some ⟨oc13, od13, .func (PySem.W.fnOf "first_clash" "first_clash" (defArgs sFirst) (defBody sFirst) (defScope sFirst) .none kV13 dc13 pm13 an13 cd13 ct13), sl13⟩)
    (c13 : PySem.W.codeIn K cd13 "first_clash" = true) (k13 : PySem.W.keepIn K (.ref f13) = true)
    (a14 : PySem.W.nsIn K mainGlobals "is_sure" = some (some (.ref f14)))
    (l14 : K.lookup f14 = some ⟨oc14, od14, .func (PySem.W.fnOf "is_sure" "is_sure" (defArgs sSure) (defBody sSure) (defScope sSure) .none kV14 dc14 pm14 an14 cd14 ct14), sl14⟩)
    (c14 : PySem.W.codeIn K cd14 "is_sure" = true) (k14 : PySem.W.keepIn K (.ref f14) = true)
    (a15 : PySem.W.nsIn K mainGlobals "scheme_of" = some (some (.ref f15)))
    (l15 : K.lookup f15 = some ⟨oc15, od15, .func (PySem.W.fnOf "scheme_of" "scheme_of" (defArgs sSchOf) (defBody sSchOf) (defScope sSchOf) .none kV15 dc15 pm15 an15 cd15 ct15), sl15⟩)
    (c15 : PySem.W.codeIn K cd15 "scheme_of" = true) (k15 : PySem.W.keepIn K (.ref f15) = true)
    (a16 : PySem.W.nsIn K mainGlobals "least_length" = some (some (.ref f16)))
    (l16 : K.lookup f16 = some ⟨oc16, od16, .func (PySem.W.fnOf "least_length" "least_length" (defArgs sLeastL) (defBody sLeastL) (defScope sLeastL) .none kV16 dc16 pm16 an16 cd16 ct16), sl16⟩)
    (c16 : PySem.W.codeIn K cd16 "least_length" = true) (k16 : PySem.W.keepIn K (.ref f16) = true)
    (a17 : PySem.W.nsIn K mainGlobals "root_of" = some (some (.ref f17)))
    (l17 : K.lookup f17 = some ⟨oc17, od17, .func (PySem.W.fnOf "root_of" "root_of" (defArgs sRoot) (defBody sRoot) (defScope sRoot) .none kV17 dc17 pm17 an17 cd17 ct17), sl17⟩)
    (c17 : PySem.W.codeIn K cd17 "root_of" = true) (k17 : PySem.W.keepIn K (.ref f17) = true)
    (a18 : PySem.W.nsIn K mainGlobals "turned" = some (some (.ref f18)))
    (l18 : K.lookup f18 = some ⟨oc18, od18, .func (PySem.W.fnOf "turned" "turned" (defArgs sTurn) (defBody sTurn) (defScope sTurn) .none kV18 dc18 pm18 an18 cd18 ct18), sl18⟩)
    (c18 : PySem.W.codeIn K cd18 "turned" = true) (k18 : PySem.W.keepIn K (.ref f18) = true)
    (a19 : PySem.W.nsIn K mainGlobals "_law_box" = some (some (.ref f19)))
    (l19 : K.lookup f19 = some ⟨oc19, od19, .func (PySem.W.fnOf "_law_box" "_law_box" (defArgs sBox) (defBody sBox) (defScope sBox) .none kV19 dc19 pm19 an19 cd19 ct19), sl19⟩)
    (c19 : PySem.W.codeIn K cd19 "_law_box" = true) (k19 : PySem.W.keepIn K (.ref f19) = true)
    (a20 : PySem.W.nsIn K mainGlobals "_law_take" = some (some (.ref f20)))
    (l20 : K.lookup f20 = some ⟨oc20, od20, .func (PySem.W.fnOf "_law_take" "_law_take" (defArgs sTake) (defBody sTake) (defScope sTake) .none kV20 dc20 pm20 an20 cd20 ct20), sl20⟩)
    (c20 : PySem.W.codeIn K cd20 "_law_take" = true) (k20 : PySem.W.keepIn K (.ref f20) = true)
    (a21 : PySem.W.nsIn K mainGlobals "_law_of" = some (some (.ref f21)))
    (l21 : K.lookup f21 = some ⟨oc21, od21, .func (PySem.W.fnOf "_law_of" "_law_of" (defArgs sOf) (defBody sOf) (defScope sOf) .none kV21 dc21 pm21 an21 cd21 ct21), sl21⟩)
    (c21 : PySem.W.codeIn K cd21 "_law_of" = true) (k21 : PySem.W.keepIn K (.ref f21) = true)
    (a22 : PySem.W.nsIn K mainGlobals "_law_row" = some (some (.ref f22)))
    (l22 : K.lookup f22 = some ⟨oc22, od22, .func (PySem.W.fnOf "_law_row" "_law_row" (defArgs sRow) (defBody sRow) (defScope sRow) .none kV22 dc22 pm22 an22 cd22 ct22), sl22⟩)
    (c22 : PySem.W.codeIn K cd22 "_law_row" = true) (k22 : PySem.W.keepIn K (.ref f22) = true)
    (a23 : PySem.W.nsIn K mainGlobals "_law_loop" = some (some (.ref f23)))
    (l23 : K.lookup f23 = some ⟨oc23, od23, .func (PySem.W.fnOf "_law_loop" "_law_loop" (defArgs sLoop) (defBody sLoop) (defScope sLoop) .none kV23 dc23 pm23 an23 cd23 ct23), sl23⟩)
    (c23 : PySem.W.codeIn K cd23 "_law_loop" = true) (k23 : PySem.W.keepIn K (.ref f23) = true)
    (a24 : PySem.W.nsIn K mainGlobals "_law_plan" = some (some (.ref f24)))
    (l24 : K.lookup f24 = some ⟨oc24, od24, .func (PySem.W.fnOf "_law_plan" "_law_plan" (defArgs sPlan) (defBody sPlan) (defScope sPlan) .none kV24 dc24 pm24 an24 cd24 ct24), sl24⟩)
    (c24 : PySem.W.codeIn K cd24 "_law_plan" = true) (k24 : PySem.W.keepIn K (.ref f24) = true)
    (a25 : PySem.W.nsIn K mainGlobals "_law_lengths" = some (some (.ref f25)))
    (l25 : K.lookup f25 = some ⟨oc25, od25, .func (PySem.W.fnOf "_law_lengths" "_law_lengths" (defArgs sLens) (defBody sLens) (defScope sLens) .none kV25 dc25 pm25 an25 cd25 ct25), sl25⟩)
    (c25 : PySem.W.codeIn K cd25 "_law_lengths" = true) (k25 : PySem.W.keepIn K (.ref f25) = true)
    (a26 : PySem.W.nsIn K mainGlobals "_law_right" = some (some (.ref f26)))
    (l26 : K.lookup f26 = some ⟨oc26, od26, .func (PySem.W.fnOf "_law_right" "_law_right" (defArgs sRight) (defBody sRight) (defScope sRight) .none kV26 dc26 pm26 an26 cd26 ct26), sl26⟩)
    (c26 : PySem.W.codeIn K cd26 "_law_right" = true) (k26 : PySem.W.keepIn K (.ref f26) = true)
    (a27 : PySem.W.nsIn K mainGlobals "law" = some (some (.ref f27)))
    (l27 : K.lookup f27 = some ⟨oc27, od27, .func (PySem.W.fnOf "law" "law" (defArgs sLaw) (defBody sLaw) (defScope sLaw) .none kV27 dc27 pm27 an27 cd27 ct27), sl27⟩)
    (c27 : PySem.W.codeIn K cd27 "law" = true) (k27 : PySem.W.keepIn K (.ref f27) = true)
    (z0 : PySem.W.nsIn K mainGlobals "int" = some none)
    (z1 : PySem.W.nsIn K mainGlobals "len" = some none)
    (z2 : PySem.W.nsIn K mainGlobals "abs" = some none)
    (z3 : PySem.W.nsIn K mainGlobals "range" = some none)
    (z4 : PySem.W.nsIn K mainGlobals "enumerate" = some none)
    (z5 : PySem.W.nsIn K mainGlobals "max" = some none)
    (z6 : PySem.W.nsIn K mainGlobals "min" = some none)
    (z7 : PySem.W.nsIn K mainGlobals "all" = some none)
    (z8 : PySem.W.nsIn K mainGlobals "repr" = some none)
    (z9 : PySem.W.nsIn K mainGlobals "zip" = some none)
    (z10 : PySem.W.nsIn K mainGlobals "tuple" = some none)
    (z11 : PySem.W.nsIn K mainGlobals "str" = some none)
    (z12 : PySem.W.nsIn K mainGlobals "list" = some none)
    (z13 : PySem.W.nsIn K mainGlobals "sorted" = some none)
    (z14 : PySem.W.nsIn K mainGlobals "isinstance" = some none)
    (z15 : PySem.W.nsIn K mainGlobals "bool" = some none)
    (z16 : PySem.W.nsIn K mainGlobals "divmod" = some none)
    {tk0 : Tok} (q0 : PySem.W.nsIn K mainGlobals "MOST_LENGTH" = some (some (.int 64 tk0)))
    {DRS : Addr} {tkRS : Tok} (eRS : kV16 = .ref DRS)
    (nRS : PySem.W.nsIn K DRS "bits" = some (some (.int 0 tkRS)))
    : ∃ fd : FuncData, (∀ (s : Shared) (v : Value), BindsTo s fd ⟨[v], []⟩ [("_law_script", v)]) ∧ ∀ base : Heap, K.In base → base.Ns mainGlobals mg → FnG P w K mg base 15 fa fd ["_law_script"] (spLaw K) := by
  have e := hfa.symm.trans (PySem.W.mg_of X G a27)
  cases e
  have F0 := fun_mk (st := sBrs) l0 c0 k0
  have b0 := F0.binds (ps := ["trace"]) fun _ _ _ _ _ _ us hl => match us, hl with | [_], _ => rfl
  have g0 := PySem.W.mg_of X G a0
  have F1 := fun_mk (st := sOuts) l1 c1 k1
  have b1 := F1.binds (ps := ["trace", "branch"]) fun _ _ _ _ _ _ us hl => match us, hl with | [_, _], _ => rfl
  have g1 := PySem.W.mg_of X G a1
  have F2 := fun_mk (st := sAll) l2 c2 k2
  have b2 := F2.binds (ps := ["trace"]) fun _ _ _ _ _ _ us hl => match us, hl with | [_], _ => rfl
  have g2 := PySem.W.mg_of X G a2
  have F3 := fun_mk (st := sTimes) l3 c3 k3
  have b3 := F3.binds (ps := ["pairs", "branch"]) fun _ _ _ _ _ _ us hl => match us, hl with | [_, _], _ => rfl
  have g3 := PySem.W.mg_of X G a3
  have F4 := fun_mk (st := sNew) l4 c4 k4
  have b4 := F4.binds (ps := ["outcomes", "passed", "length"]) fun _ _ _ _ _ _ us hl => match us, hl with | [_, _, _], _ => rfl
  have g4 := PySem.W.mg_of X G a4
  have F5 := fun_mk (st := sHist) l5 c5 k5
  have b5 := F5.binds (ps := ["trace", "scheme", "moment"]) fun _ _ _ _ _ _ us hl => match us, hl with | [_, _, _], _ => rfl
  have g5 := PySem.W.mg_of X G a5
  have F6 := fun_mk (st := sBin) l6 c6 k6
  have b6 := F6.binds (ps := ["history"]) fun _ _ _ _ _ _ us hl => match us, hl with | [_], _ => rfl
  have g6 := PySem.W.mg_of X G a6
  have F7 := fun_mk (st := sFold) l7 c7 k7
  have b7 := F7.binds (ps := ["history", "bits", "branch"]) fun _ _ _ _ _ _ us hl => match us, hl with | [_, _, _], _ => rfl
  have g7 := PySem.W.mg_of X G a7
  have F8 := fun_mk (st := sCellOf) l8 c8 k8
  have b8 := F8.binds (ps := ["scheme", "branch", "history"]) fun _ _ _ _ _ _ us hl => match us, hl with | [_, _, _], _ => rfl
  have g8 := PySem.W.mg_of X G a8
  have F9 := fun_mk (st := sCellAt) l9 c9 k9
  have b9 := F9.binds (ps := ["trace", "scheme", "moment"]) fun _ _ _ _ _ _ us hl => match us, hl with | [_, _, _], _ => rfl
  have g9 := PySem.W.mg_of X G a9
  have F10 := fun_mk (st := sMom) l10 c10 k10
  have b10 := F10.binds (ps := ["trace", "scheme", "position"]) fun _ _ _ _ _ _ us hl => match us, hl with | [_, _, _], _ => rfl
  have g10 := PySem.W.mg_of X G a10
  have F11 := fun_mk (st := sSCells) l11 c11 k11
  have b11 := F11.binds (ps := ["trace", "scheme"]) fun _ _ _ _ _ _ us hl => match us, hl with | [_, _], _ => rfl
  have g11 := PySem.W.mg_of X G a11
  have F12 := fun_mk (st := sClash) l12 c12 k12
  have b12 := F12.binds (ps := ["trace", "scheme"]) fun _ _ _ _ _ _ us hl => match us, hl with | [_, _], _ => rfl
  have g12 := PySem.W.mg_of X G a12
  have F13 := fun_mk (st := sFirst) l13 c13 k13
  have b13 := F13.binds (ps := ["trace", "scheme"]) fun _ _ _ _ _ _ us hl => match us, hl with | [_, _], _ => rfl
  have g13 := PySem.W.mg_of X G a13
  have F14 := fun_mk (st := sSure) l14 c14 k14
  have b14 := F14.binds (ps := ["trace", "scheme"]) fun _ _ _ _ _ _ us hl => match us, hl with | [_, _], _ => rfl
  have g14 := PySem.W.mg_of X G a14
  have F15 := fun_mk (st := sSchOf) l15 c15 k15
  have b15 := F15.binds (ps := ["word", "length", "bits"]) fun _ _ _ _ _ _ us hl => match us, hl with | [_, _, _], _ => rfl
  have g15 := PySem.W.mg_of X G a15
  have F16 := fun_mk (st := sLeastL) l16 c16 k16
  have g16 := PySem.W.mg_of X G a16
  have F17 := fun_mk (st := sRoot) l17 c17 k17
  have b17 := F17.binds (ps := ["items"]) fun _ _ _ _ _ _ us hl => match us, hl with | [_], _ => rfl
  have g17 := PySem.W.mg_of X G a17
  have F18 := fun_mk (st := sTurn) l18 c18 k18
  have b18 := F18.binds (ps := ["trace", "steps"]) fun _ _ _ _ _ _ us hl => match us, hl with | [_, _], _ => rfl
  have g18 := PySem.W.mg_of X G a18
  have F19 := fun_mk (st := sBox) l19 c19 k19
  have b19 := F19.binds (ps := ["_law_script", "_law_k"]) fun _ _ _ _ _ _ us hl => match us, hl with | [_, _], _ => rfl
  have g19 := PySem.W.mg_of X G a19
  have F20 := fun_mk (st := sTake) l20 c20 k20
  have b20 := F20.binds (ps := ["_law_box_here", "_law_many"]) fun _ _ _ _ _ _ us hl => match us, hl with | [_, _], _ => rfl
  have g20 := PySem.W.mg_of X G a20
  have F21 := fun_mk (st := sOf) l21 c21 k21
  have b21 := F21.binds (ps := ["_law_box_here", "_law_some"]) fun _ _ _ _ _ _ us hl => match us, hl with | [_, _], _ => rfl
  have g21 := PySem.W.mg_of X G a21
  have F22 := fun_mk (st := sRow) l22 c22 k22
  have b22 := F22.binds (ps := ["_law_box_here", "_law_most"]) fun _ _ _ _ _ _ us hl => match us, hl with | [_, _], _ => rfl
  have g22 := PySem.W.mg_of X G a22
  have F23 := fun_mk (st := sLoop) l23 c23 k23
  have b23 := F23.binds (ps := ["_law_box_here", "_law_most", "_law_homes"]) fun _ _ _ _ _ _ us hl => match us, hl with | [_, _, _], _ => rfl
  have g23 := PySem.W.mg_of X G a23
  have F24 := fun_mk (st := sPlan) l24 c24 k24
  have b24 := F24.binds (ps := ["_law_box_here", "_law_most"]) fun _ _ _ _ _ _ us hl => match us, hl with | [_, _], _ => rfl
  have g24 := PySem.W.mg_of X G a24
  have F25 := fun_mk (st := sLens) l25 c25 k25
  have b25 := F25.binds (ps := ["_law_loop_here"]) fun _ _ _ _ _ _ us hl => match us, hl with | [_], _ => rfl
  have g25 := PySem.W.mg_of X G a25
  have F26 := fun_mk (st := sRight) l26 c26 k26
  have b26 := F26.binds (ps := ["_law_box_here"]) fun _ _ _ _ _ _ us hl => match us, hl with | [_], _ => rfl
  have g26 := PySem.W.mg_of X G a26
  have F27 := fun_mk (st := sLaw) l27 c27 k27
  have n_int := PySem.W.mg_none_of X G z0
  have n_len := PySem.W.mg_none_of X G z1
  have n_abs := PySem.W.mg_none_of X G z2
  have n_range := PySem.W.mg_none_of X G z3
  have n_enumerate := PySem.W.mg_none_of X G z4
  have n_max := PySem.W.mg_none_of X G z5
  have n_min := PySem.W.mg_none_of X G z6
  have n_all := PySem.W.mg_none_of X G z7
  have n_repr := PySem.W.mg_none_of X G z8
  have n_zip := PySem.W.mg_none_of X G z9
  have n_tuple := PySem.W.mg_none_of X G z10
  have n_str := PySem.W.mg_none_of X G z11
  have n_list := PySem.W.mg_none_of X G z12
  have n_sorted := PySem.W.mg_none_of X G z13
  have n_isinstance := PySem.W.mg_none_of X G z14
  have n_bool := PySem.W.mg_none_of X G z15
  have n_divmod := PySem.W.mg_none_of X G z16
  have c_MOST_LENGTH : ∃ u, mg "MOST_LENGTH" = some u ∧ RelV (.int 64) u := ⟨_, PySem.W.mg_of X G q0, _, rfl⟩
  refine ⟨PySem.W.fnOf "law" "law" (defArgs sLaw) (defBody sLaw) (defScope sLaw) .none kV27 dc27 pm27 an27 cd27 ct27, fun s v => .of_eq rfl, fun base _ _ => ?_⟩
  have Dbranches : Dfn P w K mg base 1 "branches" ["trace"] (spBrs K) := ⟨_, _, ok_brs (k := 0) n_tuple n_sorted F0, g0, F0.kp, b0⟩
  have Doutcomes_of : Dfn P w K mg base 2 "outcomes_of" ["trace", "branch"] (spOuts K) := ⟨_, _, ok_outs Dbranches n_isinstance n_bool n_tuple F1, g1, F1.kp, b1⟩
  have Dall_outcomes : Dfn P w K mg base 1 "all_outcomes" ["trace"] (spAll K) := ⟨_, _, ok_all (k := 0) n_tuple F2, g2, F2.kp, b2⟩
  have Dtimes : Dfn P w K mg base 1 "_times" ["pairs", "branch"] (spTimes K) := ⟨_, _, ok_times (k := 0) n_len F3, g3, F3.kp, b3⟩
  have Dnewest : Dfn P w K mg base 1 "_newest" ["outcomes", "passed", "length"] (spNew K) := ⟨_, _, ok_new (k := 0) n_max n_min n_len n_str F4, g4, F4.kp, b4⟩
  have Dhistory_at : Dfn P w K mg base 3 "history_at" ["trace", "scheme", "moment"] (spHist K) := ⟨_, _, ok_hist Doutcomes_of Dall_outcomes Dtimes Dnewest n_len n_divmod F5, g5, F5.kp, b5⟩
  have Dbinary : Dfn P w K mg base 1 "_binary" ["history"] spBin := ⟨_, _, ok_bin n_int F6, g6, F6.kp, b6⟩
  have Dfold : Dfn P w K mg base 2 "fold" ["history", "bits", "branch"] spFold := ⟨_, _, ok_fold Dbinary n_divmod F7, g7, F7.kp, b7⟩
  have Dcell_of : Dfn P w K mg base 3 "cell_of" ["scheme", "branch", "history"] (spCell K) := ⟨_, _, ok_cell Dfold F8, g8, F8.kp, b8⟩
  have Dcell_at : Dfn P w K mg base 4 "cell_at" ["trace", "scheme", "moment"] (spCellAt K) := ⟨_, _, ok_cellAt Dhistory_at Dcell_of n_len F9, g9, F9.kp, b9⟩
  have Dsteady_moment : Dfn P w K mg base 1 "_steady_moment" ["trace", "scheme", "position"] (spMom K) := ⟨_, _, ok_mom (k := 0) n_len F10, g10, F10.kp, b10⟩
  have Dsteady_cells : Dfn P w K mg base 5 "steady_cells" ["trace", "scheme"] (spSCells K) := ⟨_, _, ok_scells Dsteady_moment Dcell_at n_len n_range n_tuple F11, g11, F11.kp, b11⟩
  have Dclashes : Dgf P w K mg base 6 "clashes" ["trace", "scheme"] (spClash K) := ⟨_, _, gf_clash Dsteady_cells n_len n_range F12, g12, F12.kp, b12⟩
  have Dfirst_clash : Dfn P w K mg base 10 "first_clash" ["trace", "scheme"] (spFirst K) := ⟨_, _, ok_first Dclashes F13, g13, F13.kp, b13⟩
  have Dis_sure : Dfn P w K mg base 11 "is_sure" ["trace", "scheme"] (spSure K) := ⟨_, _, ok_sure Dfirst_clash F14, g14, F14.kp, b14⟩
  have Dscheme_of : Dfn P w K mg base 1 "scheme_of" ["word", "length", "bits"] (spSchOf K) := ⟨_, _, ok_schOf F15, g15, F15.kp, b15⟩
  have Droot_of : Dfn P w K mg base 1 "root_of" ["items"] (spRoot K) := ⟨_, _, ok_root (k0 := 0) n_range n_len F17, g17, F17.kp, b17⟩
  have Dturned : Dfn P w K mg base 1 "turned" ["trace", "steps"] (spTurn K) := ⟨_, _, ok_turn n_len F18, g18, F18.kp, b18⟩
  have Dlaw_box : Dfn P w K mg base 1 "_law_box" ["_law_script", "_law_k"] (spBox K) := ⟨_, _, ok_box n_len n_abs n_int F19, g19, F19.kp, b19⟩
  have Dlaw_take : Dfn P w K mg base 1 "_law_take" ["_law_box_here", "_law_many"] spTake := ⟨_, _, ok_take F20, g20, F20.kp, b20⟩
  have Dlaw_of : Dfn P w K mg base 2 "_law_of" ["_law_box_here", "_law_some"] (spOf K) := ⟨_, _, ok_of Dlaw_take n_len F21, g21, F21.kp, b21⟩
  have Dlaw_row : Dfn P w K mg base 2 "_law_row" ["_law_box_here", "_law_most"] (spRow K) := ⟨_, _, ok_row Dlaw_take n_range n_min n_tuple n_len F22, g22, F22.kp, b22⟩
  have Dlaw_loop : Dfn P w K mg base 3 "_law_loop" ["_law_box_here", "_law_most", "_law_homes"] (spLoop K) := ⟨_, _, ok_loop Dlaw_take Dlaw_row n_tuple n_enumerate n_len F23, g23, F23.kp, b23⟩
  have Dlaw_plan : Dfn P w K mg base 3 "_law_plan" ["_law_box_here", "_law_most"] (spPlan K) := ⟨_, _, ok_plan Dlaw_take Dlaw_of n_min F24, g24, F24.kp, b24⟩
  subst eRS
  have hqR : ∀ q ∈ [(("bits" : Str), V.int 0)], ∃ u, PySem.W.nsIn K DRS q.1 = some (some u) ∧ RelV q.2 u := fun q hq => by
    obtain rfl := List.mem_singleton.mp hq
    exact ⟨_, nRS, _, rfl⟩
  have FL := ok_leastP Dis_sure Dscheme_of c_MOST_LENGTH n_range F16
  obtain ⟨dsR, rR, bR⟩ := kw_binds (ps := ["trace", "word", "bits"]) 2 [("bits", V.int 0)] l16 c16 k16 (by decide) rfl hqR (fun D doc pm an cdv ct us ks h1 h2 => match us, ks, h1, h2 with | [_, _], [_], _, _ => ⟨_, _, _, _, _, _, rfl, rfl, rfl⟩)
  have DL0 : DfD P w K mg base 12 "least_length" ["trace", "word", "bits"] [.int 0] (spLeastP K) := ⟨_, _, dsR, FL, g16, F16.kp, bR, rR⟩
  have Dlaw_lengths : Dfn P w K mg base 13 "_law_lengths" ["_law_loop_here"] (spLens K) := ⟨_, _, ok_lens DL0 F25, g25, F25.kp, b25⟩
  have Dlaw_right : DfG P w K mg base 14 "_law_right" ["_law_box_here"] spRight := ⟨_, _, ok_right Dlaw_take Dlaw_loop Dlaw_plan Dlaw_lengths Dturned (⟨_, _, ok_brsF (k := 0) n_tuple n_sorted F0, g0, F0.kp, b0⟩ : Dfn P w K mg base 1 "branches" ["trace"] (spBrsF K)) (⟨_, _, gy_clash Dsteady_cells n_len n_range F12, g12, F12.kp, b12⟩ : Dgy P w K mg base 6 "clashes" ["trace", "scheme"] (spClashY K)) (⟨_, _, gn_clash Dsteady_cells n_len n_range F12, g12, F12.kp, b12⟩ : Dgn P w K mg base 6 "clashes" ["trace", "scheme"] (spClashG K)) Dsteady_cells Droot_of n_tuple n_sorted n_len n_list F26, g26, F26.kp, b26⟩
  exact ok_law Dlaw_box Dlaw_right n_range n_max n_min n_len n_all F27
end Pf
open PySem PySem.W PyProof.Rows
set_option maxHeartbeats 0 in
theorem PySem.Challenge.cw_pastenough_k76_whole_traces_turned_and_r_holds : PySem.Challenge.rw_pastenough_k76_whole_traces_turned_and_r.Holds := by
  w_on; o_law; k_head; (case hw => w_witness2)
  k_fill
  refine Gk.walkG (l := PySem.Challenge.rw_pastenough_k76_whole_traces_turned_and_r) (n := 63) (k := 15) (x := "_law_script") (sp := fun w => Pf.spLaw _) rfl (by decide) rfl ⟨rfl, by decide, by decide⟩ (fun w h Y => PySem.W.kIn_of Y) ?F (fun _ _ a ns hl hO hS => Pf.law_start hl hO hS)
  case F =>
    intro w mg fa h KX G hmg
    refine' Pf.all_mk KX G hmg ?a0 ?l0 ?c0 ?k0 ?a1 ?l1 ?c1 ?k1 ?a2 ?l2 ?c2 ?k2 ?a3 ?l3 ?c3 ?k3 ?a4 ?l4 ?c4 ?k4 ?a5 ?l5 ?c5 ?k5 ?a6 ?l6 ?c6 ?k6 ?a7 ?l7 ?c7 ?k7 ?a8 ?l8 ?c8 ?k8 ?a9 ?l9 ?c9 ?k9 ?a10 ?l10 ?c10 ?k10 ?a11 ?l11 ?c11 ?k11 ?a12 ?l12 ?c12 ?k12 ?a13 ?l13 ?c13 ?k13 ?a14 ?l14 ?c14 ?k14 ?a15 ?l15 ?c15 ?k15 ?a16 ?l16 ?c16 ?k16 ?a17 ?l17 ?c17 ?k17 ?a18 ?l18 ?c18 ?k18 ?a19 ?l19 ?c19 ?k19 ?a20 ?l20 ?c20 ?k20 ?a21 ?l21 ?c21 ?k21 ?a22 ?l22 ?c22 ?k22 ?a23 ?l23 ?c23 ?k23 ?a24 ?l24 ?c24 ?k24 ?a25 ?l25 ?c25 ?k25 ?a26 ?l26 ?c26 ?k26 ?a27 ?l27 ?c27 ?k27 ?z0 ?z1 ?z2 ?z3 ?z4 ?z5 ?z6 ?z7 ?z8 ?z9 ?z10 ?z11 ?z12 ?z13 ?z14 ?z15 ?z16 ?q0 ?eRS ?nRS
    (case a0 => k_is)
    (case l0 => k_is)
    (case c0 => k_is)
    (case k0 => k_is)
    (case a1 => k_is)
    (case l1 => k_is)
    (case c1 => k_is)
    (case k1 => k_is)
    (case a2 => k_is)
    (case l2 => k_is)
    (case c2 => k_is)
    (case k2 => k_is)
    (case a3 => k_is)
    (case l3 => k_is)
    (case c3 => k_is)
    (case k3 => k_is)
    (case a4 => k_is)
    (case l4 => k_is)
    (case c4 => k_is)
    (case k4 => k_is)
    (case a5 => k_is)
    (case l5 => k_is)
    (case c5 => k_is)
    (case k5 => k_is)
    (case a6 => k_is)
    (case l6 => k_is)
    (case c6 => k_is)
    (case k6 => k_is)
    (case a7 => k_is)
    (case l7 => k_is)
    (case c7 => k_is)
    (case k7 => k_is)
    (case a8 => k_is)
    (case l8 => k_is)
    (case c8 => k_is)
    (case k8 => k_is)
    (case a9 => k_is)
    (case l9 => k_is)
    (case c9 => k_is)
    (case k9 => k_is)
    (case a10 => k_is)
    (case l10 => k_is)
    (case c10 => k_is)
    (case k10 => k_is)
    (case a11 => k_is)
    (case l11 => k_is)
    (case c11 => k_is)
    (case k11 => k_is)
    (case a12 => k_is)
    (case l12 => k_is)
    (case c12 => k_is)
    (case k12 => k_is)
    (case a13 => k_is)
    (case l13 => k_is)
    (case c13 => k_is)
    (case k13 => k_is)
    (case a14 => k_is)
    (case l14 => k_is)
    (case c14 => k_is)
    (case k14 => k_is)
    (case a15 => k_is)
    (case l15 => k_is)
    (case c15 => k_is)
    (case k15 => k_is)
    (case a16 => k_is)
    (case l16 => k_is)
    (case c16 => k_is)
    (case k16 => k_is)
    (case a17 => k_is)
    (case l17 => k_is)
    (case c17 => k_is)
    (case k17 => k_is)
    (case a18 => k_is)
    (case l18 => k_is)
    (case c18 => k_is)
    (case k18 => k_is)
    (case a19 => k_is)
    (case l19 => k_is)
    (case c19 => k_is)
    (case k19 => k_is)
    (case a20 => k_is)
    (case l20 => k_is)
    (case c20 => k_is)
    (case k20 => k_is)
    (case a21 => k_is)
    (case l21 => k_is)
    (case c21 => k_is)
    (case k21 => k_is)
    (case a22 => k_is)
    (case l22 => k_is)
    (case c22 => k_is)
    (case k22 => k_is)
    (case a23 => k_is)
    (case l23 => k_is)
    (case c23 => k_is)
    (case k23 => k_is)
    (case a24 => k_is)
    (case l24 => k_is)
    (case c24 => k_is)
    (case k24 => k_is)
    (case a25 => k_is)
    (case l25 => k_is)
    (case c25 => k_is)
    (case k25 => k_is)
    (case a26 => k_is)
    (case l26 => k_is)
    (case c26 => k_is)
    (case k26 => k_is)
    (case a27 => k_is)
    (case l27 => k_is)
    (case c27 => k_is)
    (case k27 => k_is)
    (case z0 => k_is)
    (case z1 => k_is)
    (case z2 => k_is)
    (case z3 => k_is)
    (case z4 => k_is)
    (case z5 => k_is)
    (case z6 => k_is)
    (case z7 => k_is)
    (case z8 => k_is)
    (case z9 => k_is)
    (case z10 => k_is)
    (case z11 => k_is)
    (case z12 => k_is)
    (case z13 => k_is)
    (case z14 => k_is)
    (case z15 => k_is)
    (case z16 => k_is)
    (case q0 => k_is)
    (case eRS => rfl)
    (case nRS => k_is)
