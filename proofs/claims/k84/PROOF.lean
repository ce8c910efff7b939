import PyProof.Rows.All
import Wide.All
import OpenK.AllK
import Wide.FinOn
import HandS.ForMost
import HandS.Codes
import HandS.Wide
import HandS.WideBits
import HandS.Defaults
import HandS.Walk
import PyProof.ReprRoads
import HandS.Text
import HandS.Iter
import HandS.Style
import KE.GoesMore
import KE.KRevSl
import PyProof.ReprLen
import PyProof.StrBlock2
import HandS.Ends
import HandS.TupMul
import HandS.TupAny
import HandS.IsInst
import HandS.SetBool
import HandS.Strs
import HandS.Dict
import HandS.GenList
import PyProof.EnumMake
import PyProof.EnumFor
import PyProof.EnumStmt
import HandS.SetKeys
import HandS.DictTup
import HandS.TupLen
import PyProof.DictMoreH
import KE.KeyNested
import HandS.Small
import HandS.Gcd
import KE.KMathGC
import HandS.Zip
import PyProof.Rows.ReprOcc
import HandS.SetFor
import HandS.Comp
import HandS.Conv
import HandS.More
import KE.KSortTupG
import KE.KDictPairs
import HandS.List
import HandS.OwnEq
import OpenK.KMeth
import OpenK.KOps
import KE.KCallOwn
import PyProof.EqKinds
import PyProof.FactsAll.dict
import HandS.Property
import PyProof.InstNe
import HandS.DictComp
import KE.KWithOwn
import HandS.EndTab
import HandS.ExcOwn
import KE.RegKSuper
import KE.RegKIsAll
import KE.RegKTryMore
import PySem.Challenge.RW_pastenough_k84_whole_predictors_as_new_o
set_option Elab.async false
set_option linter.all false
set_option maxRecDepth 100000
set_option maxHeartbeats 4000000
/-! Defs that are run where no repr is under way; repr of data; further small rules. -/
namespace Gk
open PySem PySem.Spec PyProof.Rows L2

/-- a def's promise wherever nothing is being shown -/
structure FnG (P : Program) (w : World) (K : PySem.W.Frag) (mg : Str → Option Value) (base : Heap) (k : Nat)
    (f : Addr) (fd : FuncData) (ps : List Str) (sp : Sp) : Prop where
  len : ∀ vs H Q E, sp vs H Q E → vs.length = ps.length
  go : ∀ (A : Around) (outer : List Env) (s : Shared) (H : Hp) (args : Args) (us : List Value) (vs : List V) (Q : VK),
    Room k A → A.guards = some [] → Env0 P w K mg base A outer s H → BindsTo s fd args (ps.zip us) → Vals vs us → sp vs H Q L2.E0 →
    codeAny (model P w) A (.call (.ref f) args) (CR L2.CX0 outer P w H s Q L2.E0) s

section
variable {P : Program} {w : World} {K : PySem.W.Frag} {mg : Str → Option Value} {base : Heap}
theorem FnG.weak {j k : Nat} {f : Addr} {fd : FuncData} {ps : List Str} {sp : Sp} (F : FnG P w K mg base j f fd ps sp) (h : j ≤ k) : FnG P w K mg base k f fd ps sp :=
  ⟨F.len, fun A outer s H args us vs Q r g => F.go A outer s H args us vs Q (r.mono h) g⟩
theorem FnG.from {k : Nat} {f : Addr} {fd : FuncData} {ps : List Str} {sp : Sp} (F : FnOk P w K mg base L2.CX0 k f fd ps sp) : FnG P w K mg base k f fd ps sp :=
  ⟨F.len, fun A outer s H args us vs Q r _ e b v q => F.run A outer s H args us vs Q L2.E0 r e b v q⟩

theorem guards_deeper {A : Around} {env : Env} (h : A.guards = some []) : (A.deeper env).guards = some [] := by
  first | exact h | (unfold Around.deeper; exact h)

/-- THE RULE for a def, by its body -/
theorem fnG {x qual : Str} {st : Stmt} {f : Addr} {fd : FuncData} {N ps : List Str} {k : Nat} {sp : Sp} (F : L2.Fun K x qual st f fd) (S : FnScope N ps (defScope st))
    (len : ∀ vs H Q E, sp vs H Q E → vs.length = ps.length)
    (hbody : ∀ (cdv : Value) (A : Around) (outer : List Env) (s : Shared) (H : Hp) (vs : List V) (Q : VK),
      Room k (A.deeper (envOfC qual (defScope st) s.heap.objs.size f cdv)) → (A.deeper (envOfC qual (defScope st) s.heap.objs.size f cdv)).guards = some [] → sp vs H Q L2.E0 →
      ∃ t, PSs (cxOf L2.CX0 P w K mg base N qual (defScope st) f cdv A outer s H L2.E0).nox (defBody st) t ∧ t { nx := fun _ H' => Q .non H', rt := Q } (start N vs) H) :
    FnG P w K mg base (k + 1) f fd ps sp := by
  obtain ⟨oc, od, kV, doc, pm, an, cdv, ct, osl, rfl, lk, hcd⟩ := F.ex
  refine ⟨len, fun A outer s H args us vs Q room gd en bd rv want => ?_⟩
  have many := len _ _ _ _ want
  have KX : K.In s.heap := en.mod.kin.keeps (fun b o hbo => (en.bs b o hbo).1)
  have lim : s.heap.NoLimit := en.mod.nolimit.keeps (fun b o hbo => (en.bs b o hbo).1)
  have kinds : ∀ y ∈ ps.zip us, (defScope st).names.lookup y.1 = some .local ∨
      ((defScope st).names.lookup y.1 = some .cell ∧ ((cellsFrom (s.heap.objs.size + 1) (defScope st).names []).lookup y.1).isSome = true) := fun y hy =>
    (S.par y.1 (List.of_mem_zip (a := y.1) (b := y.2) hy).1).elim Or.inl fun q => .inr ⟨q, PySem.W.cellsFrom_some _ _ _ (.inl q)⟩
  refine codeAny_call_function room.depth (KX _ _ lk) rfl S.co S.gen rfl (PySem.W.codeRec_of KX hcd) (bd _ _ _ _ ?_)
  refine wpAny_newFunctionEnv_cells S.kind kinds fun env he st1 inC => ?_
  subst he
  refine ⟨lim.keeps inC.toInCall.keep, codeAny_func ?_⟩
  obtain ⟨t, ht, hq⟩ := hbody cdv A outer s H vs Q (room.deeper _) (guards_deeper gd) want
  have I := inv_start (CX := L2.CX0) (P := P) (w := w) (mg := mg) (E := L2.E0) S room.hd en many rv inC
  refine wpAny_mono (ht.nox.run [] st1 (start N vs) H _ I hq) (fun fl s' hs => ?_) fun e s' hs => hs
  cases fl with
  | brk => obtain ⟨_, _, _, z⟩ := hs; exact False.elim z
  | cont => obtain ⟨_, _, _, z⟩ := hs; exact False.elim z
  | next => obtain ⟨σ1, H1, J, z⟩ := hs; exact ⟨V.non, H1, J.os, J.bare, J.base, J.hok, rfl, z⟩
  | ret u => obtain ⟨v, σ1, H1, J, rv1, z⟩ := hs; exact ⟨v, H1, J.os, J.bare, J.base, J.hok, rv1, z⟩
end

section
variable {X : Cx} {k : Nat} {f : Addr} {fd : FuncData} {ps : List Str} {sp : Sp} {x : Str} {p pos : Pos} {e : Expr} {es : List Expr} {t : TA}
theorem go_fn {pins : List (Addr × Obj)} {σ : L2.St} {H : Hp} {s : Shared} {Q : VK} {us : List Value} {vs : List V} (F : FnG X.prog X.w X.K X.mg X.base k f fd ps sp)
    (hr : Room k X.A) (hg : X.A.guards = some []) (hb : Binds X.K fd ps []) (I : Inv X pins σ H s) (r : Vals vs us) (h : sp vs H Q L2.E0) : wpAny (model X.prog X.w) X.A (call (.ref f) us) (EP X pins σ Q) X.xe s := by
  have hl : (us ++ []).length = ps.length := by rw [List.append_nil, ← r.length]; exact F.len _ _ _ _ h
  have b := hb s us I.kIn hl
  rw [List.append_nil] at b
  refine wpAny_call (codeAny_mono (F.go X.A X.stack s H ⟨us, []⟩ us vs Q hr hg I.env0 b r h) fun res s' hq => ?_)
  cases res with
  | error er => exact False.elim hq
  | ok fl =>
    cases fl with
    | brk => exact False.elim hq
    | cont => exact False.elim hq
    | next => exact False.elim hq
    | ret u => exact I.after hq
def tG (sp : Sp) (t : TA) : TE := fun σ H Q => t σ H fun vs H1 => sp vs H1 Q L2.E0
/-- f(e, ..) -/
theorem pe_g (F : FnG X.prog X.w X.K X.mg X.base k f fd ps sp) (hr : Room k X.A) (hd : X.A.guards = some []) (hg : Gl X x) (hm : X.mg x = some (.ref f)) (hk : PySem.W.keepIn X.K (.ref f) = true) (hb : Binds X.K fd ps [])
    (ha : PA X (e :: es) t) (hdb : (x == ("__debug__" : Str)) = false := by decide) (he : starEach (e :: es) X.env = (false, eval e X.env) :: starEach es X.env := by rfl)
    (hpl : (backTo pos (starEach es X.env)).any (·.1) = false := by rfl) : PE X (.Call (.Name x p) (e :: es) [] pos) (tG sp t) :=
  ⟨fun pins s σ H Q I h => wpAny_Call_Name_kw (ld_glob I hg hm (PySem.W.callWith_K (h₀ := X.base) I.ok.mod.kin hk (thn (ha.run pos pins s σ H _ I h) fun us s1 ⟨vs, H1, I1, r, q⟩ => ⟨I1.kIn, go_fn F hr hd hb I1 r q⟩) he hpl) hdb)⟩
end

/-! ### keywords alone -/
section
variable {X : Cx} {k : Nat} {f : Addr} {fd : FuncData} {ps ks : List Str} {sp : Sp} {x : Str} {p pos : Pos} {kws : List Keyword} {tk : TA} {g : List Value → List Value → List Value} {gV : List V → List V → List V}
def tKw (n : Nat) (gV : List V → List V) (sp : Sp) (tk : TA) : TE := fun σ H Q => tk σ H fun zs H1 => zs.length = n ∧ sp (gV zs) H1 Q L2.E0
/-- f(k = v, ..) -/
theorem pe_kw (F : FnOk X.prog X.w X.K X.mg X.base L2.CX0 k f fd ps sp) (hr : Room k X.A) (hg : Gl X x) (hm : X.mg x = some (.ref f)) (hk : PySem.W.keepIn X.K (.ref f) = true) (hb : KBn X.K fd ps 0 ks g gV)
    (hkw : PK X kws tk) (hall : (backToKw pos (keywordEach kws X.env)).all (·.1.isSome) = true := by rfl) (hks : (backToKw pos (keywordEach kws X.env)).filterMap (·.1) = ks := by rfl) (hdb : (x == ("__debug__" : Str)) = false := by decide)
    (hpl : ((backTo pos (starEach [] X.env)).any (·.1) || (backToKw pos (keywordEach kws X.env)).any (·.1.isNone)) = false := by rfl) :
    PE X (.Call (.Name x p) [] kws pos) (tKw ks.length (gV []) sp tk) := by
  refine ⟨fun pins s σ H Q I h => wpAny_Call_Name_kw (ld_glob I hg hm ?_ hdb)⟩
  refine PySem.W.callWith_KW0 (h₀ := X.base) I.ok.mod.kin hk hall (thn (hkw.run pos pins s σ H _ I h) fun ws s2 ⟨zs, H2, I2, rz, l2, q2⟩ => ⟨I2.kIn, ?_⟩) hpl
  rw [hks]
  exact run_fnN (us := []) (vs := []) F hr hb L2.pass0 I2 .nil rz rfl l2 q2
end
end Gk
namespace Gk
open PySem PySem.Spec PyProof.Rows L2 PySem.Builtin.Str

/-! ### powers of great numbers -/
def CBigPow (i j : Int) : Prop := 0 ≤ j ∧ (Builtin.Int.intBits i : Int) * j ≤ 2 ^ 27
theorem op_bigpow {X : Cx} : OpR X (binaryOp .Pow) (rI CBigPow fun i j => .int (i ^ j.toNat)) := opI fun _ _ _ _ _ _ _ hc q => pow_int hc.1 hc.2 q

/-! ### repr of data -/
theorem call_reprD {X : Cx} {k : Nat} (hr : Room k X.A) (hg : X.A.guards = some []) : CallR X (.builtin "repr") (fun xs H Q => ∃ v d, xs = [v] ∧ Dp X.K H v d ∧ d.showable = true ∧ d.hasDict = false ∧
    d.depth ≤ 40 ∧ d.shown.length ≤ sizeLine ∧ Q (.str d.shown) H) := by
  intro pins s σ H xs us Q I r h
  obtain ⟨v, d, rfl, hd, hs, hn, hdep, hz, q⟩ := h
  obtain ⟨u, rfl, ru⟩ := vals1 r
  have hun := hr.units
  cases hd with
  | non =>
    cases ru
    exact PySem.P.repr_of_none ⟨.str _, H, I.tok _, ⟨_, rfl⟩, q⟩
  | bl b =>
    cases ru
    exact PySem.P.repr_of_bool ⟨.str _, H, I.tok _, ⟨_, rfl⟩, q⟩
  | int i =>
    obtain ⟨t, rfl⟩ := ru
    exact PySem.P.repr_of_int (of_decide_eq_true hs) ⟨.str _, H, I.tok _, ⟨_, rfl⟩, q⟩
  | str x =>
    obtain ⟨t, rfl⟩ := ru
    exact PySem.P.repr_of_str ⟨.str _, H, I.tok _, ⟨_, rfl⟩, q⟩ hz
  | lst h1 h2 =>
    rename_i a xs ds
    obtain ⟨as, rd⟩ := Dp.reads I (.list ds) (.ref a) u (.lst h1 h2) ru
    cases ru
    exact repr_of_reads' rd hs (PyData.noDict_hsm hn) hg (by omega) (fun _ _ e => e) (fun h' t tk hk => ⟨.str _, H, I.kept (t' := tk) hk, ⟨_, rfl⟩, q⟩) hz
  | tup h1 h2 =>
    rename_i a xs ds
    obtain ⟨as, rd⟩ := Dp.reads I (.tuple ds) (.ref a) u (.tup h1 h2) ru
    cases ru
    exact repr_of_reads' rd hs (PyData.noDict_hsm hn) hg (by omega) (fun _ _ e => e) (fun h' t tk hk => ⟨.str _, H, I.kept (t' := tk) hk, ⟨_, rfl⟩, q⟩) hz

/-! ### a text from behind -/
theorem rev_signs (z : Str) : ((strSliceIndices none none (-1) z.length).filterMap (z.cps[·]?)).toArray = z.cps.toList.reverse.toArray := by
  have e : strSliceIndices none none (-1) z.length = (List.range z.cps.size).reverse := by
    show sliceRange ((z.cps.size : Int) - 1) (-1) (-1) = _
    rw [PySem.W.krv_sliceRange, PySem.W.krv_range]
  rw [e, List.filterMap_reverse, PySem.W.krv_all]
def tRevT (te : TE) : TE := fun σ H Q => te σ H fun x H1 => ∃ z : Str, x = .str z ∧ z.length ≤ sizeLine ∧ Q (.str ⟨z.cps.toList.reverse.toArray⟩) H1
theorem pe_revT {X : Cx} {e : Expr} {te : TE} {k : Nat} {p1 p2 p3 pos : Pos} (he : PE X e te) : PE X (.Subscript e (.Slice none none (some (.UnaryOp .USub (.Constant (.int 1) k p1) p2)) p3) pos) (tRevT te) := by
  refine ⟨fun pins s σ H Q I h => Subscript_ (thn (he.run pins s σ H _ I h) fun v s1 ⟨x, H1, I1, r1, z, ex, hz, q⟩ => ?_)⟩
  subst ex
  obtain ⟨t, rfl⟩ := r1
  have step : PO X (some (.UnaryOp .USub (.Constant (.int 1) k p1) p2)) (tPart (tUn (rU fun i => .int (-i)) (tC (.int 1)))) := po_some (pe_un un_neg pe_int)
  refine wpAny_Slice (thn (po_none.run pins s1 σ H1 (fun o G => o = none ∧ G = H1) I1 ⟨rfl, rfl⟩) fun vl s2 ⟨l, H2, I2, pl, el, e2⟩ => ?_)
  subst e2 el
  refine thn (po_none.run pins s2 σ H2 (fun o G => o = none ∧ G = H2) I2 ⟨rfl, rfl⟩) fun vu s3 ⟨u, H3, I3, pu, eu, e3⟩ => ?_
  subst e3 eu
  refine thn (step.run pins s3 σ H3 (fun o G => o = some (-1) ∧ G = H3) I3 ⟨1, rfl, -1, rfl, rfl, rfl⟩) fun vs s4 ⟨o, H4, I4, ps, eo, e4⟩ => ?_
  subst e4 eo
  obtain ⟨l, rfl, el⟩ := IsPart.raw pl
  obtain ⟨u, rfl, eu⟩ := IsPart.raw pu
  obtain ⟨w, rfl, ew⟩ := IsPart.raw ps
  have I5 : Inv X pins σ H4 { s4 with heap := s4.heap.push { cls := .type "slice", data := .fields #[partValue l, partValue u, partValue w] } } :=
    I4.kept (t' := s4.toks) fun b ob g => Heap.get?_push_of_some _ g
  refine tail_any (T := "str") (ops := [.str z t, .ref s4.heap.objs.size]) (typeIs_str _ _ _) F.slot_str_getitem.lookup ?_ (by with_unfolding_all rfl)
  refine wpAny_getItem_str_slice (l := l) (u := u) (st := w) ⟨_, Heap.get?_push_size _ rfl, rfl, rfl⟩ (by rw [ew]; rfl) ?_
  unfold sliceMade slicePicked
  rw [el, eu, ew]
  show Made.post (if ((-1 : Int) == 1 && _) = true then _ else Made.str ⟨((strSliceIndices none none (-1) z.length).filterMap (z.cps[·]?)).toArray⟩) _ _
  rw [show ((-1 : Int) == 1) = false from rfl, Bool.false_and, if_neg Bool.false_ne_true, rev_signs]
  have hl : (⟨z.cps.toList.reverse.toArray⟩ : Str).length ≤ sizeLine := by
    show z.cps.toList.reverse.toArray.size ≤ sizeLine
    rw [List.size_toArray, List.length_reverse, Array.length_toList]
    exact hz
  exact ⟨hl, .str _, H4, I5.tok _, ⟨_, rfl⟩, q⟩

/-! ### enumerate of a text -/
def Iet (z : Str) : It := ⟨fun i _ => i < z.cps.size, fun i H v H' => ∃ T c, v = .ref T ∧ H T = none ∧ z.cps[i]? = some c ∧ H' = upd H T (.tup [.int (i : Nat), .str ⟨#[c]⟩]), fun i _ => z.cps.size ≤ i⟩
theorem turn_et {P : Program} {w : World} {K : PySem.W.Frag} {elts : List Expr} {kk : Nat} {tpos : Pos} (e it : Addr) (z : Str) (t : Tok) :
    Turn P w K (.Tuple elts kk tpos) (Iet z) [e, it] e (fun i h => ((∃ old, IsEnum h e it i old) ∧ h.IsStrIter it (strIterType z) z t i) ∧ e ≠ it ∧ i ≤ z.cps.size) where
  mem := List.mem_cons_self
  obj := fun i h st b hb => by
    obtain ⟨⟨⟨old, he⟩, ⟨o, ho, hc, hd⟩⟩, _⟩ := st
    rcases List.mem_cons.mp hb with rfl | hb
    · exact ⟨_, he, fun v g => nomatch g⟩
    · rw [List.mem_singleton.mp hb]
      exact ⟨o, ho, fun v g => by rw [hd] at g; cases g⟩
  keep := fun i h h' st k => by
    obtain ⟨⟨⟨old, he⟩, ⟨o, ho, hc, hd⟩⟩, hne⟩ := st
    exact ⟨⟨⟨old, k e List.mem_cons_self _ he⟩, o, k it (List.mem_cons_of_mem _ List.mem_cons_self) o ho, hc, hd⟩, hne⟩
  item := by
    intro X hP hw hK hc i pins s σ H E I hf st hg
    subst hP hw hK
    have hg' : i < z.cps.size := hg
    obtain ⟨st, hne, hi⟩ := st
    have D : Draws X.prog X.w X.A.in1 it [it] z.cps.size _ _ := Draws.text (show X.A.in1.handled = none from I.ok.hd hc) it z t
    have W := WalksT.enumerateD D e hne (fun q => hne (List.mem_singleton.mp q)) List.mem_cons_self
    have hel : e < s.heap.objs.size := by obtain ⟨⟨old, he⟩, _⟩ := st; exact Heap.lt_size he
    have hil : it < s.heap.objs.size := by obtain ⟨_, o, ho, _⟩ := st; exact Heap.lt_size ho
    refine W.item i s _ _ hg' st fun T vals h' tk hp hT isT mid hk => ?_
    obtain ⟨t1, x1, ⟨c, u1, hcx, rfl⟩, rfl⟩ := hp
    have nT := W.apart i T h' mid
    refine ⟨_, rfl, W.go elts kk tpos i T { s with heap := h', toks := tk } _ _ mid fun h2 st2 hk2 => ?_⟩
    obtain ⟨oT, gT, cT, nTT, dT⟩ := isT
    have gT2 := hk2 T oT nT gT
    have new : ObjOk X.prog X.w (upd H T (.tup [.int (i : Nat), .str ⟨#[c]⟩])) h2 T (.tup [.int (i : Nat), .str ⟨#[c]⟩]) :=
      ⟨by show 2 ≤ sizeLine; decide, [.int i t1, .str ⟨#[c]⟩ u1], .cons ⟨_, rfl⟩ (.cons ⟨_, rfl⟩ .nil), ⟨oT, gT2, cT, nTT, dT⟩⟩
    have I1 : Inv X pins σ (upd H T (.tup [.int (i : Nat), .str ⟨#[c]⟩])) { s with heap := h2, toks := tk } :=
      I.turnedNew (ch := [e, it]) (fun b ob hb g => hk2 b ob hb (hk b ob hb g)) hf hT new
    refine ⟨.ref T, _, I1, rfl, ⟨T, c, rfl, I.hok.fresh hT, hcx, rfl⟩, ⟨⟨?_, st2.2⟩, hne, hg'⟩, fun b hb => ?_⟩
    · exact st2.1
    · have hb' : b < s.heap.objs.size := by
        rcases List.mem_cons.mp hb with rfl | hb
        · exact hel
        · rw [List.mem_singleton.mp hb]; exact hil
      rw [upd_ne (Nat.ne_of_lt (Nat.lt_of_lt_of_le hb' hT))]
      exact (hf b hb).1
  done := by
    intro X hP hw hK hc i pins s σ H E I hf st hg
    subst hP hw hK
    obtain ⟨st, hne, hi⟩ := st
    have hg' : z.cps.size ≤ i := hg
    obtain rfl : i = z.cps.size := Nat.le_antisymm hi hg'
    have D : Draws X.prog X.w X.A.in1 it [it] z.cps.size _ _ := Draws.text (show X.A.in1.handled = none from I.ok.hd hc) it z t
    have W := WalksT.enumerateD D e hne (fun q => hne (List.mem_singleton.mp q)) List.mem_cons_self
    refine W.done s _ _ st fun h' tk hk => ⟨rfl, ?_⟩
    exact I.step (g' := s.gens) (d' := s.drawn) (ch := [e, it]) (fun b hb => ⟨(hf b hb).2.2.2.1, (hf b hb).2.1, (hf b hb).2.2.2.2.1, (hf b hb).2.2.2.2.2⟩) (fun b o _ _ hc g _ => hk b o hc g) (fun b o _ _ hc g _ => ⟨o.slots, hk b o hc g⟩)
      (fun _ _ _ _ n => n) (fun b o hc g => ⟨o, hk b o hc g⟩) (fun _ _ g => g) (fun _ _ _ g => g) (fun b ps g => ⟨#[], by rw [g]; simp⟩)
      (fun m hm => by
        obtain ⟨o, es, ep, ho, r⟩ := hm
        exact ⟨o, es, ep, hk _ o (fun q => (hf _ q).2.1 rfl) ho, r⟩)
      (fun b u g => by
        have nb : ∀ c v, H c = some v → c ∉ [e, it] := fun c v g q => by
          have g' := (hf c q).1
          rw [g'] at g; cases g
        refine (I.hok b u g).stay (fun c v hcv q => hk c v ?_ q) (fun _ q => q) fun _ _ q => q
        rcases hcv with rfl | hcv
        · exact nb _ _ g
        · exact nb _ _ hcv) I.bare
  self := fun A i s Q E st h => by
    obtain ⟨⟨⟨old, he⟩, _⟩, _⟩ := st
    exact wpAny_pyIter_enum he h
def iEnumT (ta : TA) : TI := fun σ H R => ta σ H fun vs H1 => ∃ z, vs = [.str z] ∧ R (Iet z) H1
theorem pi_enumT {X : Cx} {e : Expr} {ta : TA} {p pos tpos : Pos} {elts : List Expr} {kk : Nat} (hg : Gl X "enumerate") (hm : X.mg "enumerate" = none) (ha : PA X [e] ta) (hs : starEach [e] X.env = [(false, eval e X.env)] := by rfl) :
    PI X (.Tuple elts kk tpos) (.Call (.Name "enumerate" p) [e] [] pos) (iEnumT ta) := by
  refine ⟨fun pins s σ H R I h => Call_ (ld_blt I hg hm boot_enumerate (PyProof.Rows.callWith_type1 (thn (ha.run pos pins s σ H _ I h) fun us s1 ⟨vs, H1, I1, r1, z, ez, q⟩ => ?_) hs rfl))⟩
  subst ez
  obtain ⟨u, rfl, t, rfl⟩ := vals1 r1
  refine call_enumerate_str fun h' he hit hsz hk => wpAny_pyIter_enum he ?_
  refine ⟨s1.heap.objs.size + 1, [s1.heap.objs.size + 1, s1.heap.objs.size], _, _, H1, rfl, I1.kept (t' := s1.toks) hk, turn_et (s1.heap.objs.size + 1) s1.heap.objs.size z t, ⟨⟨⟨.none, he⟩, hit⟩, Nat.succ_ne_self _, Nat.zero_le _⟩, fun b hb => ?_, q⟩
  have hle : s1.heap.objs.size ≤ b := by
    rcases List.mem_cons.mp hb with rfl | hb
    · exact Nat.le_succ _
    · rw [List.mem_singleton.mp hb]
      exact Nat.le_refl _
  exact I1.fpOk hle (I1.hok.fresh hle)
theorem walk_et {z : Str} : Walk (Iet z) z.cps.size (fun _ => True) (fun i H v H' => ∃ T c, v = .ref T ∧ H T = none ∧ z.cps[i]? = some c ∧ H' = upd H T (.tup [.int (i : Nat), .str ⟨#[c]⟩])) :=
  ⟨fun _ _ hi _ => hi, fun _ _ => Nat.le_refl _, fun _ _ _ _ _ _ y => y⟩
end Gk
namespace Gk
open PySem PySem.Spec PyProof.Rows L2
/-! ### the box of draws -/
def Box (m : Nat) (H : Hp) (b : Addr) : Prop := ∃ x y s : Int, H b = some (.lst [.int x, .int y, .int s]) ∧ 0 ≤ s ∧ s ≤ m
theorem Box.up {m n : Nat} {H : Hp} {b : Addr} (h : Box m H b) (hn : m ≤ n) : Box n H b := by
  obtain ⟨x, y, s, e, h0, h1⟩ := h
  exact ⟨x, y, s, e, h0, by omega⟩
/-- all but the box is as it was -/
def But (b : Addr) (H H' : Hp) : Prop := ∀ a o, a ≠ b → H a = some o → H' a = some o
theorem But.refl (b : Addr) (H : Hp) : But b H H := fun _ _ _ h => h
theorem But.trans {b : Addr} {H H1 H2 : Hp} (x : But b H H1) (y : But b H1 H2) : But b H H2 := fun a o n h => y a o n (x a o n h)
theorem But.set {b : Addr} {H : Hp} {o : HO} : But b H (upd H b o) := fun a u n h => by rw [upd_ne n]; exact h
theorem But.new {b p : Addr} {H : Hp} {o : HO} (h : H p = none) : But b H (upd H p o) := fun a u _ e => by rw [upd_ne (ne_of_none e h)]; exact e
theorem But.of_same {b : Addr} {H H' : Hp} (h : Same H H') : But b H H' := fun a o _ e => h a o e
theorem same_new {H : Hp} {p : Addr} {o : HO} (h : H p = none) : Same H (upd H p o) := fun a u e => by rw [upd_ne (ne_of_none e h)]; exact e
theorem Box.same {m : Nat} {H H' : Hp} {b : Addr} (h : Box m H b) (s : Same H H') : Box m H' b := by
  obtain ⟨x, y, z, e, r⟩ := h
  exact ⟨x, y, z, s _ _ e, r⟩
theorem Box.ne {m : Nat} {H : Hp} {b p : Addr} (h : Box m H b) (hp : H p = none) : b ≠ p := by
  obtain ⟨x, y, z, e, r⟩ := h
  exact ne_of_none e hp
theorem But.seqL {b : Addr} {K : PySem.W.Frag} {H H' : Hp} {a : Addr} {xs : List V} (e : But b H H') (n : a ≠ b) (h : SqL K H a xs) : SqL K H' a xs := by
  rcases h with (h | ⟨o, h⟩) | h
  · exact .inl (.inl (e _ _ n h))
  · exact .inl (.inr ⟨o, e _ _ n h⟩)
  · exact .inr h
theorem But.seqT {b : Addr} {K : PySem.W.Frag} {H H' : Hp} {a : Addr} {xs : List V} (e : But b H H') (n : a ≠ b) (h : SqT K H a xs) : SqT K H' a xs := by
  rcases h with (h | ⟨o, h⟩) | h
  · exact .inl (.inl (e _ _ n h))
  · exact .inl (.inr ⟨o, e _ _ n h⟩)
  · exact .inr h
theorem Same.seqT {K : PySem.W.Frag} {H H' : Hp} {a : Addr} {xs : List V} (e : Same H H') (h : SqT K H a xs) : SqT K H' a xs := by
  rcases h with (h | ⟨o, h⟩) | h
  · exact .inl (.inl (e _ _ h))
  · exact .inl (.inr ⟨o, e _ _ h⟩)
  · exact .inr h
/-- what is read at an address that is not the box's -/
theorem box_not_tup {m : Nat} {K : PySem.W.Frag} {H : Hp} {b a : Addr} (h : Box m H b) {xs : List V} (t : H a = some (.tup xs)) : a ≠ b := by
  obtain ⟨x, y, z, e, r⟩ := h
  exact ne_of t e (fun q => HO.noConfusion q)

/-! ### defs with their names -/
structure Dfn (P : Program) (w : World) (K : PySem.W.Frag) (mg : Str → Option Value) (base : Heap) (k : Nat) (x : Str) (ps : List Str) (sp : Sp) : Prop where
  ex : ∃ (f : Addr) (fd : FuncData), FnOk P w K mg base L2.CX0 k f fd ps sp ∧ mg x = some (.ref f) ∧ PySem.W.keepIn K (.ref f) = true ∧ Binds K fd ps []
/-- .. where nothing is being shown -/
structure DfG (P : Program) (w : World) (K : PySem.W.Frag) (mg : Str → Option Value) (base : Heap) (k : Nat) (x : Str) (ps : List Str) (sp : Sp) : Prop where
  ex : ∃ (f : Addr) (fd : FuncData), FnG P w K mg base k f fd ps sp ∧ mg x = some (.ref f) ∧ PySem.W.keepIn K (.ref f) = true ∧ Binds K fd ps []
section
variable {X : Cx} {k j : Nat} {x : Str} {ps : List Str} {sp : Sp} {p pos : Pos} {e : Expr} {es : List Expr} {t : TA}
theorem pe_d (D : Dfn X.prog X.w X.K X.mg X.base k x ps sp) (hr : Room j X.A) (hk : k ≤ j) (hg : Gl X x) (ha : PA X (e :: es) t)
    (hdb : (x == ("__debug__" : Str)) = false := by decide) (he : starEach (e :: es) X.env = (false, eval e X.env) :: starEach es X.env := by rfl)
    (hpl : (backTo pos (starEach es X.env)).any (·.1) = false := by rfl) : PE X (.Call (.Name x p) (e :: es) [] pos) (tCall sp [] L2.E0 t) := by
  obtain ⟨f, fd, F, m, kp, b⟩ := D.ex
  exact L2.pe_call (F.mono hk) hr hg m kp b .nil L2.pass0 ha hdb he hpl
theorem pe_dg (D : DfG X.prog X.w X.K X.mg X.base k x ps sp) (hr : Room j X.A) (hd : X.A.guards = some []) (hk : k ≤ j) (hg : Gl X x) (ha : PA X (e :: es) t)
    (hdb : (x == ("__debug__" : Str)) = false := by decide) (he : starEach (e :: es) X.env = (false, eval e X.env) :: starEach es X.env := by rfl)
    (hpl : (backTo pos (starEach es X.env)).any (·.1) = false := by rfl) : PE X (.Call (.Name x p) (e :: es) [] pos) (tG sp t) := by
  obtain ⟨f, fd, F, m, kp, b⟩ := D.ex
  exact pe_g (F.weak hk) hr hd hg m kp b ha hdb he hpl
end
/-- an expression whose ways meet -/
def tMid (t : TE) : TE := fun σ H Q => ∃ Mid : V → Hp → Prop, t σ H Mid ∧ ∀ v H', Mid v H' → Q v H'
theorem pe_mid {X : Cx} {e : Expr} {t : TE} (h : PE X e t) : PE X e (tMid t) :=
  ⟨fun pins s σ H Q I ⟨M, h1, h2⟩ => thn (h.run pins s σ H M I h1) fun u s1 ⟨v, H1, I1, r, q⟩ => ⟨v, H1, I1, r, h2 v H1 q⟩⟩
/-- a test whose ways meet -/
def tMidT (t : TT) : TT := fun σ H Q => ∃ Mid : Bool → Hp → Prop, t σ H Mid ∧ ∀ b H', Mid b H' → Q b H'
/-- a def called by keywords alone -/
structure DfK (P : Program) (w : World) (K : PySem.W.Frag) (mg : Str → Option Value) (base : Heap) (k : Nat) (x : Str) (ps ks : List Str) (gV : List V → List V) (sp : Sp) : Prop where
  ex : ∃ (f : Addr) (fd : FuncData) (g : List Value → List Value → List Value), FnOk P w K mg base L2.CX0 k f fd ps sp ∧ mg x = some (.ref f) ∧ PySem.W.keepIn K (.ref f) = true ∧ KBn K fd ps 0 ks g (fun _ zs => gV zs)
theorem pe_dk {X : Cx} {k j : Nat} {x : Str} {ps ks : List Str} {sp : Sp} {gV : List V → List V} {p pos : Pos} {kws : List Keyword} {tk : TA} (D : DfK X.prog X.w X.K X.mg X.base k x ps ks gV sp) (hr : Room j X.A) (hk : k ≤ j) (hg : Gl X x)
    (hkw : PK X kws tk) (hall : (backToKw pos (keywordEach kws X.env)).all (·.1.isSome) = true := by rfl) (hks : (backToKw pos (keywordEach kws X.env)).filterMap (·.1) = ks := by rfl) (hdb : (x == ("__debug__" : Str)) = false := by decide)
    (hpl : ((backTo pos (starEach [] X.env)).any (·.1) || (backToKw pos (keywordEach kws X.env)).any (·.1.isNone)) = false := by rfl) :
    PE X (.Call (.Name x p) [] kws pos) (tKw ks.length gV sp tk) := by
  obtain ⟨f, fd, g, F, m, kp, b⟩ := D.ex
  exact pe_kw (F.mono hk) hr hg m kp b hkw hall hks hdb hpl
/-- text * n -/
theorem op_mulS {X : Cx} : OpR X (binaryOp .Mult) (fun x y H Q => ∃ z n, x = .str z ∧ y = .int n ∧ MulOk z n ∧ Q (.str (Txt.mul z n)) H) := by
  intro pins s σ H x y v u Q I rx ry h
  obtain ⟨z, n, rfl, rfl, hc, q⟩ := h
  obtain ⟨t, rfl⟩ := rx
  obtain ⟨t', rfl⟩ := ry
  exact SB.mul hc fun t2 k => ⟨.str _, H, I.tok _, ⟨_, rfl⟩, q⟩
/-- data that may be shown -/
structure Fine (d : PyData) : Prop where
  a : d.showable = true
  b : d.hasDict = false
  c : d.depth ≤ 40
  e : d.shown.length ≤ sizeLine
theorem Fine.of {d : PyData} (B : Nat) (hB : 8 ≤ B) (hB2 : B ≤ 1000) (a : d.showable = true) (b : d.hasDict = false) (c : d.depth ≤ 40) (l : d.leavesShort B = true) (w : d.weight ≤ 10000) : Fine d :=
  ⟨a, b, c, by
    have h := PyData.shown_le B hB d l
    have h2 : (B + 2) * d.weight ≤ 1002 * 10000 := Nat.mul_le_mul (by omega) w
    have h3 : sizeLine = 16777216 := sizeLine_eq
    omega⟩
theorem call_reprF {X : Cx} {k : Nat} (hr : Room k X.A) (hg : X.A.guards = some []) : CallR X (.builtin "repr") (fun xs H Q => ∃ v d, xs = [v] ∧ Dp X.K H v d ∧ Fine d ∧ Q (.str d.shown) H) :=
  fun pins s σ H xs us Q I r ⟨v, d, h1, h2, h3, q⟩ => call_reprD hr hg pins s σ H xs us Q I r ⟨v, d, h1, h2, h3.a, h3.b, h3.c, h3.e, q⟩
theorem fine_ints {a b : Int} (ha : a.natAbs < 10 ^ 20) (hb : b.natAbs < 10 ^ 20) : Fine (.list [.int a, .int b]) := by
  have len : ∀ c : Int, c.natAbs < 10 ^ 20 → (PyData.shown (.int c)).length ≤ 21 := fun c hc => by
    have h := int_text_length_le10 (a := c) (k := 20) (by decide) hc
    show (Str.ofString (toString c)).length ≤ 21
    rw [PySem.ofString_length]
    exact h
  have la := len a ha
  have lb := len b hb
  have ga : a.natAbs.log2 < 1920 := PySem.Flt.log2_lt_of (by decide) (Nat.lt_of_lt_of_le ha (by decide))
  have gb : b.natAbs.log2 < 1920 := PySem.Flt.log2_lt_of (by decide) (Nat.lt_of_lt_of_le hb (by decide))
  refine Fine.of 21 (by decide) (by decide) ?_ rfl (by simp [PyData.depth, PyData.depthAll]) ?_ (by simp only [PyData.weight, PyData.weightAll]; split <;> split <;> omega)
  · simp only [PyData.showable, PyData.showableAll, ga, gb, decide_true, Bool.and_self]
  · simp only [PyData.leavesShort, PyData.leavesShortAll, la, lb, decide_true, Bool.and_self]
/-- a promise that does not speak of what is raised, as a value -/
theorem sqL_at {K : PySem.W.Frag} {H : Hp} {a : Addr} {xs : List V} (h : H a = some (.lst xs)) : SqL K H a xs := SqL.of h
end Gk
namespace Gk
open PySem PySem.Spec PyProof.Rows L2
/-- the caller shows nothing -/
theorem caller_guards : callerA.guards = some [] := rfl
/-- the law's call, its promise told where nothing is being shown -/
theorem callG {P : Program} {w : World} {K : PySem.W.Frag} {mg mb : Str → Option Value} {k : Nat} {fa a : Addr} {fd : FuncData} {x : Str} {sp : Sp} {s1 : Shared} {vs : List Value} {ns : List Int}
    (KX : K.In s1.heap) (n1 : s1.heap.Ns mainGlobals mg) (n2 : s1.heap.Ns builtinsNs mb) (n3 : ∀ x : Str, x ≠ "__name__" → mb x = bootBuiltins x) (lim : s1.heap.NoLimit) (gen : s1.gens = #[])
    (at_ : s1.heap.get? a = some { cls := .type "list", data := .seq vs.toArray }) (iss : IntsAre vs ns) (few : ns.length ≤ sizeLine) (room : Room k callerA)
    (F : ∀ base : Heap, K.In base → base.Ns mainGlobals mg → FnG P w K mg base k fa fd [x] sp) (binds : ∀ (s : Shared) (u : Value), BindsTo s fd ⟨[u], []⟩ [(x, u)])
    (want : ∀ H : Hp, Only H → SqL K H a (ns.map V.int) → sp [.ref a] H (fun v _ => v = .bl true) L2.E0) :
    codeAny (model P w) callerA (.call (.ref fa) ⟨[.ref a], []⟩) (fun r s' => r = .ok (.ret (.bool true)) ∧ OldK s1.heap s'.heap ∧ s'.os = s1.os ∧ AllBare s'.gens) s1 := by
  have rv := L2.vals_ints iss
  have go : ∀ H : Hp, Only H → SqL K H a (ns.map V.int) → HOk P w H s1.heap → (∀ b, H b ≠ none → b = a) → (H a ≠ none → K.lookup a = none) →
      codeAny (model P w) callerA (.call (.ref fa) ⟨[.ref a], []⟩) (fun r s' => r = .ok (.ret (.bool true)) ∧ OldK s1.heap s'.heap ∧ s'.os = s1.os ∧ AllBare s'.gens) s1 := by
    intro H only there held alone apart
    have isA : ∀ {b : Addr} {u : HO}, H b = some u → b = a := fun {b u} e => alone b (fun z => by rw [e] at z; cases z)
    have free : ∀ {b : Addr} {o : Obj} {es : Array DictEntry} {ep : Nat}, s1.heap.get? b = some o → o.data = .dict es ep → H b = none := by
      intro b o es ep e d
      cases q : H b with
      | none => rfl
      | some u =>
        obtain rfl := isA q
        rw [at_] at e
        cases e
        exact Data.noConfusion (show Data.seq vs.toArray _ = Data.dict es ep from d)
    have nsB : ∀ {b : Addr} {m : Str → Option Value}, s1.heap.Ns b m → (hidT s1.heap H).Ns b m := by
      intro b m h
      obtain ⟨o, es, ep, e, d, r⟩ := h
      exact ⟨o, es, ep, hidT_get e (free e d), d, r⟩
    have KB : K.In (hidT s1.heap H) := by
      intro b o e
      refine hidT_get (KX b o e) ?_
      cases q : H b with
      | none => rfl
      | some u =>
        obtain rfl := isA q
        have z := apart (fun z => by rw [q] at z; cases z)
        rw [z] at e
        cases e
    obtain ⟨mc, c1, c2⟩ := lim
    have en : Env0 P w K mg (hidT s1.heap H) callerA [] s1 H :=
      { frames := rfl, mod := ⟨KB, nsB n1, ⟨mb, nsB n2, n3⟩, ⟨mc, nsB c1, c2⟩⟩, bs := fun b o e => of_hidT e, bsz := Nat.le_of_eq (hidT_size _ _), funs := trivial,
        frf := fun b hb => (nomatch (show b ∈ ([] : List Addr) from hb)), hok := held, bare := .of_eq gen }
    refine codeAny_mono ((F _ KB (nsB n1)).go callerA [] s1 H ⟨[.ref a], []⟩ [.ref a] [.ref a] _ room caller_guards en (binds s1 (.ref a)) (.cons rfl .nil) (want H only there)) fun r s' res => ?_
    match r, res with
    | .error _, res => exact False.elim res
    | .ok .next, res => exact False.elim res
    | .ok .brk, res => exact False.elim res
    | .ok .cont, res => exact False.elim res
    | .ok (.ret u), res =>
      obtain ⟨v, H1, os, bare, un, held1, rel, qv⟩ := res
      have qv : v = .bl true := qv
      subst qv
      obtain rfl : u = Value.bool true := rel
      refine ⟨rfl, OldK.of_keep fun b o e => ?_, os, bare⟩
      cases q : H b with
      | none => exact un.keep b o e q (fun z => (nomatch (show b ∈ ([] : List Addr) from z))) (fun z => (nomatch z))
      | some u =>
        rcases only b with z | ⟨ob, xs, z⟩
        · rw [q] at z
          cases z
        · have f1 := (held b _ z).1
          have f2 := (held1 b _ (un.frzs b ob _ z)).1
          rw [e] at f1
          cases f1
          exact f2
  cases kl : K.lookup a with
  | some o =>
    have e := KX a o kl
    rw [at_] at e
    cases e
    exact go (fun _ => none) (fun _ => .inl rfl) (.inr ⟨_, vs.toArray, _, kl, rfl, rfl, rfl, by rw [List.size_toArray, iss.length]; exact few, by simpa using rv⟩) (fun b u z => (nomatch (show (none : Option HO) = some u from z))) (fun b z => absurd rfl z) (fun z => absurd rfl z)
  | none =>
    refine go (fun b => if b = a then some (.frz { cls := .type "list", data := .seq vs.toArray } (.lst (ns.map V.int))) else none) ?_ (.inl (.inr ⟨_, if_pos rfl⟩)) ?_ ?_ (fun _ => kl)
    · intro b
      by_cases h : b = a
      · exact .inr ⟨_, _, if_pos h⟩
      · exact .inl (if_neg h)
    · intro b u z
      by_cases h : b = a
      · obtain rfl := Option.some.inj ((if_pos h).symm.trans z)
        subst h
        exact ⟨at_, by rw [List.length_map]; exact few, vs, _, rv, at_⟩
      · exact (nomatch ((if_neg h).symm.trans z))
    · intro b z
      by_cases h : b = a
      · exact h
      · exact absurd (if_neg h) z

/-- the goal behind the head -/
theorem walkG {l : PySem.W.OpenLaw} {n k : Nat} {q : Program} {loose : List Str} {XP : (Str → Option Value) → Heap → Prop} {YP : World → Heap → Prop} {d : DefRec} {K : Params → PySem.W.Frag} {sp : World → Sp} {x : Str}
    (h1 : l.most = some n) (h2 : n ≤ sizeLine) (h3 : d.params.defaults = []) (h4 : Room k callerA) (h5 : ∀ (w : World) (h : Heap), YP w h → (K w.params).In h)
    (F : ∀ (w : World) (mg : Str → Option Value) (fa : Addr) (h : Heap), (K w.params).In h → h.Ns mainGlobals mg → mg d.name = some (.ref fa) →
      ∃ fd : FuncData, (∀ (s : Shared) (u : Value), BindsTo s fd ⟨[u], []⟩ [(x, u)]) ∧ ∀ base : Heap, (K w.params).In base → base.Ns mainGlobals mg → FnG l.prog w (K w.params) mg base k fa fd [x] (sp w))
    (h6 : ∀ (w : World) (H : Hp) (a : Addr) (ns : List Int), ns.length ≤ n → Only H → SqL (K w.params) H a (ns.map V.int) → sp w [.ref a] H (fun v _ => v = .bl true) L2.E0) :
    PySem.W.WalkO q loose XP YP l.row.toRowW d [] (fun f vs => PySem.call f vs) :=
  Att.attach_call h1 h3 fun w s0 s1 mg mb fa o pm cd doc a vs ns G Y ho hd hcd hmg obj iss len gen => by
    obtain ⟨fd, hb, hF⟩ := F w mg fa _ (h5 w _ Y) G.T.g hmg
    exact callG (h5 w _ Y) G.T.g G.T.b G.T.builtins G.T.nolimit gen obj iss (Nat.le_trans len h2) h4 hF hb (fun H hO hS => h6 w H a ns len hO hS)
end Gk
namespace Gk
open PySem PySem.Spec PyProof.Rows L2
theorem mul_same (l : Addr) (its : Array Value) (n : Nat) (dd : Option Addr) (sl : Array (Option Value)) (u : Tok) :
    Meets (Builtin.«tuple.__mul__» ⟨[.ref l, .int 1 u], []⟩) (fun _ R s => s.heap.get? l = some { cls := .type "tuple", dict := dd, data := .seq its n, slots := sl } ∧ R (.ok (.ret (.ref l))) s) :=
  .of_wp fun prog w A R s h => by
    obtain ⟨hp, g, d, tk, os⟩ := s
    obtain ⟨hl, h⟩ := h
    have f1 := AutoSeq1.idx_int
    have c0 : (decide ((1 : Int) < -(2 ^ 63)) || decide ((1 : Int) ≥ 2 ^ 63)) = false := by decide
    have c1 : (its.isEmpty || (1 : Int) == 1) = true := by simp
    wp_walk using wpAny_loadPart' hl
    repeat (first
      | (refine wpAny_ite_false (decide_eq_false (by rw [c0]; exact Bool.false_ne_true)) ?_; wp_walk using wpAny_loadPart' hl)
      | (refine wpAny_ite_true (decide_eq_true (by rw [c1])) ?_; wp_walk using wpAny_loadPart' hl))
    all_goals first | exact ⟨_, rfl, h⟩ | skip
theorem mul_none (l : Addr) (its : Array Value) (n : Nat) (dd : Option Addr) (sl : Array (Option Value)) (x : Int) (u : Tok) (hx : x ≤ 0) (hx2 : -(2 ^ 63) ≤ x) (hi : its.isEmpty = false) :
    Meets (Builtin.«tuple.__mul__» ⟨[.ref l, .int x u], []⟩) (fun _ R s => s.heap.get? l = some { cls := .type "tuple", dict := dd, data := .seq its n, slots := sl } ∧
      R (.ok (.ret (Value.ref s.heap.objs.size))) { s with heap := s.heap.push { cls := Value.type "tuple", data := Data.seq #[] }, toks := s.toks }) :=
  .of_wp fun prog w A R s h => by
    obtain ⟨hp, g, d, tk, os⟩ := s
    obtain ⟨hl, h⟩ := h
    have f1 := AutoSeq1.idx_int
    have c0 : (decide (x < -(2 ^ 63)) || decide (x ≥ 2 ^ 63)) = false := by
      rw [decide_eq_false (by omega), decide_eq_false (by omega)] <;> rfl
    have c1 : (its.isEmpty || x == 1) = false := by
      rw [hi, Bool.false_or]
      exact beq_eq_false_iff_ne.mpr (by omega)
    have c2 : (decide (x ≤ 0) || its.isEmpty) = true := by
      rw [decide_eq_true hx] <;> rfl
    wp_walk using wpAny_loadPart' hl
    repeat (first
      | (refine wpAny_ite_false (decide_eq_false (by rw [c0]; exact Bool.false_ne_true)) ?_; wp_walk using wpAny_loadPart' hl)
      | (refine wpAny_ite_false (decide_eq_false (by rw [c1]; exact Bool.false_ne_true)) ?_; wp_walk using wpAny_loadPart' hl)
      | (refine wpAny_ite_true (decide_eq_true (by rw [c2])) ?_; wp_walk using wpAny_loadPart' hl))
    all_goals first | exact ⟨_, rfl, h⟩ | skip
/-- t * k, whatever object it is -/
def rRepU (K : PySem.W.Frag) : R2 := fun x y H Q => ∃ l k xs, x = .ref l ∧ y = .int k ∧ SqT K H l xs ∧ xs ≠ [] ∧ 0 ≤ k ∧ k ≤ 1000 ∧ xs.length ≤ 1000 ∧
  ∀ p H', Same H H' → SqT K H' p (List.replicate k.toNat xs).flatten → Q (.ref p) H'
section
variable {X : Cx}
theorem op_repU : OpR X (binaryOp .Mult) (rRepU X.K) := by
  intro pins s σ H x y v u Q I rx ry h
  obtain ⟨l, k, xs, rfl, rfl, hT, hne, h0, h1, hz, q⟩ := h
  by_cases h2 : 2 ≤ k
  · exact op_repT pins s σ H _ _ v u Q I rx ry ⟨l, k, xs, rfl, rfl, hT, hne, h2, h1, hz, fun p np => q p _ (same_new np) (.inl (.inl upd_same))⟩
  · cases rx
    obtain ⟨t, rfl⟩ := ry
    obtain ⟨its, r, ⟨⟨cls, dd, data, sl⟩, ho, hc, n, hd⟩, hs⟩ := I.tuple hT
    simp only at hc hd
    subst hc hd
    have many : its.length = xs.length := r.length.symm
    have full : its.toArray.isEmpty = false := by
      cases its with
      | nil => exact absurd (List.eq_nil_of_length_eq_zero many.symm) hne
      | cons a b => rfl
    by_cases h3 : k = 1
    · subst h3
      refine wpAny_binaryOp_repeat_ref (T := "tuple") (U := "int") (by decide) ⟨_, ho, rfl⟩ (fun s' => typeIs_int s' 1 t) noFill_tuple_mul F.fills_int_mul F.slot_int_rmul repeat_tuple F.slot_int_index.lookup
        (call_meets F.slot_int_rmul (typeIs_int s 1 t) F.entry_int_rmul (F.args_int_rmul_2 _ _) (int_rmul_tuple 1 t l its.toArray n dd sl)
          ⟨ho, rfl, ⟨_, ho, rfl⟩, call_meets F.slot_tuple_mul ⟨_, ho, rfl⟩ F.entry_tuple_mul (F.args_tuple_mul_2 _ _) (mul_same l its.toArray n dd sl t) ⟨ho, ?_⟩⟩)
      refine ⟨.ref l, H, I, rfl, q l H (Same.refl H) ?_⟩
      show SqT X.K H l ([xs].flatten)
      rw [List.flatten_cons, List.flatten_nil, List.append_nil]
      exact hT
    · have h4 : k = 0 := by omega
      subst h4
      refine wpAny_binaryOp_repeat_ref (T := "tuple") (U := "int") (by decide) ⟨_, ho, rfl⟩ (fun s' => typeIs_int s' 0 t) noFill_tuple_mul F.fills_int_mul F.slot_int_rmul repeat_tuple F.slot_int_index.lookup
        (call_meets F.slot_int_rmul (typeIs_int s 0 t) F.entry_int_rmul (F.args_int_rmul_2 _ _) (int_rmul_tuple 0 t l its.toArray n dd sl)
          ⟨ho, rfl, ⟨_, ho, rfl⟩, call_meets F.slot_tuple_mul ⟨_, ho, rfl⟩ F.entry_tuple_mul (F.args_tuple_mul_2 _ _) (mul_none l its.toArray n dd sl 0 t (by decide) (by decide) full) ⟨ho, ?_⟩⟩)
      have nf : H s.heap.objs.size = none := I.hok.fresh (Nat.le_refl _)
      exact ⟨.ref s.heap.objs.size, upd H s.heap.objs.size (.tup []), I.laid (t' := s.toks) (fun b ob g => Heap.get?_push_of_some _ g) (Nat.le_refl _) ⟨Nat.zero_le _, [], .nil, IsTup.new _ _⟩, rfl, q _ _ (same_new nf) (.inl (.inl upd_same))⟩
/-- t + u, whatever object it is -/
def rCatU (K : PySem.W.Frag) : R2 := fun x y H Q => ∃ a b xs ys, x = .ref a ∧ y = .ref b ∧ SqT K H a xs ∧ SqT K H b ys ∧ xs.length + ys.length ≤ sizeLine ∧ ∀ p H', Same H H' → SqT K H' p (xs ++ ys) → Q (.ref p) H'
theorem op_catU : OpR X (binaryOp .Add) (rCatU X.K) := by
  intro pins s σ H x y v u Q I rx ry h
  obtain ⟨a, b, xs, ys, rfl, rfl, ha, hb, hz, q⟩ := h
  refine op_catA pins s σ H _ _ v u Q I rx ry ⟨a, b, xs, ys, rfl, rfl, ha, hb, hz, fun e => ?_, fun _ e => ?_, fun _ _ p np => q p _ (same_new np) (.inl (.inl upd_same))⟩
  · subst e
    exact q b H (Same.refl H) hb
  · subst e
    exact q a H (Same.refl H) (by rw [List.append_nil]; exact ha)
theorem cut_whole {xs : List V} {lo hi : Option Int} (h : HT.sIx xs.length 0 lo = 0 ∧ HT.sIx xs.length xs.length hi = xs.length) : cutV xs lo hi = xs := by
  unfold cutV
  rw [h.1, h.2]
  simp
/-- t[lo:hi], whatever object it is -/
def rSlU (K : PySem.W.Frag) : V → Option Int → Option Int → Hp → VK → Prop := fun x lo hi H Q => ∃ a xs, x = .ref a ∧ SqT K H a xs ∧ ∀ p H', Same H H' → SqT K H' p (cutV xs lo hi) → Q (.ref p) H'
theorem sl_tupU : SlR X (rSlU X.K) := by
  intro pins s σ H x v vl vu lo hi sl Q I rx hs pl pu h
  obtain ⟨a, xs, rfl, hx, q⟩ := h
  exact sl_tupA pins s σ H _ v vl vu lo hi sl Q I rx hs pl pu ⟨a, xs, rfl, hx, fun e => q a H (Same.refl H) (by rw [cut_whole e]; exact hx), fun _ p np => q p _ (same_new np) (.inl (.inl upd_same))⟩
end
theorem cut_to {xs : List V} (n : Nat) : cutV xs none (some (n : Int)) = xs.take n := by
  unfold cutV
  rw [HT.sIx_none, HT.sIx_nat]
  show ((xs.drop 0).take (min n xs.length - 0)) = _
  rw [List.drop_zero, Nat.sub_zero, Nat.min_comm, List.take_eq_take_iff]
  omega
theorem cut_from {xs : List V} (n : Nat) : cutV xs (some (n : Int)) none = xs.drop n := by
  unfold cutV
  rw [HT.sIx_none, HT.sIx_nat]
  by_cases h : n ≤ xs.length
  · rw [Nat.min_eq_left h, List.take_of_length_le (by rw [List.length_drop]; exact Nat.le_refl _)]
  · rw [Nat.min_eq_right (by omega), List.drop_eq_nil_of_le (Nat.le_refl _), List.drop_eq_nil_of_le (by omega)]
    exact List.take_nil
end Gk
namespace Gk
open PySem PySem.Spec PyProof.Rows L2
/-! ### data that is easily shown and compared -/
mutual
def tame : PyData → Bool
  | .none | .bool _ => true
  | .int i => decide (i.natAbs < 10 ^ 20)
  | .str x => x.cps.all (· < 0x110000)
  | .list xs | .tuple xs => tameAll xs
  | .dict _ => false
def tameAll : List PyData → Bool
  | [] => true
  | x :: xs => tame x && tameAll xs
end
mutual
def cost : PyData → Nat
  | .none | .bool _ | .int _ => 70
  | .str x => x.cps.size + 1
  | .list xs | .tuple xs => costAll xs
  | .dict _ => 0
def costAll : List PyData → Nat
  | [] => 1
  | x :: xs => cost x + 1 + costAll xs
end
theorem int_len20 {c : Int} (hc : c.natAbs < 10 ^ 20) : (PyData.shown (.int c)).length ≤ 21 := by
  have h := int_text_length_le10 (a := c) (k := 20) (by decide) hc
  show (Str.ofString (toString c)).length ≤ 21
  rw [PySem.ofString_length]
  exact h
theorem int_log20 {c : Int} (hc : c.natAbs < 10 ^ 20) : c.natAbs.log2 < 68 := PySem.Flt.log2_lt_of (by decide) (Nat.lt_of_lt_of_le hc (by decide))
mutual
theorem tame_showable : ∀ d : PyData, tame d = true → d.showable = true
  | .none, _ => rfl
  | .bool _, _ => rfl
  | .int i, h => by
    have h1 := int_log20 (of_decide_eq_true (by simpa only [tame] using h))
    simp only [PyData.showable]
    exact decide_eq_true (by omega)
  | .str _, _ => rfl
  | .list xs, h => by simpa only [PyData.showable] using tame_showableAll xs (by simpa only [tame] using h)
  | .tuple xs, h => by simpa only [PyData.showable] using tame_showableAll xs (by simpa only [tame] using h)
  | .dict _, h => by simp [tame] at h
theorem tame_showableAll : ∀ ds : List PyData, tameAll ds = true → PyData.showableAll ds = true
  | [], _ => rfl
  | x :: xs, h => by
    simp only [tameAll, Bool.and_eq_true] at h
    simp only [PyData.showableAll, tame_showable x h.1, tame_showableAll xs h.2, Bool.and_self]
end
mutual
theorem tame_nodict : ∀ d : PyData, tame d = true → d.hasDict = false
  | .none, _ => rfl
  | .bool _, _ => rfl
  | .int _, _ => rfl
  | .str _, _ => rfl
  | .list xs, h => by simpa only [PyData.hasDict] using tame_nodictAll xs (by simpa only [tame] using h)
  | .tuple xs, h => by simpa only [PyData.hasDict] using tame_nodictAll xs (by simpa only [tame] using h)
  | .dict _, h => by simp [tame] at h
theorem tame_nodictAll : ∀ ds : List PyData, tameAll ds = true → PyData.hasDictAll ds = false
  | [], _ => rfl
  | x :: xs, h => by
    simp only [tameAll, Bool.and_eq_true] at h
    simp only [PyData.hasDictAll, tame_nodict x h.1, tame_nodictAll xs h.2, Bool.or_self]
end
mutual
theorem tame_short : ∀ d : PyData, tame d = true → d.leavesShort 21 = true
  | .none, _ => rfl
  | .bool _, _ => rfl
  | .int i, h => by
    have h1 := int_len20 (of_decide_eq_true (by simpa only [tame] using h))
    simp only [PyData.leavesShort]
    exact decide_eq_true h1
  | .str x, h => by
    have h1 : x.cps.all (· < 0x110000) = true := by simpa only [tame] using h
    simp only [PyData.leavesShort, List.all_eq_true, decide_eq_true_eq]
    intro c hc
    rw [Array.all_eq_true_iff_forall_mem] at h1
    have h2 := h1 c (Array.mem_toList_iff.mp hc)
    have h3 : c < 0x110000 := by simpa using h2
    exact Nat.lt_of_lt_of_le h3 (by decide)
  | .list xs, h => by simpa only [PyData.leavesShort] using tame_shortAll xs (by simpa only [tame] using h)
  | .tuple xs, h => by simpa only [PyData.leavesShort] using tame_shortAll xs (by simpa only [tame] using h)
  | .dict _, h => by simp [tame] at h
theorem tame_shortAll : ∀ ds : List PyData, tameAll ds = true → PyData.leavesShortAll 21 ds = true
  | [], _ => rfl
  | x :: xs, h => by
    simp only [tameAll, Bool.and_eq_true] at h
    simp only [PyData.leavesShortAll, tame_short x h.1, tame_shortAll xs h.2, Bool.and_self]
end
mutual
theorem tame_weight : ∀ d : PyData, tame d = true → d.weight ≤ cost d
  | .none, _ => Nat.zero_le _
  | .bool _, _ => Nat.zero_le _
  | .int i, h => by
    have h1 := int_log20 (of_decide_eq_true (by simpa only [tame] using h))
    simp only [PyData.weight, cost]
    split <;> omega
  | .str x, h => by
    simp only [PyData.weight, cost]
    omega
  | .list xs, h => by simpa only [PyData.weight, cost] using tame_weightAll xs (by simpa only [tame] using h)
  | .tuple xs, h => by simpa only [PyData.weight, cost] using tame_weightAll xs (by simpa only [tame] using h)
  | .dict _, h => by simp [tame] at h
theorem tame_weightAll : ∀ ds : List PyData, tameAll ds = true → PyData.weightAll ds ≤ costAll ds
  | [], _ => Nat.zero_le _
  | x :: xs, h => by
    simp only [tameAll, Bool.and_eq_true] at h
    have h1 := tame_weight x h.1
    have h2 := tame_weightAll xs h.2
    simp only [PyData.weightAll, costAll]
    omega
end
mutual
theorem tame_lay : ∀ d : PyData, tame d = true → d.canLay0 = true
  | .none, _ => rfl
  | .bool _, _ => rfl
  | .int _, _ => rfl
  | .str x, h => by
    have h1 : x.cps.all (· < 0x110000) = true := by simpa only [tame] using h
    simpa only [PyData.canLay0, PyData.strOk] using h1
  | .list xs, h => by simpa only [PyData.canLay0] using tame_layAll xs (by simpa only [tame] using h)
  | .tuple xs, h => by simpa only [PyData.canLay0] using tame_layAll xs (by simpa only [tame] using h)
  | .dict _, h => by simp [tame] at h
theorem tame_layAll : ∀ ds : List PyData, tameAll ds = true → PyData.canLayAll0 ds = true
  | [], _ => rfl
  | x :: xs, h => by
    simp only [tameAll, Bool.and_eq_true] at h
    simp only [PyData.canLayAll0, tame_lay x h.1, tame_layAll xs h.2, Bool.and_self]
end
theorem Fine.tame {d : PyData} (h : Gk.tame d = true) (hd : d.depth ≤ 40) (hc : cost d ≤ 500000) : Fine d :=
  ⟨tame_showable d h, tame_nodict d h, hd, by
    have h1 := PyData.shown_le 21 (by decide) d (tame_short d h)
    have h2 := tame_weight d h
    have h3 : sizeLine = 16777216 := sizeLine_eq
    omega⟩
theorem tame_shaped {d : PyData} (h : tame d = true) (hd : d.depth ≤ 40) : SeqAt.shaped d = true := by
  unfold SeqAt.shaped
  rw [tame_lay d h, Bool.true_and]
  exact decide_eq_true (by omega)

/-! ### data of tuples stays while other things change -/
def Keep (K : PySem.W.Frag) (H H' : Hp) : Prop := ∀ a xs, SqT K H a xs → SqT K H' a xs
theorem Keep.refl {K : PySem.W.Frag} {H : Hp} : Keep K H H := fun _ _ h => h
theorem Keep.trans {K : PySem.W.Frag} {H H1 H2 : Hp} (a : Keep K H H1) (b : Keep K H1 H2) : Keep K H H2 := fun x xs h => b x xs (a x xs h)
theorem Same.keep {K : PySem.W.Frag} {H H' : Hp} (e : Same H H') : Keep K H H' := fun _ _ h => Same.seqT e h
theorem But.keep {K : PySem.W.Frag} {H H' : Hp} {b : Addr} {m : Nat} (e : But b H H') (hb : Box m H b) : Keep K H H' := by
  intro a xs h
  obtain ⟨x, y, z, g, _⟩ := hb
  rcases h with (h | ⟨o, h⟩) | h
  · exact .inl (.inl (e _ _ (ne_of h g (fun q => HO.noConfusion q)) h))
  · exact .inl (.inr ⟨o, e _ _ (ne_of h g (fun q => HO.noConfusion q)) h⟩)
  · exact .inr h
/-- all but the box, read: a list or a tuple that is not the box -/
theorem But.keepL {K : PySem.W.Frag} {H H' : Hp} {b a : Addr} {xs : List V} (e : But b H H') (n : a ≠ b) (h : SqL K H a xs) : SqL K H' a xs := e.seqL n h
mutual
def tups : PyData → Bool
  | .none | .bool _ | .int _ | .str _ => true
  | .tuple xs => tupsAll xs
  | .list _ | .dict _ => false
def tupsAll : List PyData → Bool
  | [] => true
  | x :: xs => tups x && tupsAll xs
end
mutual
theorem Dp.keep {K : PySem.W.Frag} {H H' : Hp} (k : Keep K H H') : ∀ (d : PyData) (v : V), tups d = true → Dp K H v d → Dp K H' v d
  | .none, _, _, h => by cases h; exact .non
  | .bool _, _, _, h => by cases h; exact .bl _
  | .int _, _, _, h => by cases h; exact .int _
  | .str _, _, _, h => by cases h; exact .str _
  | .tuple ds, _, t, h => by
    cases h with
    | tup h1 h2 => exact .tup (k _ _ h1) (DpAll.keep k ds _ (by simpa only [tups] using t) h2)
  | .list _, _, t, _ => by simp [tups] at t
  | .dict _, _, t, _ => by simp [tups] at t
theorem DpAll.keep {K : PySem.W.Frag} {H H' : Hp} (k : Keep K H H') : ∀ (ds : List PyData) (vs : List V), tupsAll ds = true → DpAll K H vs ds → DpAll K H' vs ds
  | [], _, _, h => by cases h; exact .nil
  | d :: ds, _, t, h => by
    simp only [tupsAll, Bool.and_eq_true] at t
    cases h with
    | cons h1 h2 => exact .cons (Dp.keep k d _ t.1 h1) (DpAll.keep k ds _ t.2 h2)
end
section
variable {K : PySem.W.Frag} {H : Hp}
theorem DpAll.len : ∀ {vs : List V} {ds : List PyData}, DpAll K H vs ds → vs.length = ds.length
  | _, _, .nil => rfl
  | _, _, .cons _ t => by rw [List.length_cons, List.length_cons, DpAll.len t]
theorem DpAll.take : ∀ {vs : List V} {ds : List PyData} (n : Nat), DpAll K H vs ds → DpAll K H (vs.take n) (ds.take n)
  | _, _, 0, _ => .nil
  | _, _, _ + 1, .nil => .nil
  | _, _, n + 1, .cons h t => .cons h (DpAll.take n t)
theorem DpAll.drop : ∀ {vs : List V} {ds : List PyData} (n : Nat), DpAll K H vs ds → DpAll K H (vs.drop n) (ds.drop n)
  | _, _, 0, h => h
  | _, _, _ + 1, .nil => .nil
  | _, _, n + 1, .cons _ t => DpAll.drop n t
theorem DpAll.app : ∀ {vs us : List V} {ds es : List PyData}, DpAll K H vs ds → DpAll K H us es → DpAll K H (vs ++ us) (ds ++ es)
  | _, _, _, _, .nil, h => h
  | _, _, _, _, .cons h t, h2 => .cons h (DpAll.app t h2)
theorem DpAll.rep {vs : List V} {ds : List PyData} (h : DpAll K H vs ds) : ∀ n : Nat, DpAll K H (List.replicate n vs).flatten (List.replicate n ds).flatten
  | 0 => .nil
  | n + 1 => by
    rw [List.replicate_succ, List.replicate_succ, List.flatten_cons, List.flatten_cons]
    exact DpAll.app h (DpAll.rep h n)
theorem DpAll.at : ∀ {vs : List V} {ds : List PyData} {i : Nat} {v : V} {d : PyData}, DpAll K H vs ds → vs[i]? = some v → ds[i]? = some d → Dp K H v d
  | _, _, _, _, _, .nil, h, _ => by simp at h
  | _, _, 0, _, _, .cons h _, e1, e2 => by
    obtain rfl := Option.some.inj e1
    obtain rfl := Option.some.inj e2
    exact h
  | _, _, i + 1, _, _, .cons _ t, e1, e2 => DpAll.at (i := i) t (by simpa using e1) (by simpa using e2)
theorem DpAll.ints : ∀ l : List Int, DpAll K H (l.map V.int) (l.map PyData.int)
  | [] => .nil
  | i :: l => .cons (.int i) (DpAll.ints l)
end
end Gk
namespace Pf
open PySem PySem.Spec PyProof.Rows L2 Gk
def topS (i : Nat) : Stmt := PySem.Challenge.pw_pastenough_k84_whole_predictors_as_new_o.main.body.getD i (.Pass ⟨0, 0, 0, 0⟩)
abbrev sTake : Stmt := topS 43
abbrev sOf : Stmt := topS 44
abbrev sBox : Stmt := topS 42
theorem scOf : FnScope ["_law_box_here", "_law_some"] ["_law_box_here", "_law_some"] (defScope sOf) := ⟨rfl, rfl, rfl, by decide +kernel, rfl, by decide +kernel, by decide +kernel⟩
theorem scBox : FnScope ["_law_script", "_law_k", "_law_digits", "_law_own"] ["_law_script", "_law_k"] (defScope sBox) := ⟨rfl, rfl, rfl, by decide +kernel, rfl, by decide +kernel, by decide +kernel⟩
theorem scTake : FnScope ["_law_box_here", "_law_many", "_law_digit", "_law_drawn"] ["_law_box_here", "_law_many"] (defScope sTake) := ⟨rfl, rfl, rfl, by decide +kernel, rfl, by decide +kernel, by decide +kernel⟩
def spTake : Sp := fun vs H Q _ => ∃ (b : Addr) (n : Int) (m : Nat), vs = [.ref b, .int n] ∧ 0 < n ∧ n < 1073741824 ∧ Box m H b ∧ m < 1000000000 ∧
  ∀ (d : Int) (H' : Hp), 0 ≤ d → d < n → But b H H' → Box (m + 1) H' b → (∀ p, p ≠ b → H' p = H p) → Q (.int d) H'

section
variable {P : Program} {w : World} {K : PySem.W.Frag} {mg : Str → Option Value} {base : Heap}
theorem ok_take {f : Addr} {fd : FuncData} {k : Nat} (F : L2.Fun K "_law_take" "_law_take" sTake f fd) : FnOk P w K mg base L2.CX0 (k + 1) f fd ["_law_box_here", "_law_many"] spTake := by
  refine F.ok scTake (fun vs H Q E h => ?_) (fun cdv A outer s H vs Q E hr h => ?_)
  · obtain ⟨b, n, m, rfl, _⟩ := h
    rfl
  · obtain ⟨b, n, m, rfl, n0, n1, ⟨x, y, z, hb, z0, z1⟩, hm, q⟩ := h
    refine ⟨_, pss_cons (ps_if (pt_cmpR op_gt (pe_ix ix_list (pv 0) pe_int (fun _ _ => rfl)) pe_int (nomark _))
        (pss_cons (ps_set (i := 2) scTake.nd rfl (.inl rfl) (pe_op op_mod (pe_ix ix_list (pv 0) pe_int (fun _ _ => rfl)) (pv 1)))
        (pss_cons (ps_asg (pe_op op_fdiv (pe_ix ix_list (pv 0) pe_int (fun _ _ => rfl)) (pv 1)) (pg_sub (pv 0) pe_int set_list))
        (pss_one (ps_ret (pv 2))))) pss_nil)
      (pss_cons (ps_asg (pe_op op_add (pe_ix ix_list (pv 0) pe_int (fun _ _ => rfl)) pe_int) (pg_sub (pv 0) pe_int set_list))
      (pss_cons (ps_set (i := 3) scTake.nd rfl (.inl rfl) (pe_op op_mod (pe_op op_mul (pe_op op_add (pe_op op_add (pe_ix ix_list (pv 0) pe_int (fun _ _ => rfl))
          (pe_op op_mul (pe_op op_mul pe_int (pe_ix ix_list (pv 0) pe_int (fun _ _ => rfl))) (pe_ix ix_list (pv 0) pe_int (fun _ _ => rfl)))) pe_int) pe_int) pe_int))
      (pss_cons (ps_set (i := 3) scTake.nd rfl (.inl rfl) (pe_op op_mod (pe_op op_mul (pv 3) (pe_op op_add (pe_op op_mod (pv 3) pe_int) (pe_op op_mul pe_int (pe_ix ix_list (pv 0) pe_int (fun _ _ => rfl))))) pe_int))
      (pss_one (ps_ret (pe_op op_mod (pe_op op_add (pe_op op_fdiv (pv 3) pe_int) (pe_op op_fdiv (pv 3) pe_int)) (pv 1))))))), ?_⟩
    refine ⟨.ref b, rfl, b, _, 0, .int x, rfl, rfl, SqL.of hb, rfl, x, 0, rfl, rfl, _, rfl, ite2 (fun e => ?_) (fun e => ?_)⟩
    · refine ⟨.ref b, rfl, b, _, 0, .int x, rfl, rfl, SqL.of hb, rfl, .int n, rfl, x, n, rfl, rfl, n0, ?_⟩
      refine ⟨.ref b, rfl, b, _, 0, .int x, rfl, rfl, SqL.of hb, rfl, .int n, rfl, x, n, rfl, rfl, ⟨n0, n1⟩, ?_⟩
      refine ⟨.ref b, rfl, b, _, _, 0, rfl, rfl, hb, rfl, ?_⟩
      refine ⟨.int (x % n), rfl, q _ _ (Int.emod_nonneg _ (by omega)) (Int.emod_lt_of_pos _ n0) But.set ⟨_, _, _, upd_same, z0, by omega⟩ fun p hp => upd_ne hp⟩
    · have hz : (z + 1 : Int) < 2 ^ 64 := by omega
      refine ⟨.ref b, rfl, b, _, 2, .int z, rfl, rfl, SqL.of hb, rfl, z, 1, rfl, rfl, ?_⟩
      refine ⟨.ref b, rfl, b, _, _, 2, rfl, rfl, hb, rfl, ?_⟩
      have h1 : upd H b (.lst [.int x, .int y, .int (z + 1)]) b = some (.lst [.int x, .int y, .int (z + 1)]) := upd_same
      refine ⟨.ref b, rfl, b, _, 1, .int y, rfl, rfl, SqL.of h1, rfl, .ref b, rfl, b, _, 2, .int (z + 1), rfl, rfl, SqL.of h1, rfl, _, _, rfl, rfl, .inl ⟨by decide, by decide⟩,
        .ref b, rfl, b, _, 2, .int (z + 1), rfl, rfl, SqL.of h1, rfl, _, _, rfl, rfl, .inr ⟨by omega, hz⟩, _, _, rfl, rfl, _, _, rfl, rfl, _, _, rfl, rfl, .inr ⟨by decide, by decide⟩, _, _, rfl, rfl, by show (0 : Int) < 2305843009213693921; decide, ?_⟩
      refine ⟨_, rfl, _, rfl, _, _, rfl, rfl, by show (0 : Int) < 1000033; decide, .ref b, rfl, b, _, 2, .int (z + 1), rfl, rfl, SqL.of h1, rfl, _, _, rfl, rfl, .inl ⟨by decide, by decide⟩, _, _, rfl, rfl, _, _, rfl, rfl,
        .inl ⟨Int.lt_of_lt_of_le (by decide) (Int.emod_nonneg _ (by decide)), Int.lt_trans (Int.emod_lt_of_pos _ (by decide)) (by decide)⟩, _, _, rfl, rfl, by show (0 : Int) < 2305843009213693907; decide, ?_⟩
      refine ⟨_, rfl, _, _, rfl, rfl, ⟨by decide, by decide⟩, _, rfl, _, _, rfl, rfl, ⟨by decide, by decide⟩, _, _, rfl, rfl, .int n, rfl, _, n, rfl, rfl, n0, ?_⟩
      exact q _ _ (Int.emod_nonneg _ (by omega)) (Int.emod_lt_of_pos _ n0) But.set ⟨_, _, _, h1, by omega, by omega⟩ fun p hp => upd_ne hp
def spOf (K : PySem.W.Frag) : Sp := fun vs H Q _ => ∃ (b a : Addr) (xs : List V) (m : Nat), vs = [.ref b, .ref a] ∧ SqL K H a xs ∧ a ≠ b ∧ 0 < xs.length ∧ xs.length ≤ 1000 ∧ Box m H b ∧ m < 1000000000 ∧
  ∀ (i : Nat) (v : V) (H' : Hp), xs[i]? = some v → But b H H' → Box (m + 1) H' b → (∀ p, p ≠ b → H' p = H p) → Q v H'
theorem ok_of {f : Addr} {fd : FuncData} {k : Nat} (D : Dfn P w K mg base k "_law_take" ["_law_box_here", "_law_many"] spTake) (ml : mg "len" = none)
    (F : L2.Fun K "_law_of" "_law_of" sOf f fd) : FnOk P w K mg base L2.CX0 (k + 1) f fd ["_law_box_here", "_law_some"] (spOf K) := by
  refine F.ok scOf (fun vs H Q E h => ?_) (fun cdv A outer s H vs Q E hr h => ?_)
  · obtain ⟨b, a, xs, m, rfl, _⟩ := h
    rfl
  · obtain ⟨b, a, xs, m, rfl, hS, hne, hl, hl2, hb, hm, q⟩ := h
    refine ⟨_, pss_one (ps_ret (pe_ix ix_list (pv 1) (pe_d D hr (Nat.le_refl _) (by rfl) (pa_cons (pv 0) (pa_cons (pe_callB call_len_seq (by rfl) ml PySem.boot_len (pa_cons (pv 1) pa_nil)) pa_nil))) (fun _ _ => rfl))), ?_⟩
    refine ⟨.ref a, rfl, .ref b, rfl, .ref a, rfl, a, xs, rfl, .inl hS, b, _, m, rfl, by omega, by omega, hb, hm, fun d H' d0 d1 bt bx same => ?_⟩
    have hi : d.toNat < xs.length := by omega
    have g : xs[d.toNat]? = some xs[d.toNat] := List.getElem?_eq_getElem hi
    have ga : atI xs d = some xs[d.toNat] := by
      have := atI_nat g
      rwa [Int.toNat_of_nonneg d0] at this
    exact ⟨a, xs, d, _, rfl, rfl, bt.seqL hne hS, ga, q _ _ H' g bt bx same⟩
def spBox (K : PySem.W.Frag) : Sp := fun vs H Q _ => ∃ (a : Addr) (ns : List Int) (k : Int), vs = [.ref a, .int k] ∧ SqL K H a (ns.map V.int) ∧ ns.length ≤ 63 ∧ 0 ≤ k ∧ k ≤ 1000 ∧
  ∀ p x y, H p = none → Q (.ref p) (upd H p (.lst [.int x, .int y, .int 0]))
theorem flag_small (c : Bool) : -(2 ^ 64) < (if c = true then (1 : Int) else 0) ∧ (if c = true then (1 : Int) else 0) < 2 ^ 64 := by cases c <;> decide
theorem bits60 : CBigPow 10 60 := ⟨by decide, by decide +kernel⟩
theorem bits300 : CBigPow (10 ^ (60 : Int).toNat) 5 := ⟨by decide, by decide +kernel⟩
theorem ok_box {f : Addr} {fd : FuncData} (ml : mg "len" = none) (ma : mg "abs" = none) (mi : mg "int" = none)
    (F : L2.Fun K "_law_box" "_law_box" sBox f fd) : FnOk P w K mg base L2.CX0 1 f fd ["_law_script", "_law_k"] (spBox K) := by
  refine F.ok scBox (fun vs H Q E h => ?_) (fun cdv A outer s H vs Q E hr h => ?_)
  · obtain ⟨a, ns, k, rfl, _⟩ := h
    rfl
  · obtain ⟨a, ns, k, rfl, hS, hl, k0, k1, q⟩ := h
    refine ⟨_, C8.pss_cut (ps_set (i := 2) scBox.nd rfl (.inl rfl) (pe_ifExp (pt_cmpR op_lt (pv 1) (pe_callB call_len_seq (by rfl) ml PySem.boot_len (pa_cons (pv 0) pa_nil)) (nomark _))
        (pe_ix ix_list (pv 0) (pv 1) (fun _ _ => rfl)) (pe_op op_add (pe_op op_mul pe_int (pv 1)) pe_int)))
      (pss_cons (ps_set (i := 3) scBox.nd rfl (.inl rfl) (pe_op op_mul (pe_op op_mod (pe_callB call_abs (by rfl) ma (by decide +kernel) (pa_cons (pv 2) pa_nil)) (pe_op op_bigpow (pe_op op_bigpow pe_int pe_int) pe_int))
          (pe_callTy call_int1 (by rfl) mi (by decide +kernel) (pa_cons (pe_cmpR op_ge (pe_callB call_abs (by rfl) ma (by decide +kernel) (pa_cons (pv 2) pa_nil)) (pe_op op_bigpow pe_int pe_int) (nomark _)) pa_nil))))
      (pss_one (ps_ret (pe_lst (pa_cons (pv 3) (pa_cons (pe_op op_mod (pe_op op_add (pe_op op_add (pe_op op_mul (pe_op op_mod (pv 2) pe_int) pe_int) (pe_op op_mul (pe_op op_mul pe_int (pv 1)) (pv 1))) pe_int) pe_int) (pa_cons pe_int pa_nil))))))), ?_⟩
    refine ⟨fun σ H' => H' = H ∧ ∃ d : Int, σ = [some (.ref a), some (.int k), some (.int d), none], ?_, fun σ' H' hM => ?_⟩
    · refine ⟨.int k, rfl, .ref a, rfl, a, _, rfl, .inl hS, _, _, rfl, rfl, _, rfl, ite2 (fun e => ?_) (fun e => ?_)⟩
      · have hk : k < (ns.map V.int).length := of_decide_eq_true e
        rw [List.length_map] at hk
        have g : (ns.map V.int)[k.toNat]? = some (.int ns[k.toNat]) := by
          rw [List.getElem?_map, List.getElem?_eq_getElem (by omega)]; rfl
        have ga := atI_nat g
        rw [Int.toNat_of_nonneg k0] at ga
        exact ⟨.ref a, rfl, .int k, rfl, a, _, k, _, rfl, rfl, hS, ga, rfl, _, rfl⟩
      · exact ⟨.int k, rfl, _, _, rfl, rfl, .inl ⟨by decide, by decide⟩, _, _, rfl, rfl, rfl, _, rfl⟩
    · obtain ⟨rfl, d, rfl⟩ := hM
      refine ⟨.int d, rfl, d, rfl, _, _, rfl, rfl, bits60, _, _, rfl, rfl, bits300, _, _, rfl, rfl, by show (0 : Int) < (10 ^ (60 : Int).toNat) ^ (5 : Int).toNat; decide +kernel, ?_⟩
      refine ⟨.int d, rfl, d, rfl, _, _, rfl, rfl, ⟨by decide, by decide +kernel⟩, _, _, rfl, rfl, .inr ⟨_, rfl, _, _, rfl, rfl, .inr ?_, ?_⟩⟩
      · exact flag_small _
      · refine ⟨_, rfl, .int d, rfl, _, _, rfl, rfl, by show (0 : Int) < 2305843009213693951; decide, _, _, rfl, rfl, .inr ⟨by decide, by decide⟩, .int k, rfl, _, _, rfl, rfl, .inl ⟨by decide, by decide⟩, .int k, rfl, _, _, rfl, rfl, .inr ⟨by omega, by omega⟩,
          _, _, rfl, rfl, _, _, rfl, rfl, _, _, rfl, rfl, by show (0 : Int) < 2305843009213693921; decide, by show 3 ≤ sizeLine; decide, fun p hp => q p _ _ hp⟩
end
end Pf
namespace Pf
open PySem PySem.Spec PyProof.Rows L2 Gk
abbrev sRow : Stmt := topS 45
abbrev nRow : List Str := ["_law_box_here", "_law_most", "_law_size", "_law_kind", "_law_piece", "_law_found", "_law_is_kept", "_law_turn"]
theorem scRow : FnScope nRow ["_law_box_here", "_law_most"] (defScope sRow) := ⟨rfl, rfl, rfl, by decide +kernel, rfl, by decide +kernel, by decide +kernel⟩
/-- outcomes -/
def Bits (l : List Int) : Prop := ∀ o ∈ l, o = 0 ∨ o = 1
theorem Bits.nil : Bits [] := fun _ h => (nomatch h)
theorem Bits.snoc {l : List Int} {o : Int} (h : Bits l) (h0 : 0 ≤ o) (h1 : o < 2) : Bits (l ++ [o]) := fun x hx => by
  rcases List.mem_append.mp hx with g | g
  · exact h x g
  · rw [List.mem_singleton.mp g]
    omega
theorem Bits.rep {l : List Int} (h : Bits l) (n : Nat) : Bits (List.replicate n l).flatten := fun x hx => by
  obtain ⟨m, hm, hx⟩ := List.mem_flatten.mp hx
  rw [(List.mem_replicate.mp hm).2] at hx
  exact h x hx
theorem Bits.take {l : List Int} (h : Bits l) (n : Nat) : Bits (l.take n) := fun x hx => h x (List.mem_of_mem_take hx)
theorem rep_map (n : Nat) (l : List Int) : (List.replicate n (l.map V.int)).flatten = ((List.replicate n l).flatten).map V.int := by
  induction n with
  | zero => rfl
  | succ n ih => rw [List.replicate_succ, List.replicate_succ, List.flatten_cons, List.flatten_cons, List.map_append, ih]
theorem rep_len (n : Nat) (l : List Int) : ((List.replicate n l).flatten).length = n * l.length := by
  induction n with
  | zero => simp
  | succ n ih => rw [List.replicate_succ, List.flatten_cons, List.length_append, ih, Nat.succ_mul, Nat.add_comm]
theorem last_some {l : List Int} (h : 0 < l.length) : ∃ o, o ∈ l ∧ atI (l.map V.int) (-1) = some (V.int o) := by
  have e : l ≠ [] := fun z => by rw [z] at h; exact absurd h (Nat.lt_irrefl 0)
  refine ⟨l.getLast e, List.getLast_mem e, ?_⟩
  have g : l.map V.int = (l.dropLast.map V.int) ++ [V.int (l.getLast e)] := by
    rw [← List.map_singleton, ← List.map_append, List.dropLast_concat_getLast]
  rw [g]
  exact atI_last _ _
theorem but_local {b D : Addr} {H H1 H2 : Hp} (nD : H D = none) (h : But b H H1) (g : ∀ a o, a ≠ b → a ≠ D → H1 a = some o → H2 a = some o) : But b H H2 := fun a o n e => g a o n (fun z => by rw [z, nD] at e; cases e) (h a o n e)
section
variable {P : Program} {w : World} {K : PySem.W.Frag} {mg : Str → Option Value} {base : Heap}
def spRow (K : PySem.W.Frag) : Sp := fun vs H Q _ => ∃ (b : Addr) (most : Int) (m : Nat), vs = [.ref b, .int most] ∧ 1 ≤ most ∧ most ≤ 64 ∧ Box m H b ∧ m ≤ 1000000 ∧
  ∀ H' p l, But b H H' → Box (m + 150) H' b → SqT K H' p (l.map V.int) → 1 ≤ l.length → (l.length : Int) ≤ most → Bits l → Q (.ref p) H'
theorem ok_row {f : Addr} {fd : FuncData} (DT : Dfn P w K mg base 1 "_law_take" ["_law_box_here", "_law_many"] spTake) (mr : mg "range" = none) (mn : mg "min" = none) (mt : mg "tuple" = none) (ml : mg "len" = none)
    (F : L2.Fun K "_law_row" "_law_row" sRow f fd) : FnOk P w K mg base L2.CX0 2 f fd ["_law_box_here", "_law_most"] (spRow K) := by
  refine F.ok scRow (fun vs H Q E h => ?_) (fun cdv A outer s H vs Q E hr h => ?_)
  · obtain ⟨b, most, m, rfl, _⟩ := h
    rfl
  · obtain ⟨b, most, m, rfl, m1, m2, hb, hm, q⟩ := h
    refine ⟨_, C8.pss_cut (ps_par (i := 2) (j := 3) (by rfl) scRow.nd rfl rfl (by decide) rfl rfl (pa_cons (pe_op op_add pe_int (pe_d DT hr (by decide) (by rfl) (pa_cons (pv 0) (pa_cons (pv 1) pa_nil)))) (pa_cons (pe_d DT hr (by decide) (by rfl) (pa_cons (pv 0) (pa_cons pe_int pa_nil))) pa_nil)) (by rfl))
      (pss_cons (ps_if (pt_cmpR op_eq (pv 3) pe_int (nomark _))
        (pss_one (ps_ret (pe_op op_catU (pe_op op_repU (pe_tup (pa_cons pe_int pa_nil)) (pe_op op_sub (pv 2) pe_int)) (pe_tup (pa_cons pe_int pa_nil))))) pss_nil)
      (pss_cons (ps_if (pt_cmpR op_eq (pv 3) pe_int (nomark _))
        (pss_cons (ps_setLc (i := 4) (own := [("_law_turn", 7)]) (g := gName 7) (by rfl) scRow.nd rfl rfl (sw_true rfl rfl rfl (by decide +kernel)) (pi_range1 rfl mr (pa_cons (pe_op op_add pe_int (pe_d DT hr (by decide) (by rfl) (pa_cons (pv 0) (pa_cons (pe_callB (call_min2 rfl) (by rfl) mn (by decide +kernel) (pa_cons (pv 2) (pa_cons pe_int pa_nil))) pa_nil)))) pa_nil))
            (blkOk_by (N := nRow) (sc := defScope sRow) (by decide +kernel)) (fun _ _ _ _ _ => pg_name (i := 7) scRow.nd rfl (.inl rfl)) (fun _ _ _ _ _ => pts_nil)
            (fun _ _ _ _ _ => pe_d DT hr (by decide) (by rfl) (pa_cons (pv 0) (pa_cons pe_int pa_nil))))
        (pss_one (ps_ret (pe_callTy call_tuple_of (by rfl) mt (by decide +kernel) (pa_cons (pe_slice sl_list (pe_op op_rep (pv 4) (pv 2)) po_none (po_some (pv 2))) pa_nil))))) pss_nil)
      (pss_cons (ps_set (i := 5) scRow.nd rfl (.inl rfl) (pe_lst (pa_cons (pe_d DT hr (by decide) (by rfl) (pa_cons (pv 0) (pa_cons pe_int pa_nil))) pa_nil)))
      (pss_cons (ps_while PassesOwn.never (pt_cmpR op_lt (pe_callB call_len_seq (by rfl) ml PySem.boot_len (pa_cons (pv 5) pa_nil)) (pv 2) (nomark _))
        (pss_cons (ps_set (i := 6) scRow.nd rfl (.inl rfl) (pe_mid (pe_and (pe_cmpR op_eq (pv 3) pe_int (nomark _)) (pe_one (pe_cmpR op_gt (pe_d DT hr (by decide) (by rfl) (pa_cons (pv 0) (pa_cons pe_int pa_nil))) pe_int (nomark _))))))
        (pss_one (ps_expr (pe_bm PySem.F.plainAttrs_list PySem.F.slot_list_append PySem.F.type_list_append mt_append (pv 5) (pa_cons (pe_mid (pe_ifExp (pt_val (pv 6)) (pe_ix ix_list (pv 5) (pe_un un_neg pe_int) (fun _ _ => rfl))
            (pe_d DT hr (by decide) (by rfl) (pa_cons (pv 0) (pa_cons pe_int pa_nil))))) pa_nil))))))
      (pss_one (ps_ret (pe_callTy call_tuple_of (by rfl) mt (by decide +kernel) (pa_cons (pv 5) pa_nil)))))))), ?_⟩
    refine ⟨fun σ H2 => ∃ z k : Int, σ = [some (.ref b), some (.int most), some (.int z), some (.int k), none, none, none, none] ∧ 1 ≤ z ∧ z ≤ most ∧ 0 ≤ k ∧ k < 5 ∧ But b H H2 ∧ Box (m + 1 + 1) H2 b, ?_, fun σ' H2 hM => ?_⟩
    · exact ⟨.ref b, rfl, .int most, rfl, b, most, m, rfl, by omega, by omega, hb, by omega, fun d H1 d0 d1 bt1 bx1 sm1 => ⟨_, _, rfl, rfl, .ref b, rfl, b, 5, m + 1, rfl, by decide, by decide, bx1, by omega,
        fun k H2 k0 k1 bt2 bx2 sm2 => ⟨_, _, rfl, 1 + d, k, rfl, by omega, by omega, k0, k1, bt1.trans bt2, bx2⟩⟩⟩
    obtain ⟨z, k, rfl, size1, size2, k0, k1, bt, bx2⟩ := hM
    refine ⟨.int k, rfl, rfl, _, rfl, ite2 (fun e => ?_) (fun e => ?_)⟩
    · refine ⟨by show 1 ≤ sizeLine; decide, fun p np => ⟨.int z, rfl, z, 1, rfl, rfl, p, z - 1, [.int 1], rfl, rfl, .inl (.inl upd_same), List.cons_ne_nil _ _, by omega, by omega, by show 1 ≤ 1000; decide, fun p2 H3 s3 t3 => ⟨by show 1 ≤ sizeLine; decide, fun p4 np4 => ?_⟩⟩⟩
      refine ⟨p2, p4, _, [.int 0], rfl, rfl, Same.seqT (same_new np4) t3, .inl (.inl upd_same), ?_, fun p5 H5 s5 t5 => ?_⟩
      · show ((List.replicate (z - 1).toNat [V.int 1]).flatten).length + 1 ≤ sizeLine
        rw [show [V.int 1] = [(1 : Int)].map V.int from rfl, rep_map, List.length_map, rep_len]
        show (z - 1).toNat * 1 + 1 ≤ sizeLine
        exact Nat.le_trans (show _ ≤ 100 by omega) (by decide)
      · rw [show [V.int 1] = [(1 : Int)].map V.int from rfl, rep_map, show [V.int 0] = [(0 : Int)].map V.int from rfl, ← List.map_append] at t5
        refine q H5 p5 _ (((bt.trans (But.new np)).trans (But.of_same s3)).trans ((But.new np4).trans (But.of_same s5))) ?_ t5 ?_ ?_ ?_
        · exact (((((bx2.same (same_new np)).same s3).same (same_new np4)).same s5)).up (by omega)
        · rw [List.length_append]
          exact Nat.le_add_left _ _
        · rw [List.length_append, rep_len]
          show (((z - 1).toNat * 1 + 1 : Nat) : Int) ≤ most
          omega
        · exact Bits.snoc (Bits.rep (fun o ho => by rw [List.mem_singleton.mp ho]; exact .inr rfl) _) (by decide) (by decide)
    · refine ⟨.int k, rfl, rfl, _, rfl, ite2 (fun e1 => ?_) (fun e1 => ?_)⟩
      · refine ⟨.ref b, rfl, .int z, rfl, z, 4, rfl, b, _, m + 2, rfl, by split <;> omega, by split <;> omega, bx2, by omega, fun d3 H3 g0 g1 bt3 bx3 sm3 => ?_⟩
        have d34 : d3 < 4 := by
          have : (if (4 : Int) < z then (4 : Int) else z) ≤ 4 := by split <;> omega
          omega
        refine ⟨_, _, rfl, rfl, 1 + d3, rfl, by omega, by omega, fun D nD => lc_range (lo := 0) (n := (1 + d3).toNat)
          (fun i H' => But b H3 H' ∧ Box (m + 3 + i) H' b ∧ ∃ l : List Int, l.length = i ∧ H' D = some (.lst (l.map V.int)) ∧ Bits l) ⟨But.new nD, bx3.same (same_new nD), [], rfl, upd_same, Bits.nil⟩ (fun i H4 hi hp => ?_) (fun H4 hp => ?_)⟩
        · obtain ⟨bt4, bx4, l, hl, hD, hB⟩ := hp
          have nDb : D ≠ b := (bx3.ne nD).symm
          refine ⟨rfl, .ref b, rfl, b, 2, _, rfl, by decide, by decide, bx4, by omega, fun d5 H5 e0 e2 bt5 bx5 sm5 => ⟨l.map V.int, (sm5 D nDb).trans hD, ?_, ?_, ?_, l ++ [d5], ?_, ?_, Bits.snoc hB e0 e2⟩⟩
          · rw [List.length_map, hl]
            exact small1000 (by omega)
          · refine but_local nD (bt4.trans bt5) fun a o n1 n2 h => ?_
            rw [upd_ne n2]
            exact h
          · obtain ⟨x1, x2, x3, g1, g2⟩ := bx5
            exact ⟨x1, x2, x3, by rw [upd_ne nDb.symm]; exact g1, g2.1, by have := g2.2; omega⟩
          · rw [List.length_append, hl]
            rfl
          · rw [upd_same, List.map_append]
            rfl
        · obtain ⟨bt4, bx4, l, hl, hD, hB⟩ := hp
          have hz : l.length ≤ 4 := by omega
          have hz1 : 1 ≤ l.length := by omega
          have hlen : (List.replicate z.toNat l).flatten.length = z.toNat * l.length := rep_len _ _
          have hmul : z.toNat ≤ z.toNat * l.length := Nat.le_mul_of_pos_right _ hz1
          have hmul2 : z.toNat * l.length ≤ 64 * 4 := Nat.mul_le_mul (by omega) hz
          refine ⟨.ref D, rfl, .int z, rfl, D, z, l.map V.int, rfl, rfl, hD, by omega, by omega, ?_, fun p np => ?_⟩
          · rw [List.length_map]
            exact Nat.le_trans (show _ ≤ 256 by rw [Nat.mul_comm]; exact hmul2) (by decide)
          · refine ⟨.int z, rfl, z, rfl, p, _, rfl, .inl (.inl upd_same), fun p2 np2 => ?_⟩
            refine ⟨p2, _, rfl, .inl ⟨.inl (.inl upd_same), fun p3 np3 => ?_⟩⟩
            have ec : cutV (List.replicate z.toNat (l.map V.int)).flatten none (some z) = (((List.replicate z.toNat l).flatten).take z.toNat).map V.int := by
              have := cut_to (xs := (List.replicate z.toNat (l.map V.int)).flatten) z.toNat
              rw [Int.toNat_of_nonneg (by omega)] at this
              rw [this, rep_map, List.map_take]
            have lt : (((List.replicate z.toNat l).flatten).take z.toNat).length = z.toNat := by
              rw [List.length_take, hlen]
              omega
            have new3 : ∀ {G : Hp} {a : Addr} {u : HO}, G a = none → But b G (upd G a u) := fun h => But.new h
            refine q _ p3 (((List.replicate z.toNat l).flatten).take z.toNat) ((((bt.trans bt3).trans bt4).trans (But.new np)).trans ((But.new np2).trans (But.new np3))) ?_ ?_ ?_ ?_ ((Bits.rep hB _).take _)
            · exact (((bx4.same (same_new np)).same (same_new np2)).same (same_new np3)).up (by omega)
            · refine .inl (.inl ?_)
              rw [upd_same, ec]
            · rw [lt]
              omega
            · rw [lt]
              omega
      · refine ⟨.ref b, rfl, b, 2, m + 2, rfl, by decide, by decide, bx2, by omega, fun d3 H3 g0 g1 bt3 bx3 sm3 => ⟨by show 1 ≤ sizeLine; decide, fun D nD => ?_⟩⟩
        have nDb : D ≠ b := (bx3.ne nD).symm
        have nDH : H D = none := by
          cases hh : H D with
          | none => rfl
          | some u =>
            have := (bt.trans bt3) D u nDb hh
            rw [nD] at this
            cases this
        refine while_by (fun σ H' => ∃ (l : List Int) (y6 : Option V), σ = [some (.ref b), some (.int most), some (.int z), some (.int k), none, some (.ref D), y6, none] ∧ But b H H' ∧ Box (m + 3 + 2 * l.length) H' b ∧ H' D = some (.lst (l.map V.int)) ∧ 1 ≤ l.length ∧ l.length ≤ z.toNat ∧ Bits l)
          (fun σ H' => match H' D with
            | some (HO.lst xs) => z.toNat - xs.length
            | _ => 0) ⟨[d3], none, rfl, (bt.trans bt3).trans (But.new nD), (bx3.same (same_new nD)).up (by omega), upd_same, Nat.le_refl _, by show 1 ≤ z.toNat; omega, Bits.snoc Bits.nil g0 g1⟩
          (fun σ H4 hp => ?_) (fun σ H Q Q' hq h => ?_)
        · obtain ⟨l, y6, rfl, bt4, bx4, hD, l1, l2, hB⟩ := hp
          refine ⟨.ref D, rfl, D, _, rfl, .inl (.inl (.inl hD)), .int z, rfl, _, _, rfl, rfl, _, rfl, ite2 (fun e2 => ?_) (fun e2 => ?_)⟩
          · have hlt : ((l.map V.int).length : Int) < z := of_decide_eq_true e2
            rw [List.length_map] at hlt
            refine ⟨fun v H' => (∃ c : Bool, v = .bl c) ∧ But b H4 H' ∧ Box (m + 3 + 2 * l.length + 1) H' b ∧ H' D = some (.lst (l.map V.int)), ?_, fun v H5 hv => ?_⟩
            · refine ⟨.int k, rfl, rfl, _, rfl, ite2 (fun _ => ?_) (fun _ => ?_)⟩
              · exact ⟨.ref b, rfl, b, 4, _, rfl, by decide, by decide, bx4, by omega, fun d5 H5 e0 e2 bt5 bx5 sm5 => ⟨_, _, rfl, rfl, ⟨_, rfl⟩, bt5, bx5, (sm5 D nDb).trans hD⟩⟩
              · exact ⟨⟨_, rfl⟩, But.refl _ _, bx4.up (by omega), hD⟩
            · obtain ⟨⟨c, rfl⟩, bt5, bx5, hD5⟩ := hv
              refine ⟨.ref D, rfl, .inl ⟨rfl, _, .inl (.inl hD5)⟩, fun v H' => (∃ o : Int, v = .int o ∧ 0 ≤ o ∧ o < 2) ∧ But b H5 H' ∧ Box (m + 3 + 2 * l.length + 2) H' b ∧ H' D = some (.lst (l.map V.int)), ?_, fun v H6 hv => ?_⟩
              · refine ⟨.bl c, rfl, c, rfl, ite2 (fun _ => ?_) (fun _ => ?_)⟩
                · obtain ⟨o, ho, hat⟩ := last_some (l := l) l1
                  refine ⟨.ref D, rfl, 1, rfl, D, _, _, _, rfl, rfl, .inl (.inl hD5), hat, ⟨o, rfl, ?_⟩, But.refl _ _, bx5.up (by omega), hD5⟩
                  have := hB o ho
                  omega
                · exact ⟨.ref b, rfl, b, 2, _, rfl, by decide, by decide, bx5, by omega, fun d6 H6 e0 e2 bt6 bx6 sm6 => ⟨⟨d6, rfl, e0, e2⟩, bt6, bx6, (sm6 D nDb).trans hD5⟩⟩
              · obtain ⟨⟨o, rfl, o0, o1⟩, bt6, bx6, hD6⟩ := hv
                refine ⟨D, _, _, rfl, rfl, hD6, ?_, ⟨l ++ [o], _, rfl, ?_, ?_, ?_, ?_, ?_, Bits.snoc hB o0 o1⟩, ?_⟩
                · rw [List.length_map]
                  exact small1000 (by omega)
                · refine but_local nDH ((bt4.trans bt5).trans bt6) fun a o n1 n2 h => ?_
                  rw [upd_ne n2]
                  exact h
                · obtain ⟨x1, x2, x3, g1, g2⟩ := bx6
                  refine ⟨x1, x2, x3, by rw [upd_ne nDb.symm]; exact g1, g2.1, ?_⟩
                  rw [List.length_append]
                  have := g2.2
                  show x3 ≤ ((m + 3 + 2 * (l.length + 1) : Nat) : Int)
                  omega
                · rw [upd_same, List.map_append]
                  rfl
                · rw [List.length_append]
                  exact Nat.le_add_left _ _
                · rw [List.length_append]
                  show l.length + 1 ≤ _
                  omega
                · show (match upd H6 D (.lst (l.map V.int ++ [V.int o])) D with
                    | some (HO.lst xs) => z.toNat - xs.length
                    | _ => 0) < (match H4 D with
                    | some (HO.lst xs) => z.toNat - xs.length
                    | _ => 0)
                  rw [upd_same, hD]
                  show z.toNat - (l.map V.int ++ [V.int o]).length < z.toNat - (l.map V.int).length
                  rw [List.length_append, List.length_map]
                  show z.toNat - (l.length + 1) < z.toNat - l.length
                  omega
          · refine ⟨.ref D, rfl, D, _, rfl, .inl ⟨.inl (.inl hD), fun p np => ?_⟩⟩
            exact q _ p l (bt4.trans (But.new np)) ((bx4.same (same_new np)).up (by omega)) (.inl (.inl upd_same)) l1 (by omega) hB
        · obtain ⟨v, h1, a, xs, h2, h3, v2, h4, i, j, h5, h6, c, h7, h8⟩ := h
          exact ⟨v, h1, a, xs, h2, h3, v2, h4, i, j, h5, h6, c, h7, hq _ _ h8⟩
end
end Pf
namespace Gk
open PySem PySem.Spec PyProof.Rows L2 PySem.Builtin.Str
/-! ### enumerate of a tuple -/
theorem enum_newT (l : Addr) (its : Array Value) :
    Meets (Builtin.«enumerate.__new__» ⟨[.type "enumerate", .ref l], []⟩) (fun _ R s => Heap.IsTuple s.heap l its ∧
      R (.ok (.ret (.ref (s.heap.push { cls := .type "tuple_iterator", data := .fields #[.ref l, .int 0 0] }).objs.size)))
        { s with heap := (s.heap.push { cls := .type "tuple_iterator", data := .fields #[.ref l, .int 0 0] }).push { cls := .type "enumerate", data := .fields #[.none, .bool false, .ref s.heap.objs.size, rawInt 0, .none, .none] } }) :=
  .of_wp fun prog w A R s h => by
    obtain ⟨hp, g, d, tk, os⟩ := s
    obtain ⟨hL, h⟩ := h
    have hsub := sub_enumerate
    obtain ⟨⟨oc, od, dt, sl⟩, hl, hcl, n, hdt⟩ := id hL
    replace hcl : oc = .type "tuple" := hcl
    replace hdt : dt = .seq its n := hdt
    subst hcl hdt
    wp_walk using wpAny_loadPart' hl
    refine wpAny_stack_any fun st => wpAny_pure ?_
    split
    · rename_i c _ _ _ _ _
      cases (c == Value.type "enumerate") <;>
      · wp_walk using wpAny_loadPart' hl, wpAny_pyIter_tuple hL
        exact ⟨_, rfl, h⟩
    · wp_walk using wpAny_loadPart' hl, wpAny_pyIter_tuple hL
      exact ⟨_, rfl, h⟩
section
variable {prog : Program} {w : World} {A : Around} {E : Value → Shared → Prop} {s : Shared}
theorem enumT {l : Addr} {its : Array Value} {Q : Value → Shared → Prop} (hL : s.heap.IsTuple l its)
    (h : ∀ h', IsEnum h' (s.heap.objs.size + 1) s.heap.objs.size 0 .none → h'.IsTupleIter s.heap.objs.size l 0 → (∀ b o, s.heap.get? b = some o → h'.get? b = some o) → Q (.ref (s.heap.objs.size + 1)) { s with heap := h' }) :
    wpAny (model prog w) A (call (.type "enumerate") [.ref l]) Q E s := by
  refine callType_new F.called_enumerate (by decide) (F.typeCall_enumerate_1 _) (F.newCall_enumerate_1 _) (fun obj => F.args_object_init_2 obj _) F.entry_enumerate_new (enum_newT l its) ⟨hL, ?_⟩
  have hz : (s.heap.push { cls := .type "tuple_iterator", data := .fields #[.ref l, .int 0 0] }).objs.size = s.heap.objs.size + 1 := Heap.size_push ..
  show _ ∧ _
  rw [hz]
  have he : IsEnum ((s.heap.push { cls := .type "tuple_iterator", data := .fields #[.ref l, .int 0 0] }).push { cls := .type "enumerate", data := .fields #[.none, .bool false, .ref s.heap.objs.size, rawInt 0, .none, .none] }) (s.heap.objs.size + 1) s.heap.objs.size 0 .none := by
    have g := Heap.get?_push_size (s.heap.push { cls := .type "tuple_iterator", data := .fields #[.ref l, .int 0 0] }) (o := { cls := .type "enumerate", data := .fields #[.none, .bool false, .ref s.heap.objs.size, rawInt 0, .none, .none] }) rfl
    rw [hz] at g
    exact g
  exact ⟨⟨_, he, rfl⟩, h _ he ⟨_, Heap.get?_push_of_some _ (Heap.get?_push_size _ rfl), rfl, rfl⟩ fun b o x => Heap.get?_push_of_some _ (Heap.get?_push_of_some _ x)⟩
end
def Ient (K : PySem.W.Frag) (a : Addr) (N : Nat) : It := ⟨fun i H => i < N ∧ ∃ xs : List V, SqT K H a xs ∧ xs.length = N,
  fun i H v H' => ∃ T x, v = .ref T ∧ H T = none ∧ (∀ xs, SqT K H a xs → xs[i]? = some x) ∧ H' = upd H T (.tup [.int (i : Nat), x]), fun i H => N ≤ i ∧ ∃ xs : List V, SqT K H a xs ∧ xs.length = N⟩
theorem turn_ent {P : Program} {w : World} {K : PySem.W.Frag} {elts : List Expr} {kk : Nat} {tpos : Pos} (e it a : Addr) (N : Nat) :
    Turn P w K (.Tuple elts kk tpos) (Ient K a N) [e, it] e (fun i h => ((∃ old, IsEnum h e it i old) ∧ h.IsTupleIter it a i) ∧ e ≠ it ∧ i ≤ N) where
  mem := List.mem_cons_self
  obj := fun i h st b hb => by
    obtain ⟨⟨⟨old, he⟩, ⟨o, ho, hc, hd⟩⟩, _⟩ := st
    rcases List.mem_cons.mp hb with rfl | hb
    · exact ⟨_, he, fun v g => nomatch g⟩
    · rw [List.mem_singleton.mp hb]
      exact ⟨o, ho, fun v g => by rw [hd] at g; cases g⟩
  keep := fun i h h' st k => by
    obtain ⟨⟨⟨old, he⟩, ⟨o, ho, hc, hd⟩⟩, hne⟩ := st
    exact ⟨⟨⟨old, k e List.mem_cons_self _ he⟩, o, k it (List.mem_cons_of_mem _ List.mem_cons_self) o ho, hc, hd⟩, hne⟩
  item := by
    intro X hP hw hK hc i pins s σ H E I hf st hg
    subst hP hw hK
    obtain ⟨hlt, xs, hq, hN⟩ := hg
    obtain ⟨st, hne, hi⟩ := st
    obtain ⟨its, rv, tup, hz⟩ := I.tuple hq
    have hlen : its.toArray.size = N := by rw [List.size_toArray, ← hN]; exact rv.length.symm
    have nat : a ≠ it := fun z => by
      obtain ⟨o1, g1, c1, _⟩ := tup
      obtain ⟨_, o2, g2, c2, _⟩ := st
      rw [z, g2] at g1
      cases g1
      rw [c2] at c1
      exact absurd c1 (by decide)
    have D : Draws X.prog X.w X.A.in1 it [it, a] its.toArray.size _ _ := Draws.tuple (show X.A.in1.handled = none from I.ok.hd hc) it a nat its.toArray
    have nea : e ≠ a := fun z => by
      obtain ⟨o1, g1, c1, _⟩ := tup
      obtain ⟨⟨old, g2⟩, _⟩ := st
      rw [z] at g2
      rw [g2] at g1
      cases g1
      exact absurd (show Value.type "enumerate" = Value.type "tuple" from c1) (by decide)
    have W := WalksT.enumerateD D e hne (fun q => (List.mem_cons.mp q).elim hne fun q => nea (List.mem_singleton.mp q)) List.mem_cons_self
    have hel : e < s.heap.objs.size := by obtain ⟨⟨old, he⟩, _⟩ := st; exact Heap.lt_size he
    have hil : it < s.heap.objs.size := by obtain ⟨_, o, ho, _⟩ := st; exact Heap.lt_size ho
    refine W.item i s _ _ (by rw [hlen]; exact hlt) ⟨st.1, st.2, tup⟩ fun T vals h' tk hp hT isT mid hk => ?_
    obtain ⟨t1, x1, hx1, rfl⟩ := hp
    have nT := W.apart i T h' mid
    obtain ⟨y, hy⟩ : ∃ y, xs[i]? = some y := ⟨xs[i]'(by omega), List.getElem?_eq_getElem (by omega)⟩
    obtain ⟨u, hu, ru⟩ := rv.get hy
    have hx1 : its.toArray[i]? = some x1 := hx1
    rw [List.getElem?_toArray, hu] at hx1
    obtain rfl := Option.some.inj hx1
    refine ⟨_, rfl, W.go elts kk tpos i T { s with heap := h', toks := tk } _ _ mid fun h2 st2 hk2 => ?_⟩
    obtain ⟨oT, gT, cT, nTT, dT⟩ := isT
    have gT2 := hk2 T oT nT gT
    have new : ObjOk X.prog X.w (upd H T (.tup [.int (i : Nat), y])) h2 T (.tup [.int (i : Nat), y]) :=
      ⟨by show 2 ≤ sizeLine; decide, [.int i t1, u], .cons ⟨_, rfl⟩ (.cons ru .nil), ⟨oT, gT2, cT, nTT, dT⟩⟩
    have I1 : Inv X pins σ (upd H T (.tup [.int (i : Nat), y])) { s with heap := h2, toks := tk } :=
      I.turnedNew (ch := [e, it]) (fun b ob hb g => hk2 b ob hb (hk b ob hb g)) hf hT new
    refine ⟨.ref T, _, I1, rfl, ⟨T, y, rfl, I.hok.fresh hT, fun ys hys => ?_, rfl⟩, ⟨⟨st2.1, st2.2.1⟩, hne, hlt⟩, fun b hb => ?_⟩
    · rw [I.tuple_inj hys hq]
      exact hy
    · have hb' : b < s.heap.objs.size := by
        rcases List.mem_cons.mp hb with rfl | hb
        · exact hel
        · rw [List.mem_singleton.mp hb]; exact hil
      rw [upd_ne (Nat.ne_of_lt (Nat.lt_of_lt_of_le hb' hT))]
      exact (hf b hb).1
  done := by
    intro X hP hw hK hc i pins s σ H E I hf st hg
    subst hP hw hK
    obtain ⟨hge, xs, hq, hN⟩ := hg
    obtain ⟨st, hne, hi⟩ := st
    obtain ⟨its, rv, tup, hz⟩ := I.tuple hq
    have hlen : its.toArray.size = N := by rw [List.size_toArray, ← hN]; exact rv.length.symm
    obtain rfl : i = N := Nat.le_antisymm hi hge
    have nat : a ≠ it := fun z => by
      obtain ⟨o1, g1, c1, _⟩ := tup
      obtain ⟨_, o2, g2, c2, _⟩ := st
      rw [z, g2] at g1
      cases g1
      rw [c2] at c1
      exact absurd c1 (by decide)
    have nea : e ≠ a := fun z => by
      obtain ⟨o1, g1, c1, _⟩ := tup
      obtain ⟨⟨old, g2⟩, _⟩ := st
      rw [z] at g2
      rw [g2] at g1
      cases g1
      exact absurd (show Value.type "enumerate" = Value.type "tuple" from c1) (by decide)
    have D : Draws X.prog X.w X.A.in1 it [it, a] its.toArray.size _ _ := Draws.tuple (show X.A.in1.handled = none from I.ok.hd hc) it a nat its.toArray
    have W := WalksT.enumerateD D e hne (fun q => (List.mem_cons.mp q).elim hne fun q => nea (List.mem_singleton.mp q)) List.mem_cons_self
    rw [← hlen] at st
    refine W.done s _ _ ⟨st.1, st.2, tup⟩ fun h' tk hk => ⟨rfl, ?_⟩
    exact I.step (g' := s.gens) (d' := s.drawn) (ch := [e, it]) (fun b hb => ⟨(hf b hb).2.2.2.1, (hf b hb).2.1, (hf b hb).2.2.2.2.1, (hf b hb).2.2.2.2.2⟩) (fun b o _ _ hc g _ => hk b o hc g) (fun b o _ _ hc g _ => ⟨o.slots, hk b o hc g⟩)
      (fun _ _ _ _ n => n) (fun b o hc g => ⟨o, hk b o hc g⟩) (fun _ _ g => g) (fun _ _ _ g => g) (fun b ps g => ⟨#[], by rw [g]; simp⟩)
      (fun m hm => by
        obtain ⟨o, es, ep, ho, r⟩ := hm
        exact ⟨o, es, ep, hk _ o (fun q => (hf _ q).2.1 rfl) ho, r⟩)
      (fun b u g => by
        have nb : ∀ c v, H c = some v → c ∉ [e, it] := fun c v g q => by
          have g' := (hf c q).1
          rw [g'] at g; cases g
        refine (I.hok b u g).stay (fun c v hcv q => hk c v ?_ q) (fun _ q => q) fun _ _ q => q
        rcases hcv with rfl | hcv
        · exact nb _ _ g
        · exact nb _ _ hcv) I.bare
  self := fun A i s Q E st h => by
    obtain ⟨⟨⟨old, he⟩, _⟩, _⟩ := st
    exact wpAny_pyIter_enum he h
def iEnumU (K : PySem.W.Frag) (ta : TA) : TI := fun σ H R => ta σ H fun vs H1 => ∃ a xs, vs = [.ref a] ∧ SqT K H1 a xs ∧ R (Ient K a xs.length) H1
theorem pi_enumU {X : Cx} {e : Expr} {ta : TA} {p pos tpos : Pos} {elts : List Expr} {kk : Nat} (hg : Gl X "enumerate") (hm : X.mg "enumerate" = none) (ha : PA X [e] ta) (hs : starEach [e] X.env = [(false, eval e X.env)] := by rfl) :
    PI X (.Tuple elts kk tpos) (.Call (.Name "enumerate" p) [e] [] pos) (iEnumU X.K ta) := by
  refine ⟨fun pins s σ H R I h => Call_ (ld_blt I hg hm boot_enumerate (PyProof.Rows.callWith_type1 (thn (ha.run pos pins s σ H _ I h) fun us s1 ⟨vs, H1, I1, r1, a, xs, ez, hq, q⟩ => ?_) hs rfl))⟩
  subst ez
  obtain ⟨u, rfl, r2⟩ := vals1 r1
  cases r2
  obtain ⟨its, rv, tup, hz⟩ := I1.tuple hq
  refine enumT tup fun h' he hit hk => wpAny_pyIter_enum he ?_
  refine ⟨s1.heap.objs.size + 1, [s1.heap.objs.size + 1, s1.heap.objs.size], _, _, H1, rfl, I1.kept (t' := s1.toks) hk, turn_ent (s1.heap.objs.size + 1) s1.heap.objs.size a xs.length, ⟨⟨⟨.none, he⟩, hit⟩, Nat.succ_ne_self _, Nat.zero_le _⟩, fun b hb => ?_, q⟩
  have hle : s1.heap.objs.size ≤ b := by
    rcases List.mem_cons.mp hb with rfl | hb
    · exact Nat.le_succ _
    · rw [List.mem_singleton.mp hb]
      exact Nat.le_refl _
  exact I1.fpOk hle (I1.hok.fresh hle)
theorem walk_ent {K : PySem.W.Frag} {a : Addr} {xs : List V} : Walk (Ient K a xs.length) xs.length (fun H => SqT K H a xs) (fun i H v H' => ∃ T x, v = .ref T ∧ H T = none ∧ xs[i]? = some x ∧ H' = upd H T (.tup [.int (i : Nat), x])) :=
  ⟨fun i _ hi g => ⟨hi, xs, g, rfl⟩, fun _ g => ⟨Nat.le_refl _, xs, g, rfl⟩, fun i H v H' _ g y => by
    obtain ⟨T, x, h1, h2, h3, h4⟩ := y
    exact ⟨T, x, h1, h2, h3 xs g, h4⟩⟩
end Gk
namespace Gk
open PySem PySem.Spec PyProof.Rows L2
/-- a pair (branch, outcome) -/
def pd (x : Int × Int) : PyData := .tuple [.int x.1, .int x.2]
def PairsAt (K : PySem.W.Frag) (H : Hp) (p : Addr) (l : List (Int × Int)) : Prop := Dp K H (.ref p) (.tuple (l.map pd))
theorem tups_pd : ∀ l : List (Int × Int), tupsAll (l.map pd) = true
  | [] => rfl
  | x :: l => by
    show (tups (pd x) && tupsAll (l.map pd)) = true
    rw [tups_pd l]
    rfl
theorem PairsAt.keep {K : PySem.W.Frag} {H H' : Hp} {p : Addr} {l : List (Int × Int)} (h : PairsAt K H p l) (k : Keep K H H') : PairsAt K H' p l :=
  Dp.keep k _ _ (by simpa only [tups] using tups_pd l) h
theorem pairs_keep {K : PySem.W.Frag} {H H' : Hp} {as : List V} {l : List (Int × Int)} (h : DpAll K H as (l.map pd)) (k : Keep K H H') : DpAll K H' as (l.map pd) := DpAll.keep k _ _ (tups_pd l) h
theorem keep_lst {K : PySem.W.Frag} {H : Hp} {D : Addr} {xs : List V} {o : HO} (h : H D = some (.lst xs)) : Keep K H (upd H D o) := by
  intro a ys g
  rcases g with (g | ⟨u, g⟩) | g
  · exact .inl (.inl (by rw [upd_ne (ne_of g h (fun q => HO.noConfusion q))]; exact g))
  · exact .inl (.inr ⟨u, by rw [upd_ne (ne_of g h (fun q => HO.noConfusion q))]; exact g⟩)
  · exact .inr g
/-- one pair more in the list at D -/
theorem pairs_snoc {K : PySem.W.Frag} {H : Hp} {D T : Addr} {as : List V} {l : List (Int × Int)} {x y : Int} {o : HO} (h : DpAll K H as (l.map pd)) (hD : H D = some (.lst as)) (nT : H T = none) :
    DpAll K (upd (upd H T (.tup [.int x, .int y])) D o) (as ++ [.ref T]) ((l ++ [(x, y)]).map pd) := by
  have nd : D ≠ T := ne_of_none hD nT
  have hD2 : (upd H T (.tup [.int x, .int y])) D = some (.lst as) := by rw [upd_ne nd]; exact hD
  have k := (Same.keep (K := K) (same_new (o := HO.tup [V.int x, V.int y]) nT)).trans (keep_lst (o := o) hD2)
  rw [List.map_append]
  refine DpAll.app (pairs_keep h k) (.cons (.tup (.inl (.inl ?_)) (.cons (.int x) (.cons (.int y) .nil))) .nil)
  rw [upd_ne nd.symm, upd_same]
theorem pair_at {K : PySem.W.Frag} {H : Hp} {v : V} {x : Int × Int} (h : Dp K H v (pd x)) : ∃ a, v = .ref a ∧ SqT K H a [.int x.1, .int x.2] := by
  cases h with
  | tup h1 h2 =>
    cases h2 with
    | cons a b =>
      cases a
      cases b with
      | cons c d =>
        cases c
        cases d
        exact ⟨_, rfl, h1⟩
theorem DpAll.set {K : PySem.W.Frag} {H : Hp} {v : V} {d : PyData} (hv : Dp K H v d) : ∀ {vs : List V} {ds : List PyData} (i : Nat), DpAll K H vs ds → DpAll K H (vs.set i v) (ds.set i d)
  | _, _, _, .nil => .nil
  | _, _, 0, .cons _ t => .cons hv t
  | _, _, i + 1, .cons h t => .cons h (DpAll.set hv i t)
theorem lc_len {K : PySem.W.Frag} {H : Hp} {as : List V} {l : List (Int × Int)} (h : DpAll K H as (l.map pd)) : as.length = l.length := by
  have := DpAll.len h
  rwa [List.length_map] at this
/-- branches and outcomes -/
def Fair (l : List (Int × Int)) : Prop := ∀ x ∈ l, (0 ≤ x.1 ∧ x.1 ≤ 7) ∧ (x.2 = 0 ∨ x.2 = 1)
theorem Fair.nil : Fair [] := fun _ h => (nomatch h)
theorem Fair.snoc {l : List (Int × Int)} {x y : Int} (h : Fair l) (a : 0 ≤ x) (b : x ≤ 7) (c : y = 0 ∨ y = 1) : Fair (l ++ [(x, y)]) := fun z hz => by
  rcases List.mem_append.mp hz with g | g
  · exact h z g
  · rw [List.mem_singleton.mp g]
    exact ⟨⟨a, b⟩, c⟩
theorem Fair.take {l : List (Int × Int)} (h : Fair l) (n : Nat) : Fair (l.take n) := fun x hx => h x (List.mem_of_mem_take hx)
theorem tame_pd : ∀ {l : List (Int × Int)}, Fair l → tameAll (l.map pd) = true
  | [], _ => rfl
  | x :: l, h => by
    have h1 := h x List.mem_cons_self
    show (tame (pd x) && tameAll (l.map pd)) = true
    rw [tame_pd fun z hz => h z (List.mem_cons_of_mem _ hz), Bool.and_true]
    simp only [pd, tame, tameAll, Bool.and_true, Bool.and_eq_true, decide_eq_true_eq]
    omega
theorem cost_pd : ∀ l : List (Int × Int), costAll (l.map pd) = 1 + 144 * l.length
  | [] => rfl
  | x :: l => by
    show cost (pd x) + 1 + costAll (l.map pd) = _
    rw [cost_pd l, List.length_cons]
    simp only [pd, cost, costAll]
    omega
theorem depth_pd : ∀ l : List (Int × Int), PyData.depthAll (l.map pd) ≤ 1
  | [] => by decide
  | x :: l => by
    show max (PyData.depth (pd x)) (PyData.depthAll (l.map pd)) ≤ 1
    have h := depth_pd l
    have h2 : PyData.depth (pd x) = 1 := by simp [pd, PyData.depth, PyData.depthAll]
    omega
end Gk
namespace Pf
open PySem PySem.Spec PyProof.Rows L2 Gk
abbrev sLoop : Stmt := topS 46
abbrev nLoop : List Str := ["_law_box_here", "_law_most", "_law_homes", "_law_row_here", "_law_kind", "_law_some", "_law_first", "_law_found", "_law_deed", "_law_at"]
theorem scLoop : FnScope nLoop ["_law_box_here", "_law_most", "_law_homes"] (defScope sLoop) := ⟨rfl, rfl, rfl, by decide +kernel, rfl, by decide +kernel, by decide +kernel⟩
section
variable {P : Program} {w : World} {K : PySem.W.Frag} {mg : Str → Option Value} {base : Heap}
def spLoop (K : PySem.W.Frag) : Sp := fun vs H Q _ => ∃ (b : Addr) (most homes : Int) (m : Nat), vs = [.ref b, .int most, .int homes] ∧ 1 ≤ most ∧ most ≤ 64 ∧ 1 ≤ homes ∧ homes ≤ 8 ∧ Box m H b ∧ m ≤ 999000 ∧
  ∀ H' p l, But b H H' → Box (m + 250) H' b → PairsAt K H' p l → 1 ≤ l.length → (l.length : Int) ≤ most → Fair l → Q (.ref p) H'
theorem ok_loop {f : Addr} {fd : FuncData} (DT : Dfn P w K mg base 1 "_law_take" ["_law_box_here", "_law_many"] spTake) (DR : Dfn P w K mg base 2 "_law_row" ["_law_box_here", "_law_most"] (spRow K)) (mt : mg "tuple" = none) (me : mg "enumerate" = none) (ml : mg "len" = none)
    (F : L2.Fun K "_law_loop" "_law_loop" sLoop f fd) : FnOk P w K mg base L2.CX0 3 f fd ["_law_box_here", "_law_most", "_law_homes"] (spLoop K) := by
  refine F.ok scLoop (fun vs H Q E h => ?_) (fun cdv A outer s H vs Q E hr h => ?_)
  · obtain ⟨b, most, homes, m, rfl, _⟩ := h
    rfl
  · obtain ⟨b, most, homes, m, rfl, m1, m2, h1, h2, hb, hm, q⟩ := h
    refine ⟨_, C8.pss_cut (ps_asg (pe_tup (pa_cons (pe_d DR hr (by decide) (by rfl) (pa_cons (pv 0) (pa_cons (pv 1) pa_nil))) (pa_cons (pe_d DT hr (by decide) (by rfl) (pa_cons (pv 0) (pa_cons pe_int pa_nil)))
          (pa_cons (pe_op op_add pe_int (pe_d DT hr (by decide) (by rfl) (pa_cons (pv 0) (pa_cons (pv 2) pa_nil)))) pa_nil))))
        (pg_tup (by rfl) (pgs_cons (pg_name (i := 3) scLoop.nd rfl (.inl rfl)) (pgs_cons (pg_name (i := 4) scLoop.nd rfl (.inl rfl)) (pgs_cons (pg_name (i := 5) scLoop.nd rfl (.inr rfl)) pgs_nil)))))
      (pss_cons (ps_set (i := 6) scLoop.nd rfl (.inr rfl) (pe_d DT hr (by decide) (by rfl) (pa_cons (pv 0) (pa_cons (pe_op op_sub pe_int (pv 5)) pa_nil))))
      (pss_cons (ps_if (pt_cmpR op_eq (pv 4) pe_int (nomark _))
        (pss_one (ps_ret (pe_callTy call_tuple_of (by rfl) mt (by decide +kernel) (pa_cons (pe_lc (own := [("_law_deed", 8)]) (g := gName 8) (by rfl) scLoop.nd (pi_tup (pv 3)) (blkOk_by (N := nLoop) (sc := defScope sLoop) (by decide +kernel))
          (fun _ _ _ _ _ => pg_name (i := 8) scLoop.nd rfl (.inl rfl)) (fun _ _ _ _ _ => pts_nil) (fun _ _ _ _ _ => pe_tup (pa_cons (pv 6) (pa_cons (pv 8) pa_nil)))) pa_nil)))) pss_nil)
      (pss_cons (ps_if (pt_cmpR op_eq (pv 4) pe_int (nomark _))
        (pss_one (ps_ret (pe_callTy call_tuple_of (by rfl) mt (by decide +kernel) (pa_cons (pe_lc (own := [("_law_at", 9), ("_law_deed", 8)]) (g := gTup K 2 (gCons (gName 9) (gCons (gName 8) gNil))) (by rfl) scLoop.nd (pi_enumU rfl me (pa_cons (pv 3) pa_nil)) (blkOk_by (N := nLoop) (sc := defScope sLoop) (by decide +kernel))
          (fun _ _ _ _ _ => pg_tup rfl (pgs_cons (pg_name (i := 9) scLoop.nd rfl (.inl rfl)) (pgs_cons (pg_name (i := 8) scLoop.nd rfl (.inl rfl)) pgs_nil))) (fun _ _ _ _ _ => pts_nil)
          (fun _ _ _ _ _ => pe_tup (pa_cons (pe_op op_add (pv 6) (pe_op op_mod (pv 9) (pv 5))) (pa_cons (pv 8) pa_nil)))) pa_nil)))) pss_nil)
      (pss_cons (ps_setLc (i := 7) (own := [("_law_deed", 8)]) (g := gName 8) (by rfl) scLoop.nd rfl rfl (sw_true rfl rfl rfl (by decide +kernel)) (pi_tup (pv 3)) (blkOk_by (N := nLoop) (sc := defScope sLoop) (by decide +kernel))
          (fun _ _ _ _ _ => pg_name (i := 8) scLoop.nd rfl (.inl rfl)) (fun _ _ _ _ _ => pts_nil) (fun _ _ _ _ _ => pe_tup (pa_cons (pe_op op_add (pv 6) (pe_d DT hr (by decide) (by rfl) (pa_cons (pv 0) (pa_cons (pv 5) pa_nil)))) (pa_cons (pv 8) pa_nil))))
      (C8.pss_cut (ps_if (PW.pt (pw_and (pt_cmpR op_eq (pv 4) pe_int (nomark _)) (pw_and1 (pt_cmpR op_gt (pe_callB call_len_seq (by rfl) ml PySem.boot_len (pa_cons (pv 7) pa_nil)) pe_int (nomark _)))))
        (pss_one (ps_asg (pe_tup (pa_cons (pe_ix ix_tup (pe_ix ix_list (pv 7) (pe_un un_neg pe_int) (fun _ _ => rfl)) pe_int (fun _ _ => rfl)) (pa_cons (pe_ix ix_tup (pe_ix ix_list (pv 7) pe_int (fun _ _ => rfl)) pe_int (fun _ _ => rfl)) pa_nil)))
          (pg_sub (pv 7) (pe_un un_neg pe_int) set_list))) pss_nil)
      (pss_one (ps_ret (pe_callTy call_tuple_of (by rfl) mt (by decide +kernel) (pa_cons (pv 7) pa_nil))))))))), ?_⟩
    refine ⟨fun σ H2 => ∃ (r : Addr) (os : List Int) (k z : Int), σ = [some (.ref b), some (.int most), some (.int homes), some (.ref r), some (.int k), some (.int z), none, none, none, none] ∧ SqT K H2 r (os.map V.int) ∧ 1 ≤ os.length ∧ (os.length : Int) ≤ most ∧ Bits os ∧ 1 ≤ z ∧ z ≤ 8 ∧ But b H H2 ∧ Box (m + 152) H2 b, ?_, fun σ' H2 hM => ?_⟩
    · refine ⟨.ref b, rfl, .int most, rfl, b, most, m, rfl, m1, m2, hb, by omega, fun H1 r os bt1 bx1 sq l1 l2 hB => ⟨.ref b, rfl, b, 4, m + 150, rfl, by decide, by decide, bx1, by omega, fun k H2 k0 k1 bt2 bx2 sm2 =>
        ⟨.ref b, rfl, .int homes, rfl, b, homes, m + 150 + 1, rfl, by omega, by omega, bx2, by omega, fun d H3 d0 d1 bt3 bx3 sm3 => ⟨_, _, rfl, rfl, by show 3 ≤ sizeLine; decide, fun p np => ?_⟩⟩⟩⟩
      refine ⟨p, _, rfl, .inl (.inl upd_same), rfl, _, _, rfl, _, _, rfl, _, _, rfl, rfl, r, os, k, 1 + d, rfl, ?_, l1, l2, hB, by omega, by omega, ((bt1.trans bt2).trans bt3).trans (But.new np), bx3.same (same_new np)⟩
      exact Same.seqT (same_new np) ((But.keep bt3 bx2 _ _) ((But.keep bt2 bx1 _ _) sq))
    · obtain ⟨r, os, k, z, rfl, sq, l1, l2, hB, z1, z2, bt, bx⟩ := hM
      refine ⟨.ref b, rfl, .int z, rfl, _, _, rfl, rfl, b, 9 - z, m + 152, rfl, by omega, by omega, bx, by omega, fun d H3 d0 d1 bt3 bx3 sm3 => ?_⟩
      have sq3 : SqT K H3 r (os.map V.int) := But.keep bt3 bx _ _ sq
      have btA : But b H H3 := bt.trans bt3
      have len64 : os.length ≤ 64 := by omega
      have at_os : ∀ {i : Nat} {x : V}, (os.map V.int)[i]? = some x → ∃ o, os[i]? = some o ∧ x = .int o ∧ (o = 0 ∨ o = 1) := by
        intro i x hx
        rw [List.getElem?_map] at hx
        cases e : os[i]? with
        | none => rw [e] at hx; cases hx
        | some o =>
          rw [e] at hx
          exact ⟨o, rfl, (Option.some.inj hx).symm, hB o (List.mem_of_getElem? e)⟩
      have fin : ∀ (H5 : Hp) (D : Addr) (as : List V) (l : List (Int × Int)), But b H H5 → Box (m + 240) H5 b → H5 D = some (.lst as) → DpAll K H5 as (l.map pd) → l.length = os.length → Fair l →
          ∀ p, H5 p = none → Q (.ref p) (upd H5 p (.tup as)) := fun H5 D as l b5 x5 hD hA hl hF p np =>
        q _ p l (b5.trans (But.new np)) ((x5.same (same_new np)).up (by omega)) (.tup (.inl (.inl upd_same)) (pairs_keep hA (Same.keep (same_new np)))) (by omega) (by omega) hF
      refine ⟨.int k, rfl, rfl, _, rfl, ite2 (fun e => ?_) (fun e => ?_)⟩
      · refine ⟨.ref r, rfl, r, rfl, ⟨_, sq3⟩, fun D nD => lc_tup (K := K) (a := r) (xs := os.map V.int)
          (fun i H' => Same H3 H' ∧ ∃ (as : List V) (l : List (Int × Int)), H' D = some (.lst as) ∧ DpAll K H' as (l.map pd) ∧ l.length = i ∧ Fair l) ⟨same_new nD, [], [], upd_same, .nil, rfl, Fair.nil⟩
          (fun i H' _ hp => Same.seqT hp.1 sq3) (fun i x H4 hx hp => ?_) (fun H4 hp => ?_)⟩
        · obtain ⟨sm, as, l, hD, hA, hl, hF⟩ := hp
          obtain ⟨o, ho, rfl, ob⟩ := at_os hx
          have hi : i < os.length := (List.getElem?_eq_some_iff.mp ho).1
          refine ⟨rfl, .int d, rfl, .int o, rfl, by show 2 ≤ sizeLine; decide, fun T nT => ⟨as, by rw [upd_ne (ne_of_none hD nT)]; exact hD, ?_, ?_, as ++ [.ref T], l ++ [(d, o)], upd_same, pairs_snoc hA hD nT, ?_, Fair.snoc hF d0 (by omega) ob⟩⟩
          · rw [lc_len hA]
            exact small1000 (by omega)
          · intro a u h
            rw [upd_ne (ne_of_none h nD)]
            exact same_new nT a u (sm a u h)
          · rw [List.length_append, hl]
            rfl
        · obtain ⟨sm, as, l, hD, hA, hl, hF⟩ := hp
          rw [List.length_map] at hl
          exact ⟨D, as, rfl, .inl ⟨.inl (.inl hD), fin H4 D as l (btA.trans (But.of_same sm)) ((bx3.same sm).up (by omega)) hD hA hl hF⟩⟩
      · refine ⟨.int k, rfl, rfl, _, rfl, ite2 (fun e2 => ?_) (fun e2 => ?_)⟩
        · refine ⟨.ref r, rfl, r, _, rfl, sq3, fun D nD => lc_it walk_ent
            (fun i H' => Same H3 H' ∧ ∃ (as : List V) (l : List (Int × Int)), H' D = some (.lst as) ∧ DpAll K H' as (l.map pd) ∧ l.length = i ∧ Fair l) ⟨same_new nD, [], [], upd_same, .nil, rfl, Fair.nil⟩
            (fun i H' _ hp => Same.seqT hp.1 sq3) (fun i x H4 H5 hi hp hy => ?_) (fun H4 hp => ?_)⟩
          · obtain ⟨sm, as, l, hD, hA, hl, hF⟩ := hp
            obtain ⟨R, x, rfl, nR, hx, rfl⟩ := hy
            obtain ⟨o, ho, rfl, ob⟩ := at_os hx
            have hi : i < os.length := (List.getElem?_eq_some_iff.mp ho).1
            have hD4 : (upd H4 R (.tup [.int (i : Nat), .int o])) D = some (.lst as) := by rw [upd_ne (ne_of_none hD nR)]; exact hD
            have hA4 : DpAll K (upd H4 R (.tup [.int (i : Nat), .int o])) as (l.map pd) := pairs_keep hA (Same.keep (same_new nR))
            have hmod0 : 0 ≤ (i : Int) % z := Int.emod_nonneg _ (by omega)
            have hmod1 : (i : Int) % z < z := Int.emod_lt_of_pos _ (by omega)
            refine ⟨R, _, rfl, .inl (.inl upd_same), rfl, _, _, rfl, _, _, rfl, rfl, rfl, .int d, rfl, .int (i : Nat), rfl, .int z, rfl, _, _, rfl, rfl, by show (0 : Int) < z; omega, _, _, rfl, rfl, .int o, rfl, by show 2 ≤ sizeLine; decide,
              fun T nT => ⟨as, by rw [upd_ne (ne_of_none hD4 nT)]; exact hD4, ?_, ?_, as ++ [.ref T], l ++ [(d + (i : Int) % z, o)], upd_same, pairs_snoc hA4 hD4 nT, ?_, Fair.snoc hF (by omega) (by omega) ob⟩⟩
            · rw [lc_len hA]
              exact small1000 (by omega)
            · intro a u h
              rw [upd_ne (ne_of_none h nD)]
              exact same_new nT a u (same_new nR a u (sm a u h))
            · rw [List.length_append, hl]
              rfl
          · obtain ⟨sm, as, l, hD, hA, hl, hF⟩ := hp
            rw [List.length_map] at hl
            exact ⟨D, as, rfl, .inl ⟨.inl (.inl hD), fin H4 D as l (btA.trans (But.of_same sm)) ((bx3.same sm).up (by omega)) hD hA hl hF⟩⟩
        · refine ⟨.ref r, rfl, r, rfl, ⟨_, sq3⟩, fun D nD => lc_tup (K := K) (a := r) (xs := os.map V.int)
            (fun i H' => But b H3 H' ∧ Box (m + 153 + i) H' b ∧ ∃ (as : List V) (l : List (Int × Int)), H' D = some (.lst as) ∧ DpAll K H' as (l.map pd) ∧ l.length = i ∧ Fair l) ⟨But.new nD, bx3.same (same_new nD), [], [], upd_same, .nil, rfl, Fair.nil⟩
            (fun i H' _ hp => But.keep hp.1 bx3 _ _ sq3) (fun i x H4 hx hp => ?_) (fun H4 hp => ?_)⟩
          · obtain ⟨bt4, bx4, as, l, hD, hA, hl, hF⟩ := hp
            obtain ⟨o, ho, rfl, ob⟩ := at_os hx
            have hi : i < os.length := (List.getElem?_eq_some_iff.mp ho).1
            have nDb : D ≠ b := (bx3.ne nD).symm
            refine ⟨rfl, .int d, rfl, .ref b, rfl, .int z, rfl, b, z, _, rfl, by omega, by omega, bx4, by omega, fun d5 H5 e0 e1 bt5 bx5 sm5 => ⟨_, _, rfl, rfl, .int o, rfl, by show 2 ≤ sizeLine; decide, fun T nT => ?_⟩⟩
            have hD5 : H5 D = some (.lst as) := (sm5 D nDb).trans hD
            have nTb : T ≠ b := (bx5.ne nT).symm
            refine ⟨as, by rw [upd_ne (ne_of_none hD5 nT)]; exact hD5, ?_, ?_, ?_, as ++ [.ref T], l ++ [(d + d5, o)], upd_same, pairs_snoc (pairs_keep hA (But.keep bt5 bx4)) hD5 nT, ?_, Fair.snoc hF (by omega) (by omega) ob⟩
            · rw [lc_len hA]
              exact small1000 (by omega)
            · refine but_local nD (bt4.trans bt5) fun a u n1 n2 h => ?_
              rw [upd_ne n2]
              exact same_new nT a u h
            · obtain ⟨x1, x2, x3, g1, g2⟩ := bx5
              exact ⟨x1, x2, x3, by rw [upd_ne nDb.symm, upd_ne nTb.symm]; exact g1, g2.1, by have := g2.2; omega⟩
            · rw [List.length_append, hl]
              rfl
          · obtain ⟨bt4, bx4, as, l, hD, hA, hl, hF⟩ := hp
            rw [List.length_map] at hl
            rw [List.length_map] at bx4
            have hal := lc_len hA
            refine ⟨fun σ H6 => ∃ (as : List V) (l : List (Int × Int)), σ = [some (.ref b), some (.int most), some (.int homes), some (.ref r), some (.int k), some (.int z), some (.int d), some (.ref D), none, none] ∧ But b H H6 ∧ Box (m + 240) H6 b ∧ H6 D = some (.lst as) ∧ DpAll K H6 as (l.map pd) ∧ l.length = os.length ∧ Fair l, ?_, fun σ' H6 hM => ?_⟩
            · refine ⟨.int k, rfl, rfl, _, rfl, ite2 (fun e3 => ?_) (fun e3 => ?_)⟩
              · refine ⟨.ref D, rfl, D, _, rfl, .inl (.inl (.inl hD)), _, _, rfl, rfl, _, rfl, ite2 (fun e4 => ?_) (fun e4 => ?_)⟩
                · have h0 : 0 < l.length := by omega
                  have g0 : as[0]? = some (as[0]'(by omega)) := List.getElem?_eq_getElem (by omega)
                  have gl : as[l.length - 1]? = some (as[l.length - 1]'(by omega)) := List.getElem?_eq_getElem (by omega)
                  have k0 : (l.map pd)[0]? = some (pd (l[0]'(by omega))) := by rw [List.getElem?_map, List.getElem?_eq_getElem (by omega)]; rfl
                  have kl : (l.map pd)[l.length - 1]? = some (pd (l[l.length - 1]'(by omega))) := by rw [List.getElem?_map, List.getElem?_eq_getElem (by omega)]; rfl
                  obtain ⟨a0, ea0, sa0⟩ := pair_at (DpAll.at hA g0 k0)
                  obtain ⟨al, eal, sal⟩ := pair_at (DpAll.at hA gl kl)
                  have f0 := hF _ (List.getElem_mem (show 0 < l.length by omega))
                  have fl := hF _ (List.getElem_mem (show l.length - 1 < l.length by omega))
                  have ix : ixN as.length (-1) = some (l.length - 1) := by
                    unfold ixN
                    rw [if_neg (by decide), if_pos (by omega)]
                    congr 1
                    omega
                  have hat : atI as (-1) = some (.ref al) := by
                    unfold atI
                    rw [ix]
                    exact gl.trans (congrArg some eal)
                  have hat0 : atI as 0 = some (.ref a0) := atI_nat (j := 0) (g0.trans (congrArg some ea0))
                  refine ⟨.ref D, rfl, 1, rfl, D, as, -1, .ref al, rfl, rfl, .inl (.inl hD), hat, al, _, 0, .int (l[l.length - 1]'(by omega)).1, rfl, rfl, sal, rfl, .ref D, rfl, D, as, 0, .ref a0, rfl, rfl, .inl (.inl hD), hat0, a0, _, 1, .int (l[0]'(by omega)).2, rfl, rfl, sa0, rfl,
                    by show 2 ≤ sizeLine; decide, fun T nT => ?_⟩
                  have nDT : D ≠ T := ne_of_none hD nT
                  have hD7 : (upd H4 T (.tup [.int (l[l.length - 1]'(by omega)).1, .int (l[0]'(by omega)).2])) D = some (.lst as) := by rw [upd_ne nDT]; exact hD
                  have nDb : D ≠ b := (bx3.ne nD).symm
                  have nDH : H D = none := by
                    cases hh : H D with
                    | none => rfl
                    | some u =>
                      have := btA D u nDb hh
                      rw [nD] at this
                      cases this
                  refine ⟨.ref D, rfl, 1, rfl, D, as, -1, l.length - 1, rfl, rfl, hD7, ix, as.set (l.length - 1) (.ref T), l.set (l.length - 1) ((l[l.length - 1]'(by omega)).1, (l[0]'(by omega)).2), rfl, ?_, ?_, upd_same, ?_, ?_, ?_⟩
                  · refine but_local nDH (btA.trans bt4) fun a u n1 n2 h => ?_
                    rw [upd_ne n2]
                    exact same_new nT a u h
                  · have nbT := bx4.ne nT
                    obtain ⟨x1, x2, x3, g1, g2⟩ := bx4
                    exact ⟨x1, x2, x3, by rw [upd_ne nDb.symm, upd_ne nbT]; exact g1, g2.1, by have := g2.2; omega⟩
                  · have kk := (Same.keep (K := K) (same_new (o := HO.tup [.int (l[l.length - 1]'(by omega)).1, .int (l[0]'(by omega)).2]) nT)).trans (keep_lst (o := .lst (as.set (l.length - 1) (.ref T))) hD7)
                    rw [List.map_set]
                    refine DpAll.set (.tup (.inl (.inl ?_)) (.cons (.int _) (.cons (.int _) .nil))) _ (pairs_keep hA kk)
                    rw [upd_ne nDT.symm, upd_same]
                  · rw [List.length_set]
                    exact hl
                  · intro y hy
                    rcases List.mem_or_eq_of_mem_set hy with g | g
                    · exact hF y g
                    · rw [g]
                      exact ⟨fl.1, f0.2⟩
                · exact ⟨as, l, rfl, btA.trans bt4, bx4.up (by omega), hD, hA, hl, hF⟩
              · exact ⟨as, l, rfl, btA.trans bt4, bx4.up (by omega), hD, hA, hl, hF⟩
            · obtain ⟨as, l, rfl, bt6, bx6, hD6, hA6, hl6, hF6⟩ := hM
              exact ⟨.ref D, rfl, D, as, rfl, .inl ⟨.inl (.inl hD6), fin H6 D as l bt6 bx6 hD6 hA6 hl6 hF6⟩⟩
end
end Pf
namespace Gk
open PySem PySem.Spec PyProof.Rows L2
/-! ### data whose equality is being the same -/
mutual
def exa : PyData → Bool
  | .none | .int _ | .str _ => true
  | .list xs | .tuple xs => exaAll xs
  | .bool _ | .dict _ => false
def exaAll : List PyData → Bool
  | [] => true
  | x :: xs => exa x && exaAll xs
end
mutual
theorem eqv_exa : ∀ d e : PyData, exa d = true → exa e = true → PyData.eqv d e = true → d = e
  | .none, .none, _, _, _ => rfl
  | .int i, .int j, _, _, h => by
    simp only [PyData.eqv, beq_iff_eq] at h
    rw [h]
  | .str x, .str y, _, _, h => by
    simp only [PyData.eqv, beq_iff_eq] at h
    rw [h]
  | .list xs, .list ys, a, b, h => by
    simp only [PyData.eqv] at h
    rw [eqv_exaAll xs ys (by simpa only [exa] using a) (by simpa only [exa] using b) h]
  | .tuple xs, .tuple ys, a, b, h => by
    simp only [PyData.eqv] at h
    rw [eqv_exaAll xs ys (by simpa only [exa] using a) (by simpa only [exa] using b) h]
  | .none, .int _, _, _, h | .none, .str _, _, _, h | .none, .list _, _, _, h | .none, .tuple _, _, _, h => by simp [PyData.eqv] at h
  | .int _, .none, _, _, h | .int _, .str _, _, _, h | .int _, .list _, _, _, h | .int _, .tuple _, _, _, h => by simp [PyData.eqv] at h
  | .str _, .none, _, _, h | .str _, .int _, _, _, h | .str _, .list _, _, _, h | .str _, .tuple _, _, _, h => by simp [PyData.eqv] at h
  | .list _, .none, _, _, h | .list _, .int _, _, _, h | .list _, .str _, _, _, h | .list _, .tuple _, _, _, h => by simp [PyData.eqv] at h
  | .tuple _, .none, _, _, h | .tuple _, .int _, _, _, h | .tuple _, .str _, _, _, h | .tuple _, .list _, _, _, h => by simp [PyData.eqv] at h
  | .bool _, _, a, _, _ | .dict _, _, a, _, _ => by simp [exa] at a
  | .none, .bool _, _, b, _ | .none, .dict _, _, b, _ | .int _, .bool _, _, b, _ | .int _, .dict _, _, b, _ | .str _, .bool _, _, b, _ | .str _, .dict _, _, b, _ => by simp [exa] at b
  | .list _, .bool _, _, b, _ | .list _, .dict _, _, b, _ | .tuple _, .bool _, _, b, _ | .tuple _, .dict _, _, b, _ => by simp [exa] at b
theorem eqv_exaAll : ∀ xs ys : List PyData, exaAll xs = true → exaAll ys = true → PyData.eqvAll xs ys = true → xs = ys
  | [], [], _, _, _ => rfl
  | x :: xs, y :: ys, a, b, h => by
    simp only [exaAll, Bool.and_eq_true] at a b
    simp only [PyData.eqvAll, Bool.and_eq_true] at h
    rw [eqv_exa x y a.1 b.1 h.1, eqv_exaAll xs ys a.2 b.2 h.2]
  | [], _ :: _, _, _, h => by simp [PyData.eqvAll] at h
  | _ :: _, [], _, _, h => by simp [PyData.eqvAll] at h
end
theorem eqv_same {d : PyData} (h : tame d = true) : PyData.eqv d d = true := SeqAt.eqv_refl d (tame_lay d h)
/-- an item of a row or of a loop -/
structure Item (d : PyData) : Prop where
  e : exa d = true
  t : tups d = true
  m : tame d = true
  dp : d.depth ≤ 1
  c : cost d ≤ 143
def Plain (ds : List PyData) : Prop := ∀ d ∈ ds, Item d
theorem Plain.exa : ∀ {ds : List PyData}, Plain ds → exaAll ds = true
  | [], _ => rfl
  | x :: xs, h => by
    simp only [exaAll, (h x List.mem_cons_self).e, Plain.exa fun z hz => h z (List.mem_cons_of_mem _ hz), Bool.and_self]
theorem Plain.tups : ∀ {ds : List PyData}, Plain ds → tupsAll ds = true
  | [], _ => rfl
  | x :: xs, h => by
    simp only [tupsAll, (h x List.mem_cons_self).t, Plain.tups fun z hz => h z (List.mem_cons_of_mem _ hz), Bool.and_self]
theorem Plain.tame : ∀ {ds : List PyData}, Plain ds → tameAll ds = true
  | [], _ => rfl
  | x :: xs, h => by
    simp only [tameAll, (h x List.mem_cons_self).m, Plain.tame fun z hz => h z (List.mem_cons_of_mem _ hz), Bool.and_self]
theorem Plain.depth : ∀ {ds : List PyData}, Plain ds → PyData.depthAll ds ≤ 1
  | [], _ => Nat.zero_le _
  | x :: xs, h => by
    have h1 := (h x List.mem_cons_self).dp
    have h2 := Plain.depth fun z hz => h z (List.mem_cons_of_mem _ hz)
    simp only [PyData.depthAll]
    omega
theorem Plain.cost : ∀ {ds : List PyData}, Plain ds → costAll ds ≤ 1 + 144 * ds.length
  | [], _ => by decide
  | x :: xs, h => by
    have h1 := (h x List.mem_cons_self).c
    have h2 := Plain.cost fun z hz => h z (List.mem_cons_of_mem _ hz)
    simp only [costAll, List.length_cons]
    omega
theorem Plain.sub {ds es : List PyData} (h : Plain ds) (s : ∀ d ∈ es, d ∈ ds) : Plain es := fun d hd => h d (s d hd)
theorem Plain.take {ds : List PyData} (h : Plain ds) (n : Nat) : Plain (ds.take n) := h.sub fun _ g => List.mem_of_mem_take g
theorem Plain.drop {ds : List PyData} (h : Plain ds) (n : Nat) : Plain (ds.drop n) := h.sub fun _ g => List.mem_of_mem_drop g
theorem Plain.app {ds es : List PyData} (h : Plain ds) (g : Plain es) : Plain (ds ++ es) := fun d hd => (List.mem_append.mp hd).elim (h d) (g d)
theorem Plain.rep {ds : List PyData} (h : Plain ds) (n : Nat) : Plain (List.replicate n ds).flatten := fun x hx => by
  obtain ⟨m, hm, hx⟩ := List.mem_flatten.mp hx
  rw [(List.mem_replicate.mp hm).2] at hx
  exact h x hx
theorem plain_pd {l : List (Int × Int)} (h : Fair l) : Plain (l.map pd) := fun d hd => by
  obtain ⟨x, hx, rfl⟩ := List.mem_map.mp hd
  have g := h x hx
  refine ⟨rfl, rfl, ?_, by simp [pd, PyData.depth, PyData.depthAll], by simp only [pd, Gk.cost, costAll]; omega⟩
  simp only [pd, Gk.tame, tameAll, Bool.and_true, Bool.and_eq_true, decide_eq_true_eq]
  omega
theorem plain_bits {l : List Int} (h : ∀ o ∈ l, o = 0 ∨ o = 1) : Plain (l.map PyData.int) := fun d hd => by
  obtain ⟨x, hx, rfl⟩ := List.mem_map.mp hd
  have g := h x hx
  refine ⟨rfl, rfl, ?_, by simp [PyData.depth], by simp only [Gk.cost]; omega⟩
  simp only [Gk.tame, decide_eq_true_eq]
  omega
theorem Plain.fine {ds : List PyData} (h : Plain ds) (hl : ds.length ≤ 1000) : Fine (.tuple ds) := by
  have h1 := h.depth
  have h2 := h.cost
  refine Fine.tame (by simpa only [Gk.tame] using h.tame) ?_ ?_
  · simp only [PyData.depth]
    omega
  · simp only [Gk.cost]
    omega
theorem Plain.shaped {ds : List PyData} (h : Plain ds) : SeqAt.shaped (.tuple ds) = true := by
  have h1 := h.depth
  refine tame_shaped (by simpa only [Gk.tame] using h.tame) ?_
  simp only [PyData.depth]
  omega
def ItsAt (K : PySem.W.Frag) (H : Hp) (p : Addr) (ds : List PyData) : Prop := Dp K H (.ref p) (.tuple ds)
theorem ItsAt.keep {K : PySem.W.Frag} {H H' : Hp} {p : Addr} {ds : List PyData} (h : ItsAt K H p ds) (hp : Plain ds) (k : Keep K H H') : ItsAt K H' p ds :=
  Dp.keep k _ _ (by simpa only [Gk.tups] using hp.tups) h
theorem ItsAt.out {K : PySem.W.Frag} {H : Hp} {p : Addr} {ds : List PyData} (h : ItsAt K H p ds) : ∃ xs, SqT K H p xs ∧ DpAll K H xs ds ∧ xs.length = ds.length := by
  cases h with
  | tup a b => exact ⟨_, a, b, DpAll.len b⟩
theorem plain_eq {ds es : List PyData} (h : Plain ds) (g : Plain es) : PyData.eqv (.tuple ds) (.tuple es) = true ↔ ds = es :=
  ⟨fun e => PyData.tuple.inj (eqv_exa _ _ (by simpa only [Gk.exa] using h.exa) (by simpa only [Gk.exa] using g.exa) e), fun e => by
    rw [e]
    exact eqv_same (by simpa only [Gk.tame] using g.tame)⟩

/-! ### roots -/
def Rep {α : Type} (l : List α) (s : Nat) : Prop := (List.replicate (l.length / s) (l.take s)).flatten = l
structure RootIs {α : Type} (l : List α) (s : Nat) : Prop where
  lo : 1 ≤ s
  hi : s ≤ l.length
  rep : Rep l s
  least : ∀ t, 1 ≤ t → t < s → ¬ Rep l t
theorem flat_len {α : Type} (n : Nat) (l : List α) : ((List.replicate n l).flatten).length = n * l.length := by
  induction n with
  | zero => simp
  | succ n ih => rw [List.replicate_succ, List.flatten_cons, List.length_append, ih, Nat.succ_mul, Nat.add_comm]
theorem Rep.many {α : Type} {l : List α} {s : Nat} (h : Rep l s) (hs : s ≤ l.length) : s * (l.length / s) = l.length := by
  have e := congrArg List.length h
  rw [flat_len, List.length_take, Nat.min_eq_left hs, Nat.mul_comm] at e
  exact e
theorem RootIs.one {α : Type} {l : List α} {s t : Nat} (a : RootIs l s) (b : RootIs l t) : s = t := by
  by_cases h : s < t
  · exact absurd a.rep (b.least s a.lo h)
  · by_cases g : t < s
    · exact absurd b.rep (a.least t b.lo g)
    · omega
theorem rep_all {α : Type} {l : List α} (h : 1 ≤ l.length) : Rep l l.length := by
  unfold Rep
  rw [Nat.div_self h, List.take_length]
  show [l].flatten = l
  simp
theorem flat_mul {α : Type} (x : List α) (k : Nat) : ∀ m : Nat, (List.replicate m (List.replicate k x).flatten).flatten = (List.replicate (m * k) x).flatten
  | 0 => by simp
  | m + 1 => by
    rw [List.replicate_succ, List.flatten_cons, flat_mul x k m, Nat.succ_mul, Nat.add_comm (m * k) k, ← List.replicate_append_replicate, List.flatten_append]
theorem root_again {α : Type} {l : List α} {s t : Nat} (a : RootIs l s) (b : RootIs (l.take s) t) : t = s := by
  have hl : (l.take s).length = s := by rw [List.length_take]; exact Nat.min_eq_left a.hi
  have ht : t ≤ s := by have := b.hi; rwa [hl] at this
  by_cases h : t < s
  · refine absurd ?_ (a.least t b.lo h)
    have r1 := a.rep
    have r2 := b.rep
    have m1 := Rep.many a.rep a.hi
    have m2 := Rep.many b.rep b.hi
    rw [hl] at m2
    unfold Rep at r1 r2 ⊢
    rw [hl] at r2
    have e1 : l.length / t = l.length / s * (s / t) := by
      have : l.length = t * (l.length / s * (s / t)) := by
        have h2 : t * (s / t) * (l.length / s) = l.length := by
          rw [m2]
          exact m1
        rw [Nat.mul_comm (l.length / s) (s / t), ← Nat.mul_assoc]
        exact h2.symm
      exact Nat.div_eq_of_eq_mul_right b.lo this
    have e2 : (l.take s).take t = l.take t := by rw [List.take_take, Nat.min_eq_left ht]
    rw [e2] at r2
    rw [e1, ← flat_mul, r2, r1]
  · omega
/-! ### turned -/
def rot {α : Type} (l : List α) (k : Nat) : List α := l.drop k ++ l.take k
theorem rot_len {α : Type} (l : List α) (k : Nat) : (rot l k).length = l.length := by
  unfold rot
  rw [List.length_append, List.length_drop, List.length_take]
  omega
theorem rot_at {α : Type} {l : List α} {k i : Nat} (hk : k < l.length) (hi : i < l.length) : (rot l k)[i]? = l[(i + k) % l.length]? := by
  unfold rot
  by_cases h : i < l.length - k
  · rw [List.getElem?_append_left (by rw [List.length_drop]; exact h), List.getElem?_drop, Nat.mod_eq_of_lt (by omega), Nat.add_comm]
  · rw [List.getElem?_append_right (by rw [List.length_drop]; omega), List.length_drop, List.getElem?_take_of_lt (by omega)]
    have : (i + k) % l.length = i - (l.length - k) := by
      rw [Nat.mod_eq_sub_mod (by omega), Nat.mod_eq_of_lt (by omega)]
      omega
    rw [this]
theorem rot_back {α : Type} {l : List α} {j k : Nat} (hk : k < l.length) (h : (j = 0 ∧ k = 0) ∨ j + k = l.length) : rot (rot l k) j = l := by
  rcases h with ⟨rfl, rfl⟩ | h
  · unfold rot
    simp
  · have hj : (l.drop k).length = j := by rw [List.length_drop]; omega
    show (rot l k).drop j ++ (rot l k).take j = l
    unfold rot
    rw [← hj, List.drop_left, List.take_left, List.take_append_drop]
/-! ### rules whose written part is named -/
def rLen2 (K : PySem.W.Frag) : List V → Hp → VK → Prop := fun xs H Q => ∃ p ys, xs = [.ref p] ∧ (SqL K H p ys ∨ SqT K H p ys) ∧ Q (.int ys.length) H
theorem call_lenK {X : Cx} (K : PySem.W.Frag) (h : X.K = K := by rfl) : CallR X (.builtin "len") (rLen2 K) := by
  subst h
  exact call_len_seq
theorem ix_tupK {X : Cx} (K : PySem.W.Frag) (h : X.K = K := by rfl) : IxR X (rIxT K) := by
  subst h
  exact ix_tup
theorem ix_listK {X : Cx} (K : PySem.W.Frag) (h : X.K = K := by rfl) : IxR X (rIxL K) := by
  subst h
  exact ix_list
end Gk
namespace Gk
open PySem PySem.Spec PyProof.Rows L2
/-! ### values of any kind: data with lists and dicts, away from what changes -/
mutual
inductive Dv (M : Addr → Prop) (K : PySem.W.Frag) (H : Hp) : V → PyData → Prop
  | non : Dv M K H .non .none
  | bl (b : Bool) : Dv M K H (.bl b) (.bool b)
  | int (i : Int) : Dv M K H (.int i) (.int i)
  | str (x : Str) : Dv M K H (.str x) (.str x)
  | lst {a : Addr} {xs : List V} {ds : List PyData} : H a = some (.lst xs) → ¬ M a → (a == sysModules) = false → DvAll M K H xs ds → Dv M K H (.ref a) (.list ds)
  | tup {a : Addr} {xs : List V} {ds : List PyData} : Rd H a (.tup xs) → ¬ M a → DvAll M K H xs ds → Dv M K H (.ref a) (.tuple ds)
  | tupK {a : Addr} {xs : List V} {ds : List PyData} : (∃ (o : Obj) (its : Array Value) (n : Nat), K.lookup a = some o ∧ o.cls = .type "tuple" ∧ o.data = .seq its n ∧ its.size ≤ sizeLine ∧ Vals xs its.toList) → DvAll M K H xs ds → Dv M K H (.ref a) (.tuple ds)
  | dct {a : Addr} {kvs : List (Key × V)} {ks : List Str} {xs : List V} {ds : List PyData} : H a = some (.dK kvs) → ¬ M a → kvs = (ks.map Sum.inr).zip xs → ks.length = ds.length → DvAll M K H xs ds →
      Dv M K H (.ref a) (.dict ((ks.map PyData.str).zip ds))
inductive DvAll (M : Addr → Prop) (K : PySem.W.Frag) (H : Hp) : List V → List PyData → Prop
  | nil : DvAll M K H [] []
  | cons {v : V} {vs : List V} {d : PyData} {ds : List PyData} : Dv M K H v d → DvAll M K H vs ds → DvAll M K H (v :: vs) (d :: ds)
end
/-- what does not belong to M stays -/
def Off (M : Addr → Prop) (H H' : Hp) : Prop := ∀ a o, ¬ M a → H a = some o → H' a = some o
theorem Off.refl {M : Addr → Prop} {H : Hp} : Off M H H := fun _ _ _ h => h
theorem Off.trans {M : Addr → Prop} {H H1 H2 : Hp} (x : Off M H H1) (y : Off M H1 H2) : Off M H H2 := fun a o n h => y a o n (x a o n h)
theorem Off.same {M : Addr → Prop} {H H' : Hp} (s : Same H H') : Off M H H' := fun a o _ h => s a o h
theorem Off.but {M : Addr → Prop} {H H' : Hp} {b : Addr} (s : But b H H') (hb : M b) : Off M H H' := fun a o n h => s a o (fun z => n (by rw [z]; exact hb)) h
theorem Off.mut {M : Addr → Prop} {H : Hp} {D : Addr} {o : HO} (hb : M D) : Off M H (upd H D o) := fun a u n h => by
  rw [upd_ne (fun z => n (by rw [z]; exact hb))]
  exact h
theorem Off.rd {M : Addr → Prop} {H H' : Hp} {a : Addr} {o : HO} (k : Off M H H') (n : ¬ M a) (h : Rd H a o) : Rd H' a o := h.elim (fun h => .inl (k _ _ n h)) fun ⟨ob, h⟩ => .inr ⟨ob, k _ _ n h⟩
theorem rd_some {H : Hp} {a : Addr} {o : HO} (h : Rd H a o) : ∃ u, H a = some u := h.elim (fun h => ⟨_, h⟩) fun ⟨ob, h⟩ => ⟨_, h⟩
mutual
theorem Dv.keep {M M' : Addr → Prop} {K : PySem.W.Frag} {H H' : Hp} (k : Off M H H') (m : ∀ a o, H a = some o → ¬ M a → ¬ M' a) : ∀ {v : V} {d : PyData}, Dv M K H v d → Dv M' K H' v d
  | _, _, .non => .non
  | _, _, .bl b => .bl b
  | _, _, .int i => .int i
  | _, _, .str x => .str x
  | _, _, .lst h n s r => .lst (k _ _ n h) (m _ _ h n) s (DvAll.keep k m r)
  | _, _, .tup h n r => .tup (k.rd n h) (let ⟨_, e⟩ := rd_some h; m _ _ e n) (DvAll.keep k m r)
  | _, _, .tupK h r => .tupK h (DvAll.keep k m r)
  | _, _, .dct h n e l r => .dct (k _ _ n h) (m _ _ h n) e l (DvAll.keep k m r)
theorem DvAll.keep {M M' : Addr → Prop} {K : PySem.W.Frag} {H H' : Hp} (k : Off M H H') (m : ∀ a o, H a = some o → ¬ M a → ¬ M' a) : ∀ {vs : List V} {ds : List PyData}, DvAll M K H vs ds → DvAll M' K H' vs ds
  | _, _, .nil => .nil
  | _, _, .cons h t => .cons (Dv.keep k m h) (DvAll.keep k m t)
end
section
variable {M : Addr → Prop} {K : PySem.W.Frag} {H H' : Hp}
theorem Dv.off {v : V} {d : PyData} (h : Dv M K H v d) (k : Off M H H') : Dv M K H' v d := h.keep k fun _ _ _ n => n
theorem DvAll.off {vs : List V} {ds : List PyData} (h : DvAll M K H vs ds) (k : Off M H H') : DvAll M K H' vs ds := h.keep k fun _ _ _ n => n
theorem DvAll.len : ∀ {vs : List V} {ds : List PyData}, DvAll M K H vs ds → vs.length = ds.length
  | _, _, .nil => rfl
  | _, _, .cons _ t => by rw [List.length_cons, List.length_cons, DvAll.len t]
theorem DvAll.take : ∀ {vs : List V} {ds : List PyData} (n : Nat), DvAll M K H vs ds → DvAll M K H (vs.take n) (ds.take n)
  | _, _, 0, _ => .nil
  | _, _, _ + 1, .nil => .nil
  | _, _, n + 1, .cons h t => .cons h (DvAll.take n t)
theorem DvAll.drop : ∀ {vs : List V} {ds : List PyData} (n : Nat), DvAll M K H vs ds → DvAll M K H (vs.drop n) (ds.drop n)
  | _, _, 0, h => h
  | _, _, _ + 1, .nil => .nil
  | _, _, n + 1, .cons _ t => DvAll.drop n t
theorem DvAll.app : ∀ {vs us : List V} {ds es : List PyData}, DvAll M K H vs ds → DvAll M K H us es → DvAll M K H (vs ++ us) (ds ++ es)
  | _, _, _, _, .nil, h => h
  | _, _, _, _, .cons h t, h2 => .cons h (DvAll.app t h2)
theorem DvAll.rev : ∀ {vs : List V} {ds : List PyData}, DvAll M K H vs ds → DvAll M K H vs.reverse ds.reverse
  | _, _, .nil => .nil
  | _, _, .cons h t => by
    rw [List.reverse_cons, List.reverse_cons]
    exact DvAll.app (DvAll.rev t) (.cons h .nil)
theorem DvAll.at : ∀ {vs : List V} {ds : List PyData} {i : Nat} {v : V}, DvAll M K H vs ds → vs[i]? = some v → ∃ d, ds[i]? = some d ∧ Dv M K H v d
  | _, _, _, _, .nil, h => by simp at h
  | _, _, 0, _, .cons h _, e => by
    obtain rfl := Option.some.inj e
    exact ⟨_, rfl, h⟩
  | _, _, i + 1, _, .cons _ t, e => DvAll.at (i := i) t (by simpa using e)
end
/-- the keys and the values of a dict's entries, as they are read -/
theorem pairs_reads {P : Program} {w : World} {h : Heap} : ∀ {es : List DictEntry} {ks : List Str} {xs : List V} {vs : List (Key × Value)} {us : List Value}, ks.length = xs.length → KV ((ks.map Sum.inr).zip xs) vs → Pairs (mixKind P w) es vs →
    (∃ us, Vals xs us ∧ es.map (·.val) = us) ∧ ReadsAll h (es.map (·.key)) (ks.map PyData.str) []
  | es, [], [], vs, us, _, r, p => by
    cases r
    cases p
    exact ⟨⟨[], .nil, rfl⟩, .nil⟩
  | es, k :: ks, x :: xs, vs, us, l, r, p => by
    cases r with
    | cons r1 r2 =>
      cases p with
      | cons p1 p2 p3 =>
        obtain ⟨⟨us', v', e'⟩, rd⟩ := pairs_reads (us := []) (by simpa using l) r2 p3
        obtain ⟨r1a, r1b⟩ := r1
        refine ⟨⟨_ :: us', .cons r1b v', by rw [List.map_cons, e', p2]⟩, ?_⟩
        rw [← r1a] at p1
        have p1' : Value.isStrOf k _ = true := p1
        obtain ⟨t, et⟩ := Value.isStrOf_shape p1'
        rw [List.map_cons, List.map_cons, et]
        exact ReadsAll.cons (as := []) (bs := []) (Reads.str k t) rd
  | _, [], _ :: _, _, _, l, _, _ => by simp at l
  | _, _ :: _, [], _, _, l, _, _ => by simp at l
section
variable {X : Cx} {M : Addr → Prop} {pins : List (Addr × Obj)} {σ : L2.St} {H : Hp} {s : Shared}
mutual
theorem Dv.reads (I : Inv X pins σ H s) : ∀ {v : V} {d : PyData} {u : Value}, Dv M X.K H v d → RelV v u → ∃ as, Reads s.heap u d as ∧ sysModules ∉ as
  | _, _, u, .non, r => by cases r; exact ⟨[], .none, fun z => nomatch z⟩
  | _, _, u, .bl b, r => by cases r; exact ⟨[], .bool b, fun z => nomatch z⟩
  | _, _, u, .int i, r => by obtain ⟨t, rfl⟩ := r; exact ⟨[], .int i t, fun z => nomatch z⟩
  | _, _, u, .str x, r => by obtain ⟨t, rfl⟩ := r; exact ⟨[], .str x t, fun z => nomatch z⟩
  | _, _, u, .lst (a := a) h n sm ra, r => by
    cases r
    obtain ⟨hz, its, k, rv, ho⟩ := I.hok _ _ h
    obtain ⟨as, rd, na⟩ := DvAll.reads I ra rv
    refine ⟨a :: as, .list ho rfl rfl (by simpa using rd), fun z => ?_⟩
    rcases List.mem_cons.mp z with z | z
    · rw [z] at sm
      exact absurd sm (by simp)
    · exact na z
  | _, _, u, .tup h n ra, r => by
    cases r
    obtain ⟨its, rv, ⟨o, ho, hc, k, hd⟩, _⟩ := I.tuple (.inl h)
    obtain ⟨as, rd, na⟩ := DvAll.reads I ra rv
    exact ⟨as, .tuple ho hc hd (by simpa using rd), na⟩
  | _, _, u, .tupK h ra, r => by
    cases r
    obtain ⟨its, rv, ⟨o, ho, hc, k, hd⟩, _⟩ := I.tuple (.inr h)
    obtain ⟨as, rd, na⟩ := DvAll.reads I ra rv
    exact ⟨as, .tuple ho hc hd (by simpa using rd), na⟩
  | _, _, u, .dct (a := a) (ks := ks) (xs := xs) h n e l ra, r => by
    cases r
    obtain ⟨hz, sm, vs, kv, o, es, ep, ho, ex, hd, _, ps, _⟩ := I.hok _ _ h
    rw [e] at kv
    have hl := DvAll.len ra
    obtain ⟨⟨us, vu, eu⟩, rk⟩ := pairs_reads (P := X.prog) (w := X.w) (h := s.heap) (us := []) (l.trans hl.symm) kv ps
    obtain ⟨as, rd, na⟩ := DvAll.reads I ra vu
    rw [← eu] at rd
    refine ⟨a :: [] ++ as, .dict ho ex.1 hd ?_ ?_, fun z => ?_⟩
    · rw [List.map_fst_zip (by rw [List.length_map]; omega)]
      exact rk
    · rw [List.map_snd_zip (by rw [List.length_map]; omega)]
      exact rd
    · rcases List.mem_cons.mp z with z | z
      · rw [z] at sm
        exact absurd sm (by simp)
      · exact na z
theorem DvAll.reads (I : Inv X pins σ H s) : ∀ {vs : List V} {ds : List PyData} {us : List Value}, DvAll M X.K H vs ds → Vals vs us → ∃ as, ReadsAll s.heap us ds as ∧ sysModules ∉ as
  | _, _, _, .nil, r => by cases r; exact ⟨[], .nil, fun z => nomatch z⟩
  | _, _, _, .cons h t, r => by
    cases r with
    | cons r1 r2 =>
      obtain ⟨as, q1, n1⟩ := Dv.reads I h r1
      obtain ⟨bs, q2, n2⟩ := DvAll.reads I t r2
      exact ⟨as ++ bs, .cons q1 q2, fun z => (List.mem_append.mp z).elim n1 n2⟩
end
end
end Gk
namespace Gk
open PySem PySem.Spec PyProof.Rows L2
mutual
def fin : PyData → Nat → Bool
  | .none, _ | .bool _, _ => true
  | .int i, B => decide (i.natAbs ≤ B)
  | .str x, _ => x.cps.all (· < 0x110000)
  | .list xs, B | .tuple xs, B => finAll xs B
  | .dict kvs, B => finKv kvs B
def finAll : List PyData → Nat → Bool
  | [], _ => true
  | x :: xs, B => fin x B && finAll xs B
def finKv : List (PyData × PyData) → Nat → Bool
  | [], _ => true
  | (k, v) :: r, B => fin k B && fin v B && finKv r B
end
mutual
def big : PyData → Nat
  | .none | .bool _ | .int _ => 70
  | .str x => x.cps.size + 1
  | .list xs | .tuple xs => bigAll xs
  | .dict kvs => bigKv kvs
def bigAll : List PyData → Nat
  | [] => 1
  | x :: xs => big x + 1 + bigAll xs
def bigKv : List (PyData × PyData) → Nat
  | [] => 1
  | (k, v) :: r => big k + big v + 2 + bigKv r
end
mutual
theorem fin_facts {B : Nat} (hB : B < 10 ^ 20) : ∀ d : PyData, fin d B = true → d.showable = true ∧ d.leavesShort 21 = true ∧ d.weight ≤ big d
  | .none, _ => ⟨rfl, rfl, Nat.zero_le _⟩
  | .bool _, _ => ⟨rfl, rfl, Nat.zero_le _⟩
  | .int i, h => by
    simp only [fin, decide_eq_true_eq] at h
    have h1 := int_log20 (c := i) (by omega)
    have h2 := int_len20 (c := i) (by omega)
    refine ⟨?_, ?_, ?_⟩
    · simp only [PyData.showable]
      exact decide_eq_true (by omega)
    · simp only [PyData.leavesShort]
      exact decide_eq_true h2
    · simp only [PyData.weight, big]
      split <;> omega
  | .str x, h => by
    have h1 : tame (.str x) = true := by simpa only [fin, tame] using h
    exact ⟨rfl, tame_short _ h1, by simp only [PyData.weight, big]; omega⟩
  | .list xs, h => by
    have := fin_factsAll hB xs (by simpa only [fin] using h)
    simpa only [PyData.showable, PyData.leavesShort, PyData.weight, big] using this
  | .tuple xs, h => by
    have := fin_factsAll hB xs (by simpa only [fin] using h)
    simpa only [PyData.showable, PyData.leavesShort, PyData.weight, big] using this
  | .dict kvs, h => by
    have := fin_factsKv hB kvs (by simpa only [fin] using h)
    simpa only [PyData.showable, PyData.leavesShort, PyData.weight, big] using this
theorem fin_factsAll {B : Nat} (hB : B < 10 ^ 20) : ∀ ds : List PyData, finAll ds B = true → PyData.showableAll ds = true ∧ PyData.leavesShortAll 21 ds = true ∧ PyData.weightAll ds ≤ bigAll ds
  | [], _ => ⟨rfl, rfl, Nat.zero_le _⟩
  | x :: xs, h => by
    simp only [finAll, Bool.and_eq_true] at h
    obtain ⟨a1, a2, a3⟩ := fin_facts hB x h.1
    obtain ⟨b1, b2, b3⟩ := fin_factsAll hB xs h.2
    refine ⟨by simp only [PyData.showableAll, a1, b1, Bool.and_self], by simp only [PyData.leavesShortAll, a2, b2, Bool.and_self], ?_⟩
    simp only [PyData.weightAll, bigAll]
    omega
theorem fin_factsKv {B : Nat} (hB : B < 10 ^ 20) : ∀ kvs : List (PyData × PyData), finKv kvs B = true → PyData.showableKv kvs = true ∧ PyData.leavesShortKv 21 kvs = true ∧ PyData.weightKv kvs ≤ bigKv kvs
  | [], _ => ⟨rfl, rfl, Nat.zero_le _⟩
  | (k, v) :: r, h => by
    simp only [finKv, Bool.and_eq_true] at h
    obtain ⟨a1, a2, a3⟩ := fin_facts hB k h.1.1
    obtain ⟨c1, c2, c3⟩ := fin_facts hB v h.1.2
    obtain ⟨b1, b2, b3⟩ := fin_factsKv hB r h.2
    refine ⟨by simp only [PyData.showableKv, a1, b1, c1, Bool.and_self], by simp only [PyData.leavesShortKv, a2, b2, c2, Bool.and_self], ?_⟩
    simp only [PyData.weightKv, bigKv]
    omega
end
/-- data that may be shown, of any kind -/
structure Show (d : PyData) : Prop where
  a : d.showable = true
  c : d.depth ≤ 40
  e : d.shown.length ≤ sizeLine
theorem Show.of {d : PyData} {B : Nat} (hB : B < 10 ^ 20) (h : fin d B = true) (hd : d.depth ≤ 40) (hc : big d ≤ 500000) : Show d := by
  obtain ⟨a1, a2, a3⟩ := fin_facts hB d h
  refine ⟨a1, hd, ?_⟩
  have h1 := PyData.shown_le 21 (by decide) d a2
  have h3 : sizeLine = 16777216 := sizeLine_eq
  omega
theorem call_reprV {X : Cx} {k : Nat} (M : Addr → Prop) (hr : Room k X.A) (hg : X.A.guards = some []) : CallR X (.builtin "repr") (fun xs H Q => ∃ v d, xs = [v] ∧ Dv M X.K H v d ∧ Show d ∧ Q (.str d.shown) H) := by
  intro pins s σ H xs us Q I r h
  obtain ⟨v, d, rfl, hd, sh, q⟩ := h
  obtain ⟨u, rfl, ru⟩ := vals1 r
  have hun := hr.units
  have hc := sh.c
  obtain ⟨as, rd, na⟩ := Dv.reads I hd ru
  cases hd with
  | non =>
    cases ru
    exact PySem.P.repr_of_none ⟨.str _, H, I.tok _, ⟨_, rfl⟩, q⟩
  | bl b =>
    cases ru
    exact PySem.P.repr_of_bool ⟨.str _, H, I.tok _, ⟨_, rfl⟩, q⟩
  | int i =>
    obtain ⟨t, rfl⟩ := ru
    exact PySem.P.repr_of_int (of_decide_eq_true sh.a) ⟨.str _, H, I.tok _, ⟨_, rfl⟩, q⟩
  | str x =>
    obtain ⟨t, rfl⟩ := ru
    exact PySem.P.repr_of_str ⟨.str _, H, I.tok _, ⟨_, rfl⟩, q⟩ sh.e
  | lst _ _ _ _ =>
    cases ru
    exact repr_of_reads' rd sh.a (fun _ => na) hg (by omega) (fun _ _ e => e) (fun h' t tk hk => ⟨.str _, H, I.kept (t' := tk) hk, ⟨_, rfl⟩, q⟩) sh.e
  | tupK _ _ =>
    cases ru
    exact repr_of_reads' rd sh.a (fun _ => na) hg (by omega) (fun _ _ e => e) (fun h' t tk hk => ⟨.str _, H, I.kept (t' := tk) hk, ⟨_, rfl⟩, q⟩) sh.e
  | tup _ _ _ =>
    cases ru
    exact repr_of_reads' rd sh.a (fun _ => na) hg (by omega) (fun _ _ e => e) (fun h' t tk hk => ⟨.str _, H, I.kept (t' := tk) hk, ⟨_, rfl⟩, q⟩) sh.e
  | dct _ _ _ _ _ =>
    cases ru
    exact repr_of_reads' rd sh.a (fun _ => na) hg (by omega) (fun _ _ e => e) (fun h' t tk hk => ⟨.str _, H, I.kept (t' := tk) hk, ⟨_, rfl⟩, q⟩) sh.e
/-- a list of written items, its place told apart from the table of modules -/
def tLstN (t : TA) : TE := fun σ H Q => t σ H fun xs H1 => xs.length ≤ sizeLine ∧ ∀ p, H1 p = none → (p == sysModules) = false → Q (.ref p) (upd H1 p (.lst xs))
theorem not_modules {X : Cx} {pins : List (Addr × Obj)} {σ : L2.St} {H : Hp} {s : Shared} (I : Inv X pins σ H s) : (s.heap.objs.size == sysModules) = false := beq_eq_false_iff_ne.mpr (Nat.ne_of_gt I.big)
theorem pe_lstN {X : Cx} {es : List Expr} {t : TA} {pos : Pos} (h : PA X es t) : PE X (.List es pos) (tLstN t) :=
  ⟨fun pins s σ H Q I hq => wpAny_List_spliced (thn (h.run pos pins s σ H _ I hq) fun us s1 ⟨xs, H1, I1, r, z, q⟩ => ⟨by rw [← r.length]; exact z, .ref s1.heap.objs.size, upd H1 s1.heap.objs.size (.lst xs),
    I1.laid (t' := s1.toks) (fun b u e => Heap.get?_push_of_some _ e) (Nat.le_refl _) ⟨z, us, 0, r, Heap.get?_push_size _ rfl⟩, rfl, q _ (I1.hok.fresh (Nat.le_refl _)) (not_modules I1)⟩)⟩
/-- what isinstance says of such a value -/
def tyD : PyData → Value
  | .none => .type "NoneType"
  | .bool _ => .type "bool"
  | .int _ => .type "int"
  | .str _ => .type "str"
  | .list _ => .type "list"
  | .tuple _ => .type "tuple"
  | .dict _ => .type "dict"
theorem Dv.ty {M : Addr → Prop} {K : PySem.W.Frag} {H : Hp} {v : V} {d : PyData} (h : Dv M K H v d) : TyX K H v (tyD d) := by
  cases h with
  | non => exact .base .non
  | bl b => exact .base (.bl b)
  | int i => exact .base (.int i)
  | str x => exact .base (.str x)
  | lst h _ _ _ => exact .base (.lst h)
  | tup h _ _ =>
    rcases h with h | ⟨o, h⟩
    · exact .base (.tup h)
    · exact .fTuple h
  | tupK h _ =>
    obtain ⟨o, _, _, e, c, _⟩ := h
    exact .kTuple e c
  | dct h _ _ _ _ => exact .base (.dK h)
def isTup : PyData → Bool
  | .tuple _ => true
  | _ => false
def isIn : PyData → Bool
  | .int _ | .bool _ => true
  | _ => false
def isBo : PyData → Bool
  | .bool _ => true
  | _ => false
theorem kit_tup {K : PySem.W.Frag} (d : PyData) : PySem.W.kitOne K (tyD d) (.type "tuple") = some (isTup d) := by
  have t : ∀ x ∈ ["NoneType", "bool", "int", "str", "list", "dict"], kitB x "tuple" = some false := by decide +kernel
  cases d with
  | none => exact L2.kit_ty (t "NoneType" (by decide))
  | bool _ => exact L2.kit_ty (t "bool" (by decide))
  | int _ => exact L2.kit_ty (t "int" (by decide))
  | str _ => exact L2.kit_ty (t "str" (by decide))
  | list _ => exact L2.kit_ty (t "list" (by decide))
  | dict _ => exact L2.kit_ty (t "dict" (by decide))
  | tuple _ => exact L2.kit_ty (show kitB "tuple" "tuple" = some true by decide +kernel)
theorem kit_int {K : PySem.W.Frag} (d : PyData) : PySem.W.kitOne K (tyD d) (.type "int") = some (isIn d) := by
  have t : ∀ x ∈ ["NoneType", "str", "list", "tuple", "dict"], kitB x "int" = some false := by decide +kernel
  have u : ∀ x ∈ ["bool", "int"], kitB x "int" = some true := by decide +kernel
  cases d with
  | none => exact L2.kit_ty (t "NoneType" (by decide))
  | bool _ => exact L2.kit_ty (u "bool" (by decide))
  | int _ => exact L2.kit_ty (u "int" (by decide))
  | str _ => exact L2.kit_ty (t "str" (by decide))
  | list _ => exact L2.kit_ty (t "list" (by decide))
  | dict _ => exact L2.kit_ty (t "dict" (by decide))
  | tuple _ => exact L2.kit_ty (t "tuple" (by decide))
theorem kit_bool {K : PySem.W.Frag} (d : PyData) : PySem.W.kitOne K (tyD d) (.type "bool") = some (isBo d) := by
  have t : ∀ x ∈ ["NoneType", "int", "str", "list", "tuple", "dict"], kitB x "bool" = some false := by decide +kernel
  cases d with
  | none => exact L2.kit_ty (t "NoneType" (by decide))
  | int _ => exact L2.kit_ty (t "int" (by decide))
  | str _ => exact L2.kit_ty (t "str" (by decide))
  | list _ => exact L2.kit_ty (t "list" (by decide))
  | dict _ => exact L2.kit_ty (t "dict" (by decide))
  | tuple _ => exact L2.kit_ty (t "tuple" (by decide))
  | bool _ => exact L2.kit_ty (show kitB "bool" "bool" = some true by decide +kernel)
end Gk
namespace Gk
open PySem PySem.Spec PyProof.Rows L2
/-! ### expressions that make data -/
theorem same_new2 {H : Hp} {p : Addr} {o o' : HO} (h : H p = none) : Same H (upd (upd H p o) p o') := fun a u e => by
  rw [upd_ne (ne_of_none e h), upd_ne (ne_of_none e h)]; exact e
/-- what M speaks of stands on the heap -/
def Stands (M : Addr → Prop) (H : Hp) : Prop := ∀ a, M a → ∃ o, H a = some o
theorem Stands.same {M : Addr → Prop} {H H' : Hp} (h : Stands M H) (s : Same H H') : Stands M H' := fun a m => by
  obtain ⟨o, e⟩ := h a m
  exact ⟨o, s _ _ e⟩
theorem Stands.new {M : Addr → Prop} {H : Hp} {p : Addr} (h : Stands M H) (n : H p = none) : ¬ M p := fun m => by
  obtain ⟨o, e⟩ := h p m
  rw [n] at e; cases e
def Mk (M : Addr → Prop) (K : PySem.W.Frag) (t : TE) (σ : L2.St) (H0 : Hp) (d : PyData) : Prop :=
  ∀ (H : Hp) (M' : Addr → Prop) (Q : VK), Same H0 H → (∀ a, M a → M' a) → (∀ a, M' a → M a ∨ H0 a = none) → Stands M' H → (∀ v H', Same H H' → Dv M' K H' v d → Q v H') → t σ H Q
def MkA (M : Addr → Prop) (K : PySem.W.Frag) (t : TA) (σ : L2.St) (H0 : Hp) (ds : List PyData) : Prop :=
  ∀ (H : Hp) (M' : Addr → Prop) (Q : List V → Hp → Prop), Same H0 H → (∀ a, M a → M' a) → (∀ a, M' a → M a ∨ H0 a = none) → Stands M' H → (∀ vs H', Same H H' → DvAll M' K H' vs ds → Q vs H') → t σ H Q
theorem none_of {H H' : Hp} {p : Addr} (s : Same H H') (n : H' p = none) : H p = none := by
  cases e : H p with
  | none => rfl
  | some o => rw [s _ _ e] at n; cases n
section
variable {M : Addr → Prop} {K : PySem.W.Frag} {σ : L2.St} {H0 : Hp}
theorem mk_c {v : V} {d : PyData} (h : ∀ M H, Dv M K H v d) : Mk M K (tC v) σ H0 d := fun H M' Q s u w z q => q _ _ (Same.refl _) (h M' H)
theorem mk_int {i : Int} : Mk M K (tC (.int i)) σ H0 (.int i) := mk_c fun _ _ => .int i
theorem mk_str {x : Str} : Mk M K (tC (.str x)) σ H0 (.str x) := mk_c fun _ _ => .str x
theorem mk_non : Mk M K (tC .non) σ H0 .none := mk_c fun _ _ => .non
theorem mk_bl {b : Bool} : Mk M K (tC (.bl b)) σ H0 (.bool b) := mk_c fun _ _ => .bl b
theorem mk_neg {i : Int} : Mk M K (tUn (rU fun i => .int (-i)) (tC (.int i))) σ H0 (.int (-i)) := fun H M' Q s u w z q => ⟨_, rfl, q _ _ (Same.refl _) (.int _)⟩
theorem mk_pow {i j : Int} (c : CPow i j) : Mk M K (tOp (rI CPow fun i j => .int (i ^ j.toNat)) (tC (.int i)) (tC (.int j))) σ H0 (.int (i ^ j.toNat)) :=
  fun H M' Q s u w z q => ⟨_, _, rfl, rfl, c, q _ _ (Same.refl _) (.int _)⟩
theorem mk_var {i : Nat} {v : V} {d : PyData} (e : σ[i]? = some (some v)) (h : Dv M K H0 v d) : Mk M K (tVar i) σ H0 d := fun H M' Q s u w z q =>
  ⟨v, e, q _ _ (Same.refl _) (h.keep (Off.same s) fun a o ea na ma => (w a ma).elim na fun en => by rw [ea] at en; cases en)⟩
theorem mkA_nil : MkA M K tNil σ H0 [] := fun H M' Q s u w z q => q _ _ (Same.refl _) .nil
theorem mkA_cons {t : TE} {r : TA} {d : PyData} {ds : List PyData} (h : Mk M K t σ H0 d) (hr : MkA M K r σ H0 ds) : MkA M K (tCons t r) σ H0 (d :: ds) := fun H M' Q s u w z q =>
  h H M' _ s u w z fun v H1 s1 e1 => hr H1 M' _ (s.trans s1) u w (z.same s1) fun vs H2 s2 e2 => q _ _ (s1.trans s2) (.cons (e1.off (Off.same s2)) e2)
theorem mk_tup {t : TA} {ds : List PyData} (h : MkA M K t σ H0 ds) (l : ds.length ≤ 1000) : Mk M K (tTup t) σ H0 (.tuple ds) := fun H M' Q s u w z q =>
  h H M' _ s u w z fun vs H1 s1 e1 => ⟨by rw [e1.len, sizeLine_eq]; omega, fun p n => q _ _ (s1.trans (same_new n)) (.tup (.inl upd_same) ((z.same s1).new n) (e1.off (Off.same (same_new n))))⟩
theorem mk_lst {t : TA} {ds : List PyData} (h : MkA M K t σ H0 ds) (l : ds.length ≤ 1000) : Mk M K (tLstN t) σ H0 (.list ds) := fun H M' Q s u w z q =>
  h H M' _ s u w z fun vs H1 s1 e1 => ⟨by rw [e1.len, sizeLine_eq]; omega, fun p n y => q _ _ (s1.trans (same_new n)) (.lst upd_same ((z.same s1).new n) y (e1.off (Off.same (same_new n))))⟩
theorem mk_dct {t : TE} {k : Str} {d : PyData} (h : Mk M K t σ H0 d) : Mk M K (tDisp [(tC (.str k), t)]) σ H0 (.dict [(.str k, d)]) := fun H M' Q s u w z q => by
  intro p n
  show t σ _ _
  refine h _ (fun a => M' a ∨ a = p) _ (s.trans (same_new n)) (fun a ma => .inl (u a ma)) (fun a ma => ma.elim (w a) fun e => .inr (by rw [e]; exact none_of s n)) (fun a ma => ?_) fun v H1 s1 e1 => ?_
  · rcases ma with ma | rfl
    · obtain ⟨o, e⟩ := z a ma
      exact ⟨o, same_new n _ _ e⟩
    · exact ⟨_, upd_same⟩
  · have hp : H1 p = some (.dK []) := s1 _ _ upd_same
    have sm : Same H (upd H1 p (.dK [(Sum.inr k, v)])) := fun a o e => by
      rw [upd_ne (ne_of_none e n)]
      exact s1 _ _ (same_new n _ _ e)
    refine ⟨hp, [(Sum.inr k, v)], rfl, by show 1 ≤ 15; decide, q _ _ sm ?_⟩
    exact Dv.dct (ks := [k]) (xs := [v]) (ds := [d]) upd_same (z.new n) rfl rfl (.cons (e1.keep (Off.mut (.inr rfl)) fun a o _ na ma => na (.inl ma)) .nil)
theorem mk_dct0 : Mk M K tDNewK σ H0 (.dict []) := fun H M' Q s u w z q => by
  intro p n
  exact q _ _ (same_new n) (.dct (ks := []) (xs := []) (ds := []) upd_same (z.new n) rfl rfl .nil)
/-- a list of made things -/
theorem mk_some {t : TA} {ds : List PyData} {Q : VK} (h : MkA M K t σ H0 ds) (z : Stands M H0) (l : ds.length ≤ 1000) (q : ∀ p xs H', Same H0 H' → H0 p = none → H' p = some (.lst xs) → DvAll M K H' xs ds → xs.length = ds.length → Q (.ref p) H') : tLst t σ H0 Q :=
  h H0 M _ (Same.refl _) (fun _ m => m) (fun _ m => .inl m) z fun vs H1 s1 e1 => ⟨by rw [e1.len, sizeLine_eq]; omega, fun p n => q p vs _ (s1.trans (same_new n)) (none_of s1 n) upd_same (e1.off (Off.same (same_new n))) e1.len⟩
end
end Gk
namespace Gk
open PySem PySem.Spec PyProof.Rows L2
/-! ### sets of ints made by a comprehension -/
section
variable {X : Cx}
/-- {elt for target in iter}: D is the new set -/
def tSi (w : World) (src : TI) (g : TG) (te : TE) (own : List Nat) : TE := fun σ H Q => src σ H fun J G => ∀ D, G D = none → ∃ Stage : Nat → Nat → Hp → Prop,
  (∃ k, Stage 0 k (upd G D (L2.SetO w D (fun _ => false) 0))) ∧ ∀ i k G', Stage i k G' → (J.stop i G' ∧ Q (.ref D) G') ∨
    (J.go i G' ∧ ∃ After : Hp → Prop, (∀ G2, After G2 → ∃ j, j < k ∧ Stage (i + 1) j G2) ∧ ∀ x G2, J.yld i G' x G2 → g x (wipe σ own) G2 fun τ G3 => wipe τ own = wipe σ own ∧
      te τ G3 fun y G4 => ∃ (c : Int) (S : Int → Bool) (n : Nat), y = .int c ∧ G4 D = some (L2.SetO w D S n) ∧ n + 1 < scanBound ∧ After (upd G4 D (L2.SetO w D (fun j => S j || decide (j = c)) (if S c = true then n else n + 1))))
theorem pe_si {elt tg iter : Expr} {scope : Scope} {own : List (PySem.Str × Nat)} {pos : Pos} {src : TI} {g : TG} {te : TE} (calm : X.calm = true) (nd : X.N.Nodup) (walk : PI X tg iter src) (blk : BlkOk X.N X.env.scope scope own)
    (put : ∀ (s : Shared) (G : Hp) (C : Addr) (cl : List (PySem.Str × Addr)) (fp : List Addr), PG (X.blk s G scope (compEnvC scope cl C X.env) fp) tg g)
    (val : ∀ (s : Shared) (G : Hp) (C : Addr) (cl : List (PySem.Str × Addr)) (fp : List Addr), PE (X.blk s G scope (compEnvC scope cl C X.env) fp) elt te)
    (plain : ∀ x, foldedSetIterable iter X.env x = pure x := by intro _; rfl) : PE X (.SetComp elt [⟨tg, iter, [], 0⟩] scope pos) (tSi X.w src g te (own.map (·.2))) := by
  refine ⟨fun pins s σ H Q inv want => ?_⟩
  rw [PpSet.eval_SetComp]
  have free : ∀ y ∈ scope.names, y.2 = .free → ∃ c, X.env.cells.lookup y.1 = some c := fun y hy e =>
    (blk.free y hy e).elim (fun k => inv.ok.has _ (.inl k)) fun k => inv.ok.has _ (.inr k)
  refine wpAny_comprehension_free (use := none) rfl plain (closure_ok free) blk.kind (fun y hy e => by rw [blk.uniq y hy, e]) (thn (walk.run pins s σ H _ inv want) fun xv s1 got => thn got fun itv a have2 => ?_)
  obtain ⟨it, fp, tn, J, G, rfl, invA, T, stA, frA, go⟩ := have2
  refine PpSet.newSet_ok (newEnv_comp ?_)
  generalize eD : a.heap.objs.size = D
  have D0 : G D = none := invA.hok.fresh (Nat.le_of_eq eD)
  obtain ⟨Stage, ⟨k0, first⟩, turn⟩ := go D D0
  generalize eNew : ({ cls := .type "set", dict := none, data := .set #[] 0 (.fresh 0 0 (!X.w.params.followText "set-order")) } : Obj) = new
  generalize eB : ({ a with heap := a.heap.push new } : Shared) = b
  have hB : b.heap = a.heap.push new := by rw [← eB]
  have keepB : ∀ (c : Addr) (o : Obj), a.heap.get? c = some o → b.heap.get? c = some o := fun c o e => by rw [hB]; exact Heap.get?_push_of_some _ e
  have made : SetR X.w b.heap D (fun _ => false) 0 := by
    rw [hB, ← eNew, ← eD]
    exact setR_fresh X.w
  have invB : L2.Inv X pins σ (upd G D (L2.SetO X.w D (fun _ => false) 0)) b := by
    rw [← eB]
    refine invA.laid (t' := a.toks) (fun c o e => Heap.get?_push_of_some _ e) (Nat.le_of_eq eD) ?_
    have := L2.setO_new (P := X.prog) (H := upd G D (L2.SetO X.w D (fun _ => false) 0)) made
    rwa [hB] at this
  have small : ∀ c ∈ fp, c < a.heap.objs.size := fun c hc => let ⟨o, e, _⟩ := T.obj _ _ stA c hc; Heap.lt_size e
  have frB : ∀ c ∈ fp, FpOk X pins (upd G D (L2.SetO X.w D (fun _ => false) 0)) c ∧ c < b.heap.objs.size := fun c hc => by
    have lt := small c hc
    refine ⟨⟨?_, (frA c hc).2⟩, by rw [hB, Heap.size_push]; exact Nat.lt_succ_of_lt lt⟩
    rw [upd_ne (show c ≠ D by rw [← eD]; exact Nat.ne_of_lt lt)]
    exact (frA c hc).1
  have stB : tn 0 b.heap := T.keep _ _ _ stA fun c _ o e => keepB c o e
  generalize eG : upd G D (L2.SetO X.w D (fun _ => false) 0) = GB at first invB frB
  have invC := block_start invB blk nd frB
  have free0 : ∀ c ∈ fp, GB c = none := fun c hc => (frB c hc).1.1
  generalize eCl : cellsFrom (b.heap.objs.size + 1) scope.names (cloFrom X.env.cells scope.names []) = cl at invC
  have aim := put b GB b.heap.objs.size cl fp
  have made2 := val b GB b.heap.objs.size cl fp
  show codeAny (model X.prog X.w) X.A (.compStart (.SetComp elt [⟨tg, iter, [], 0⟩] scope pos) 0 (.ref it) (.ref D) (compEnvC scope cl b.heap.objs.size X.env)) (compPost (model X.prog X.w) X.A X.xe none (EP X pins σ Q) (.ref D) b.heap.objs.size) { b with heap := pushCells (b.heap.push { cls := .type "dict", data := .dict #[] }) scope.names }
  generalize eCe : compEnvC scope cl b.heap.objs.size X.env = ce at invC aim made2 ⊢
  have place : ce.locals = b.heap.objs.size := by rw [← eCe]; rfl
  generalize eC : ({ b with heap := pushCells (b.heap.push { cls := .type "dict", data := .dict #[] }) scope.names } : Shared) = c0 at invC ⊢
  have stC : tn 0 c0.heap := T.keep _ _ _ stB fun c _ o e => by
    rw [← eC]
    exact pushCells_keeps _ _ _ _ (Heap.get?_push_of_some _ e)
  have inside : ∀ {τ : L2.St} {G' : Hp} {s' : Shared}, L2.Inv (X.blk b GB scope ce fp) [] τ G' s' → (∀ c ∈ fp, G' c = none) → ∀ c ∈ fp, FpOk (X.blk b GB scope ce fp) [] G' c := fun {τ G' s'} inv' no c hc =>
    ⟨no c hc, (inv'.ok.exf c hc).1, inv'.ok.exfs c hc, .inl hc, fun x d e => (inv'.ok.exf c hc).2 x d e, fun p hp => absurd (show p ∈ ([] : List (Addr × Obj)) ++ [] from hp) (by simp)⟩
  have whole : codeAny (model X.prog X.w) X.A (.compLoop (.SetComp elt [⟨tg, iter, [], 0⟩] scope pos) 0 (.ref it) (.ref D) ce) (compPost (model X.prog X.w) X.A X.xe none (EP X pins σ Q) (.ref D) b.heap.objs.size) c0 := by
    refine PpSet.compLoopS_any (fun k s' => ∃ i G', L2.Inv (X.blk b GB scope ce fp) [] (wipe σ (own.map (·.2))) G' s' ∧ tn i s'.heap ∧ (∀ c ∈ fp, G' c = none) ∧ Stage i k G') (fun k s5 now => ?_) k0 ⟨0, GB, invC, stC, free0, first⟩
    obtain ⟨i, G5, inv5, st5, no5, stage⟩ := now
    rcases turn i k G5 stage with ⟨stop, fin⟩ | ⟨more, After, less, step⟩
    · refine thnF (T.done (X.blk b GB scope ce fp) rfl rfl rfl calm i [] s5 _ G5 (fun _ _ => False) inv5 (inside inv5 no5) st5 stop) fun r s6 ⟨hr, inv6⟩ => ?_
      subst hr
      have out := invB.call' (ch := fp) inv6.os inv6.base inv6.hok inv6.bare fun c hc => ⟨(frB c hc).1.2.2.2.1, (frB c hc).1.2.1, (frB c hc).1.2.2.2.2.1, (frB c hc).1.2.2.2.2.2⟩
      have nC : G5 b.heap.objs.size = none := by
        have z : G5 ce.locals = none := inv6.free
        rwa [place] at z
      obtain ⟨names, hm, _⟩ := inv6.loc
      have hm : s6.heap.Ns ce.locals names := hm
      rw [place] at hm
      obtain ⟨f0, f1, _, f3, f4, f5⟩ := invB.fpOk (Nat.le_refl _) nC
      exact ⟨names, hm, fun h2 sb => ⟨.ref D, G5, out.turned (t' := s6.toks) (fun c o hc e => (sb.2 c hc).trans e) f0 f1 f3 f4 f5, rfl, fin⟩⟩
    · refine thnF (T.item (X.blk b GB scope ce fp) rfl rfl rfl calm i [] s5 _ G5 (fun _ _ => False) inv5 (inside inv5 no5) st5 more) fun r s6 ⟨u, hr, h6⟩ => ?_
      subst hr
      refine thnF h6 fun _ s7 ⟨x, G7, inv7, rx, y7, st7, no7⟩ => ?_
      refine thnF (aim.run _ s7 _ G7 x u _ (inv7.pinned (inside inv7 no7) (T.obj _ _ st7)) rx (step x G7 y7)) fun _ s8 ⟨τ, G8, inv8, same8, q8⟩ => ?_
      show wpAny _ _ (pure true) _ _ s8
      refine wpAny_pure ?_
      simp only [if_true]
      refine thnF (made2.run _ s8 τ G8 _ inv8 q8) fun z s9 ⟨yv, G9, inv9, rz, c, S, n, ey, hD9, room, aft⟩ => ?_
      subst ey
      refine thnF (L2.mt_sadd (X := X.blk b GB scope ce fp) _ s9 τ G9 (.ref D) [.int c] (.ref D) [z] (fun _ G10 => After G10) inv9 rfl (.cons rz .nil) ⟨D, c, S, n, rfl, rfl, hD9, room, aft⟩) fun _ s10 ⟨_, G10, inv10, _, aft10⟩ => ?_
      obtain ⟨j, lt, stage2⟩ := less G10 aft10
      have pin : ∀ c ∈ fp, ∀ o, s7.heap.get? c = some o → s10.heap.get? c = some o ∧ G10 c = none := fun c hc o e =>
        let held := inv10.pin (c, o) (List.mem_append_right _ (List.mem_append_right _ (mem_pinsAt hc e)))
        ⟨held.1, held.2.1⟩
      refine ⟨j, lt, i + 1, G10, (inv10.unpinned (pins := [])).weak (by rw [← same8, wipe_length]) (fun q v e => ?_), T.keep _ _ _ st7 fun c hc o e => (pin c hc o e).1, fun c hc => ?_, stage2⟩
      · rw [← same8] at e
        exact (wipe_some e).1
      · obtain ⟨o, e, _⟩ := T.obj _ _ st7 c hc
        exact (pin c hc o e).2
  exact PpSet.codeAny_compStart_set whole (T.self X.A 0 _ _ _ stC whole)
end
end Gk
namespace Pf
open PySem PySem.Spec PyProof.Rows L2 Gk
theorem ps_dead {X : Cx} {st : Stmt} : PS X st (fun _ _ _ => False) := ⟨fun _ _ _ _ _ _ h => h.elim⟩
theorem bool_is : bootBuiltins "bool" = some (.type "bool") := by decide +kernel
theorem isi_is : PySem.bootBuiltins "isinstance" = some (.builtin "isinstance") := by decide +kernel
theorem pe_isi {X : Cx} {e : Expr} {te : TE} {T : Str} {n : String} {p p2 pos : Pos} (hg : Gl X "isinstance") (hm : X.mg "isinstance" = none) (he : PE X e te) (hT : Gl X T) (mT : X.mg T = none) (bT : bootBuiltins T = some (.type n)) (nT : T ≠ "__name__" := by decide) (dT : (T == ("__debug__" : Str)) = false := by decide)
    (h1 : starEach [e, .Name T p2] X.env = (false, eval e X.env) :: starEach [.Name T p2] X.env := by rfl) (h2 : starEach [.Name T p2] X.env = (false, eval (.Name T p2) X.env) :: starEach [] X.env := by rfl) (hpl : (backTo pos (starEach [.Name T p2] X.env)).any (·.1) = false := by rfl) :
    PE X (.Call (.Name "isinstance" p) [e, .Name T p2] [] pos) (tCB (rIsi X.K) (tCons te (tCons (tC (.ty n)) tNil))) :=
  pe_callB call_isi hg hm isi_is (pa_cons he (pa_cons (pe_bltn hT mT bT rfl nT dT) pa_nil h2) h1) (he := h1) (hpl := hpl)
/-- a set that a comprehension makes -/
theorem si_walk {w : World} {J : It} {n : Nat} {Gd : Hp → Prop} {Y : Nat → Hp → V → Hp → Prop} {g : TG} {te : TE} {vs : List Nat} {σ : L2.St} {H1 : Hp} {D : Addr} {Qd : Hp → Prop} (wk : Walk J n Gd Y) (Pv : Nat → Hp → Prop) (h0 : Pv 0 (upd H1 D (SetO w D (fun _ => false) 0))) (hg : ∀ i H, Pv i H → Gd H)
    (hs : ∀ i x H H', i < n → Pv i H → Y i H x H' → g x (wipe σ vs) H' fun τ G3 => wipe τ vs = wipe σ vs ∧ te τ G3 fun y G4 => ∃ (c : Int) (S : Int → Bool) (m : Nat), y = .int c ∧ G4 D = some (SetO w D S m) ∧ m + 1 < scanBound ∧ Pv (i + 1) (upd G4 D (SetO w D (fun j => S j || decide (j = c)) (if S c = true then m else m + 1))))
    (hd : ∀ H, Pv n H → Qd H) : ∃ Stage : Nat → Nat → Hp → Prop, (∃ k, Stage 0 k (upd H1 D (SetO w D (fun _ => false) 0))) ∧ ∀ i k G', Stage i k G' → (J.stop i G' ∧ Qd G') ∨
    (J.go i G' ∧ ∃ After : Hp → Prop, (∀ G2, After G2 → ∃ j, j < k ∧ Stage (i + 1) j G2) ∧ ∀ x G2, J.yld i G' x G2 → g x (wipe σ vs) G2 fun τ G3 => wipe τ vs = wipe σ vs ∧
      te τ G3 fun y G4 => ∃ (c : Int) (S : Int → Bool) (m : Nat), y = .int c ∧ G4 D = some (SetO w D S m) ∧ m + 1 < scanBound ∧ After (upd G4 D (SetO w D (fun j => S j || decide (j = c)) (if S c = true then m else m + 1)))) := by
  refine ⟨fun i k G => k = n - i ∧ i ≤ n ∧ Pv i G, ⟨n, by simp, Nat.zero_le _, h0⟩, ?_⟩
  rintro i k G ⟨rfl, hi, p⟩
  by_cases lt : i < n
  · exact .inr ⟨wk.goes i G lt (hg i G p), Pv (i + 1), fun G2 p2 => ⟨n - (i + 1), by omega, rfl, lt, p2⟩, fun x G2 y => hs i x G G2 lt p (wk.yields i G x G2 lt (hg i G p) y)⟩
  · have e : i = n := by omega
    subst e
    exact .inl ⟨wk.stops G (hg i G p), hd G p⟩
end Pf
namespace Pf
open PySem PySem.Spec PyProof.Rows L2 Gk
abbrev nBrs : List Str := ["trace", "branch", "outcome"]
abbrev nOuts : List Str := ["trace", "branch", "outcome", "other"]
abbrev nAll : List Str := ["trace", "outcome", "branch"]
abbrev nTimes : List Str := ["pairs", "branch", "other", "outcome"]
/-- how many of the branches from 0 to 7 are in the set -/
def eight (S : Int → Bool) : Nat := (S 0).toNat + (S 1).toNat + (S 2).toNat + (S 3).toNat + (S 4).toNat + (S 5).toNat + (S 6).toNat + (S 7).toNat
theorem eight_le (S : Int → Bool) : eight S ≤ 8 := by
  have h : ∀ b : Bool, b.toNat ≤ 1 := fun b => by cases b <;> decide
  unfold eight
  have := h (S 0); have := h (S 1); have := h (S 2); have := h (S 3); have := h (S 4); have := h (S 5); have := h (S 6); have := h (S 7)
  omega
theorem eight_add {S : Int → Bool} {c : Int} (h0 : 0 ≤ c) (h1 : c ≤ 7) : eight (fun j => S j || decide (j = c)) = if S c = true then eight S else eight S + 1 := by
  have : c = 0 ∨ c = 1 ∨ c = 2 ∨ c = 3 ∨ c = 4 ∨ c = 5 ∨ c = 6 ∨ c = 7 := by omega
  rcases this with rfl | rfl | rfl | rfl | rfl | rfl | rfl | rfl
  · cases e : S 0 <;> simp [eight, e]; omega
  · cases e : S 1 <;> simp [eight, e]; omega
  · cases e : S 2 <;> simp [eight, e]; omega
  · cases e : S 3 <;> simp [eight, e]; omega
  · cases e : S 4 <;> simp [eight, e]; omega
  · cases e : S 5 <;> simp [eight, e]; omega
  · cases e : S 6 <;> simp [eight, e]; omega
  · cases e : S 7 <;> simp [eight, e]
/-- the outcomes of a branch -/
def outs (b : Int) (l : List (Int × Int)) : List Int := (l.filter fun x => decide (x.1 = b)).map (·.2)
theorem outs_take {b : Int} {l : List (Int × Int)} {i : Nat} {x : Int × Int} (h : l[i]? = some x) : outs b (l.take (i + 1)) = outs b (l.take i) ++ (if x.1 = b then [x.2] else []) := by
  unfold outs
  rw [List.take_add_one, h, List.filter_append, List.map_append]
  congr 1
  by_cases e : x.1 = b
  · simp [e]
  · simp [e]
theorem outs_len (b : Int) (l : List (Int × Int)) : (outs b l).length ≤ l.length := by
  unfold outs
  rw [List.length_map]
  exact List.length_filter_le _ _
theorem outs_bits {b : Int} {l : List (Int × Int)} (h : Fair l) : Bits (outs b l) := fun o ho => by
  unfold outs at ho
  obtain ⟨x, hx, rfl⟩ := List.mem_map.mp ho
  exact (h x (List.mem_filter.mp hx).1).2
theorem pd_at {K : PySem.W.Frag} {H : Hp} {xs : List V} {l : List (Int × Int)} (hA : DpAll K H xs (l.map pd)) {i : Nat} {v : V} (hv : xs[i]? = some v) : ∃ x a, l[i]? = some x ∧ v = .ref a ∧ SqT K H a [.int x.1, .int x.2] := by
  have hi : i < l.length := by
    have := (List.getElem?_eq_some_iff.mp hv).1
    rwa [lc_len hA] at this
  have g : (l.map pd)[i]? = some (pd l[i]) := by rw [List.getElem?_map, List.getElem?_eq_getElem hi]; rfl
  obtain ⟨a, rfl, s⟩ := pair_at (DpAll.at hA hv g)
  exact ⟨l[i], a, List.getElem?_eq_getElem hi, rfl, s⟩
theorem PairsAt.out {K : PySem.W.Frag} {H : Hp} {t : Addr} {l : List (Int × Int)} (h : PairsAt K H t l) : ∃ xs, SqT K H t xs ∧ DpAll K H xs (l.map pd) ∧ xs.length = l.length := by
  obtain ⟨xs, a, b, c⟩ := ItsAt.out h
  exact ⟨xs, a, b, by rw [c, List.length_map]⟩
section
variable {P : Program} {w : World} {K : PySem.W.Frag} {mg : Str → Option Value} {base : Heap}
def spBrs (K : PySem.W.Frag) : Sp := fun vs H Q _ => ∃ (t : Addr) (l : List (Int × Int)), vs = [.ref t] ∧ PairsAt K H t l ∧ Fair l ∧
  ∀ H' p (bs : List Int), Same H H' → SqT K H' p (bs.map V.int) → bs.Pairwise (· < ·) → (∀ k, k ∈ bs ↔ ∃ x ∈ l, x.1 = k) → Q (.ref p) H'
/-- the outcomes of a branch of the trace -/
def spOuts (K : PySem.W.Frag) : Sp := fun vs H Q _ => ∃ (t : Addr) (l : List (Int × Int)) (b : Int), vs = [.ref t, .int b] ∧ PairsAt K H t l ∧ Fair l ∧ l.length ≤ 64 ∧ (∃ x ∈ l, x.1 = b) ∧ ∀ H' p, Same H H' → SqT K H' p ((outs b l).map V.int) → Q (.ref p) H'
def spAll (K : PySem.W.Frag) : Sp := fun vs H Q _ => ∃ (t : Addr) (l : List (Int × Int)), vs = [.ref t] ∧ PairsAt K H t l ∧ l.length ≤ 64 ∧ ∀ H' p, Same H H' → SqT K H' p ((l.map (·.2)).map V.int) → Q (.ref p) H'
def spTimes (K : PySem.W.Frag) : Sp := fun vs H Q _ => ∃ (t : Addr) (l : List (Int × Int)) (b : Int), vs = [.ref t, .int b] ∧ PairsAt K H t l ∧ l.length ≤ 64 ∧ ∀ H', Same H H' → Q (.int (outs b l).length) H'
end
end Pf
namespace Fold
/-- a number by its digits, the lowest one first -/
def num : List Bool → Nat
  | [] => 0
  | b :: r => b.toNat + 2 * num r
/-- the digits at their places, modulo w -/
def zig (w : Nat) : Nat → List Bool → Nat
  | _, [] => 0
  | k, b :: r => (if b then 2 ^ (k % w) else 0) ^^^ zig w (k + 1) r
/-- the pieces of a number -/
def pie (w : Nat) : Nat → Nat → Nat
  | 0, _ => 0
  | f + 1, n => (n % 2 ^ w) ^^^ pie w f (n / 2 ^ w)

theorem num_lt : ∀ l : List Bool, num l < 2 ^ l.length
  | [] => by decide
  | b :: r => by
    have h := num_lt r
    have hb : b.toNat ≤ 1 := by cases b <;> decide
    rw [List.length_cons, Nat.pow_succ]
    show b.toNat + 2 * num r < _
    omega
theorem zig_app (w : Nat) : ∀ (a b : List Bool) (k : Nat), zig w k (a ++ b) = zig w k a ^^^ zig w (k + a.length) b
  | [], b, k => by simp [zig]
  | c :: a, b, k => by
    show (if c then 2 ^ (k % w) else 0) ^^^ zig w (k + 1) (a ++ b) = ((if c then 2 ^ (k % w) else 0) ^^^ zig w (k + 1) a) ^^^ zig w (k + (a.length + 1)) b
    rw [zig_app w a b (k + 1), Nat.xor_assoc, show k + 1 + a.length = k + (a.length + 1) by omega]
theorem zig_shift (w : Nat) (hw : 0 < w) : ∀ (l : List Bool) (k : Nat), zig w (k + w) l = zig w k l
  | [], _ => rfl
  | b :: r, k => by
    show (if b then 2 ^ ((k + w) % w) else 0) ^^^ zig w (k + w + 1) r = (if b then 2 ^ (k % w) else 0) ^^^ zig w (k + 1) r
    rw [Nat.add_mod_right, show k + w + 1 = (k + 1) + w by omega, zig_shift w hw r (k + 1)]
/-- few digits: the number itself -/
theorem zig_few (w : Nat) : ∀ (l : List Bool) (k : Nat), k + l.length ≤ w → zig w k l = 2 ^ k * num l
  | [], k, _ => by simp [zig, num]
  | b :: r, k, h => by
    rw [List.length_cons] at h
    have ih := zig_few w r (k + 1) (by omega)
    show (if b then 2 ^ (k % w) else 0) ^^^ zig w (k + 1) r = 2 ^ k * (b.toNat + 2 * num r)
    rw [ih, Nat.mod_eq_of_lt (show k < w by omega)]
    cases b with
    | false =>
      show 0 ^^^ 2 ^ (k + 1) * num r = 2 ^ k * (0 + 2 * num r)
      rw [Nat.zero_xor, Nat.zero_add, Nat.pow_succ, Nat.mul_assoc]
    | true =>
      show 2 ^ k ^^^ 2 ^ (k + 1) * num r = 2 ^ k * (1 + 2 * num r)
      have e1 : 2 ^ (k + 1) * num r = 2 ^ k * (2 * num r) := by rw [Nat.pow_succ, Nat.mul_assoc]
      rw [e1, Nat.mul_add, Nat.mul_one]
      apply Nat.eq_of_testBit_eq
      intro j
      have e2 : 2 ^ k + 2 ^ k * (2 * num r) = 2 ^ k * (1 + 2 * num r) + 0 := by rw [Nat.mul_add, Nat.mul_one, Nat.add_zero]
      rw [e2, Nat.testBit_xor, Nat.testBit_two_pow_mul_add _ (Nat.two_pow_pos k)]
      have e3 : 2 ^ k * (2 * num r) = 2 ^ k * (2 * num r) + 0 := (Nat.add_zero _).symm
      rw [e3, Nat.testBit_two_pow_mul_add _ (Nat.two_pow_pos k)]
      by_cases hj : j < k
      · rw [if_pos hj, if_pos hj, Nat.testBit_two_pow]
        have : ¬ k = j := by omega
        simp [this]
      · rw [if_neg hj, if_neg hj, Nat.testBit_two_pow]
        by_cases e : k = j
        · subst e
          rw [Nat.sub_self]
          simp [Nat.testBit_zero, Nat.add_mod]
        · obtain ⟨m, hm⟩ : ∃ m, j - k = m + 1 := ⟨j - k - 1, by omega⟩
          rw [hm, Nat.testBit_succ, Nat.testBit_succ]
          have a1 : (2 * num r) / 2 = num r := by omega
          have a2 : (1 + 2 * num r) / 2 = num r := by omega
          rw [a1, a2]
          simp [e]
theorem num_app : ∀ a b : List Bool, num (a ++ b) = num a + 2 ^ a.length * num b
  | [], b => by simp [num]
  | c :: a, b => by
    show c.toNat + 2 * num (a ++ b) = c.toNat + 2 * num a + 2 ^ (a.length + 1) * num b
    rw [num_app a b, Nat.pow_succ, Nat.mul_add, Nat.add_assoc, Nat.mul_comm (2 ^ a.length) 2, Nat.mul_assoc]
theorem pie_zig (w : Nat) (hw : 0 < w) : ∀ (f : Nat) (l : List Bool), l.length ≤ f → pie w f (num l) = zig w 0 l
  | 0, l, h => by
    cases l with
    | nil => rfl
    | cons b r => simp at h
  | f + 1, l, h => by
    show (num l % 2 ^ w) ^^^ pie w f (num l / 2 ^ w) = _
    by_cases hl : l.length ≤ w
    · have h1 : num l < 2 ^ w := Nat.lt_of_lt_of_le (num_lt l) (Nat.pow_le_pow_right (by decide) hl)
      rw [Nat.mod_eq_of_lt h1, Nat.div_eq_of_lt h1, zig_few w l 0 (by omega), Nat.pow_zero, Nat.one_mul]
      have := pie_zig w hw f [] (Nat.zero_le _)
      rw [show pie w f 0 = 0 from this, Nat.xor_zero]
    · have e : l = l.take w ++ l.drop w := (List.take_append_drop w l).symm
      have ht : (l.take w).length = w := by rw [List.length_take]; omega
      have hn : num l = num (l.take w) + 2 ^ w * num (l.drop w) := by
        conv => lhs; rw [e, num_app, ht]
      have h1 : num (l.take w) < 2 ^ w := by have := num_lt (l.take w); rwa [ht] at this
      have hm : num l % 2 ^ w = num (l.take w) := by rw [hn, Nat.add_mul_mod_self_left, Nat.mod_eq_of_lt h1]
      have hd : num l / 2 ^ w = num (l.drop w) := by rw [hn, Nat.add_mul_div_left _ _ (Nat.two_pow_pos w), Nat.div_eq_of_lt h1, Nat.zero_add]
      rw [hm, hd, pie_zig w hw f (l.drop w) (by rw [List.length_drop]; omega)]
      conv => rhs; rw [e, zig_app, ht, zig_shift w hw (l.drop w) 0, zig_few w (l.take w) 0 (by omega), Nat.pow_zero, Nat.one_mul]
theorem pie_zero (w : Nat) : ∀ f, pie w f 0 = 0
  | 0 => rfl
  | f + 1 => by
    show 0 % 2 ^ w ^^^ pie w f (0 / 2 ^ w) = 0
    rw [Nat.zero_mod, Nat.zero_div, pie_zero w f]
    rfl
theorem pie_lt (w : Nat) : ∀ f n, pie w f n < 2 ^ w
  | 0, _ => Nat.two_pow_pos w
  | f + 1, n => Nat.xor_lt_two_pow (Nat.mod_lt _ (Nat.two_pow_pos w)) (pie_lt w f _)
theorem zig_lt (w : Nat) (hw : 0 < w) : ∀ (l : List Bool) k, zig w k l < 2 ^ w
  | [], _ => Nat.two_pow_pos w
  | b :: r, k => Nat.xor_lt_two_pow (by
      cases b with
      | false => exact Nat.two_pow_pos w
      | true => exact Nat.pow_lt_pow_right (by decide) (Nat.mod_lt _ hw)) (zig_lt w hw r (k + 1))
/-- the sum of the powers at the places where a number below 2 ^ w has a digit 1 -/
def ones (x : Nat) : Nat → Nat
  | 0 => 0
  | w + 1 => ones x w + (if x.testBit w then 2 ^ w else 0)
theorem ones_eq (x : Nat) : ∀ w, ones x w = x % 2 ^ w
  | 0 => by simp [ones, Nat.mod_one]
  | w + 1 => by
    show ones x w + (if x.testBit w then 2 ^ w else 0) = _
    rw [ones_eq x w, Nat.mod_pow_succ, Nat.testBit_eq_decide_div_mod_eq]
    have h : x / 2 ^ w % 2 = 0 ∨ x / 2 ^ w % 2 = 1 := by omega
    rcases h with h | h <;> simp [h]
end Fold
namespace Pf
open PySem PySem.Spec PyProof.Rows L2 Gk Fold
abbrev sFold : Stmt := topS 27
abbrev sBin : Stmt := topS 31
theorem scFold : FnScope ["history", "bits", "branch", "size", "number", "cell", "piece"] ["history", "bits", "branch"] (defScope sFold) := ⟨rfl, rfl, rfl, by decide +kernel, rfl, by decide +kernel, by decide +kernel⟩
theorem scBin : FnScope ["history", "number", "digit"] ["history"] (defScope sBin) := ⟨rfl, rfl, rfl, by decide +kernel, rfl, by decide +kernel, by decide +kernel⟩
/-- a history: its digits, the oldest one first -/
def sgn (b : Bool) : Nat := if b then 49 else 48
def txt (l : List Bool) : Str := ⟨(l.map sgn).toArray⟩
theorem txt_size (l : List Bool) : (txt l).cps.size = l.length := by
  show (l.map sgn).toArray.size = _
  rw [List.size_toArray, List.length_map]
theorem txt_at {l : List Bool} {i c : Nat} (h : (txt l).cps[i]? = some c) : ∃ b, l[i]? = some b ∧ c = sgn b := by
  have h' : (l.map sgn).toArray[i]? = some c := h
  rw [List.getElem?_toArray, List.getElem?_map] at h'
  cases e : l[i]? with
  | none => rw [e] at h'; cases h'
  | some b => rw [e] at h'; exact ⟨b, rfl, (Option.some.inj h').symm⟩
theorem int_sgn (b : Bool) : PySem.intText? ⟨#[sgn b]⟩ = some ((b.toNat : Nat) : Int) := by
  cases b <;> decide +kernel
section
variable {P : Program} {w : World} {K : PySem.W.Frag} {mg : Str → Option Value} {base : Heap}
def spBin : Sp := fun vs H Q _ => ∃ l : List Bool, vs = [.str (txt l)] ∧ Q (.int ((num l.reverse : Nat) : Int)) H
theorem ok_bin {f : Addr} {fd : FuncData} (mi : mg "int" = none) (F : L2.Fun K "_binary" "_binary" sBin f fd) : FnOk P w K mg base L2.CX0 1 f fd ["history"] spBin := by
  refine F.ok scBin (fun vs H Q E h => ?_) (fun cdv A outer s H vs Q E hr h => ?_)
  · obtain ⟨l, rfl, _⟩ := h
    rfl
  · obtain ⟨l, rfl, q⟩ := h
    refine ⟨_, pss_cons (ps_set (i := 1) scBin.nd rfl (.inl rfl) pe_int)
      (pss_cons (ps_for PassesOwn.never rfl (pi_str (pv 0)) (pg_name (i := 2) scBin.nd rfl (.inl rfl))
        (pss_one (ps_set (i := 1) scBin.nd rfl (.inl rfl) (pe_op op_add (pe_op op_mul pe_int (pv 1)) (pe_callTy call_int_str (by rfl) mi (by decide +kernel) (pa_cons (pv 2) pa_nil))))))
      (pss_one (ps_ret (pv 1)))), ?_⟩
    refine ⟨_, rfl, txt l, rfl, for_it walk_str (fun i σ H' => H' = H ∧ ∃ y, σ = [some (.str (txt l)), some (.int ((num (l.take i).reverse : Nat) : Int)), y]) ⟨rfl, none, rfl⟩ (fun _ _ _ _ _ => trivial) (fun i x σ H1 H2 hi hp hy => ?_) (fun σ H1 hp => ?_)⟩
    · obtain ⟨rfl, y, rfl⟩ := hp
      obtain ⟨rfl, c, hc, rfl⟩ := hy
      obtain ⟨b, hb, rfl⟩ := txt_at hc
      refine ⟨_, rfl, _, _, rfl, rfl, .inl ⟨by decide, by decide⟩, _, rfl, ⟨#[sgn b]⟩, ((b.toNat : Nat) : Int), rfl, int_sgn b, by show 1 ≤ 640; decide, _, _, rfl, rfl, rfl, some (.str ⟨#[sgn b]⟩), ?_⟩
      rw [List.take_add_one, hb]
      show _ = [some (V.str (txt l)), some (V.int ((num (l.take i ++ [b]).reverse : Nat) : Int)), some (V.str ⟨#[sgn b]⟩)]
      rw [List.reverse_append]
      have e : num ([b].reverse ++ (l.take i).reverse) = b.toNat + 2 * num (l.take i).reverse := rfl
      rw [e]
      have e2 : 2 * ((num (l.take i).reverse : Nat) : Int) + ((b.toNat : Nat) : Int) = ((b.toNat + 2 * num (l.take i).reverse : Nat) : Int) := by omega
      rw [← e2]
      rfl
    · obtain ⟨rfl, y, rfl⟩ := hp
      rw [txt_size, List.take_length]
      exact ⟨_, rfl, q⟩
/-- what a folded history is -/
def fol (l : List Bool) (n b : Nat) : Nat := if n = 0 then 0 else (b % 2 ^ n) ^^^ zig n 0 l.reverse
def spFold : Sp := fun vs H Q _ => ∃ (l : List Bool) (n b : Nat), vs = [.str (txt l), .int (n : Int), .int (b : Int)] ∧ l.length ≤ 64 ∧ n ≤ 16 ∧ b < 8 ∧ ∀ H', Same H H' → Q (.int ((fol l n b : Nat) : Int)) H'
theorem ok_fold {f : Addr} {fd : FuncData} (D : Dfn P w K mg base 1 "_binary" ["history"] spBin) (md : mg "divmod" = none) (F : L2.Fun K "fold" "fold" sFold f fd) : FnOk P w K mg base L2.CX0 2 f fd ["history", "bits", "branch"] spFold := by
  refine F.ok scFold (fun vs H Q E h => ?_) (fun cdv A outer s H vs Q E hr h => ?_)
  · obtain ⟨l, n, b, rfl, _⟩ := h
    rfl
  · obtain ⟨l, n, b, rfl, hl, hn, hb, q⟩ := h
    refine ⟨_, pss_cons (ps_if (pt_cmpR op_lt (pv 1) pe_int (nomark _)) (pss_one (ps_ret pe_int)) pss_nil)
      (pss_cons (ps_set (i := 3) scFold.nd rfl (.inl rfl) (pe_op op_oneShl pe_int (pv 1)))
      (pss_cons (ps_set (i := 4) scFold.nd rfl (.inl rfl) (pe_d D hr (by decide) (by rfl) (pa_cons (pv 0) pa_nil)))
      (pss_cons (ps_set (i := 5) scFold.nd rfl (.inl rfl) (pe_op op_mod (pv 2) (pv 3)))
      (pss_cons (ps_while PassesOwn.never (pt_cmpR op_gt (pv 4) pe_int (nomark _))
        (pss_cons (ps_asg (pe_callB call_divmod (by rfl) md (by decide +kernel) (pa_cons (pv 4) (pa_cons (pv 3) pa_nil))) (pg_tup (by rfl) (pgs_cons (pg_name (i := 4) scFold.nd rfl (.inl rfl)) (pgs_cons (pg_name (i := 6) scFold.nd rfl (.inl rfl)) pgs_nil))))
        (pss_one (ps_set (i := 5) scFold.nd rfl (.inl rfl) (pe_op op_xor (pv 5) (pv 6))))))
      (pss_one (ps_ret (pv 5))))))), ?_⟩
    refine ⟨.int n, rfl, _, _, rfl, rfl, _, rfl, ite2 (fun e => ?_) (fun e => ?_)⟩
    · have h0 : (n : Int) < 1 := of_decide_eq_true e
      have : n = 0 := by omega
      subst this
      exact q H (Same.refl H)
    · have h1 : 0 < n := by
        have := mt decide_eq_true e
        omega
      have hp : (0 : Int) < 2 ^ n := Int.pow_pos (by decide)
      have hs : (2 : Int) ^ n ≤ 65536 := by
        have h2 := Nat.pow_le_pow_right (show 0 < 2 by decide) hn
        have h3 : (2 : Int) ^ n = ((2 ^ n : Nat) : Int) := by
          rw [Int.natCast_pow]
          rfl
        omega
      refine ⟨.int n, rfl, n, rfl, rfl, by omega, .str (txt l), rfl, l, rfl, .int b, rfl, .int (2 ^ n), rfl, _, _, rfl, rfl, hp, ?_⟩
      refine while_by (fun σ H' => Same H H' ∧ ∃ (f x c : Nat) (y : Option V), σ = [some (.str (txt l)), some (.int n), some (.int b), some (.int (2 ^ n)), some (.int (x : Int)), some (.int (c : Int)), y] ∧ x < 2 ^ f ∧ c ^^^ pie n f x = fol l n b)
        (fun σ _ => match σ[4]? with
          | some (some (V.int x)) => x.toNat
          | _ => 0) ⟨Same.refl H, 64, num l.reverse, b % 2 ^ n, none, ?_, ?_, ?_⟩ (fun σ H1 hpv => ?_) (fun σ H Q Q' hq ⟨v, h1, i, j, h2, h3, k, h4, h5⟩ => ⟨v, h1, i, j, h2, h3, k, h4, hq _ _ h5⟩)
      · have e : ((b : Int) % 2 ^ n) = ((b % 2 ^ n : Nat) : Int) := by
          rw [Int.natCast_emod, Int.natCast_pow]
          rfl
        rw [← e]
        rfl
      · have := num_lt l.reverse
        rw [List.length_reverse] at this
        exact Nat.lt_of_lt_of_le this (Nat.pow_le_pow_right (by decide) hl)
      · unfold fol
        rw [if_neg (by omega), pie_zig n h1 64 l.reverse (by rw [List.length_reverse]; exact hl)]
      · obtain ⟨sm, f, x, c, y, rfl, hx, hc⟩ := hpv
        refine ⟨.int x, rfl, _, _, rfl, rfl, _, rfl, ite2 (fun e => ?_) (fun e => ?_)⟩
        · have x0 : (0 : Int) < x := of_decide_eq_true e
          obtain ⟨f', rfl⟩ : ∃ f', f = f' + 1 := by
            cases f with
            | zero => simp at hx; omega
            | succ f' => exact ⟨f', rfl⟩
          refine ⟨.int x, rfl, .int (2 ^ n), rfl, x, 2 ^ n, rfl, ⟨hp, by omega⟩, fun p np => ⟨p, _, rfl, .inl (.inl upd_same), rfl, _, _, rfl, _, _, rfl, rfl, .int c, rfl, _, rfl, _, _, rfl, rfl, ?_⟩⟩
          have ex : ((x : Int) / 2 ^ n) = ((x / 2 ^ n : Nat) : Int) := by
            rw [Int.natCast_ediv, Int.natCast_pow]
            rfl
          have em : ((x : Int) % 2 ^ n) = ((x % 2 ^ n : Nat) : Int) := by
            rw [Int.natCast_emod, Int.natCast_pow]
            rfl
          refine ⟨⟨sm.trans (same_new np), f', x / 2 ^ n, c ^^^ (x % 2 ^ n), some (.int ((x : Int) % 2 ^ n)), ?_, ?_, ?_⟩, ?_⟩
          · have eb : Builtin.bitXor (c : Int) ((x : Int) % 2 ^ n) = ((c ^^^ (x % 2 ^ n) : Nat) : Int) := by
              rw [em, Bits.bitXor_pp (Int.natCast_nonneg _) (Int.natCast_nonneg _), Int.toNat_natCast, Int.toNat_natCast]
            show [some (V.str (txt l)), some (V.int n), some (V.int b), some (V.int (2 ^ n)), some (V.int ((x : Int) / 2 ^ n)), some (V.int (Builtin.bitXor (c : Int) ((x : Int) % 2 ^ n))), some (V.int ((x : Int) % 2 ^ n))] = _
            rw [eb, ex]
          · have h2 : 2 ≤ 2 ^ n := by
              have := Nat.pow_le_pow_right (show 0 < 2 by decide) h1
              simpa using this
            have : x / 2 ^ n ≤ x / 2 := Nat.div_le_div_left h2 (by decide)
            rw [Nat.pow_succ] at hx
            omega
          · rw [Nat.xor_assoc]
            exact hc
          · show ((x : Int) / 2 ^ n).toNat < (x : Int).toNat
            rw [ex, Int.toNat_natCast, Int.toNat_natCast]
            exact Nat.div_lt_self (by omega) (by
              have := Nat.pow_le_pow_right (show 0 < 2 by decide) h1
              simp at this
              omega)
        · have x0 : x = 0 := by
            have := mt decide_eq_true e
            omega
          subst x0
          rw [pie_zero, Nat.xor_zero] at hc
          subst hc
          exact ⟨_, rfl, q _ sm⟩
end
end Pf
namespace Pf
open PySem PySem.Spec PyProof.Rows L2 Gk Fold
/-! ### texts of digits -/
theorem txt_app (a b : List Bool) : txt a ++ txt b = txt (a ++ b) := by
  show (⟨(a.map sgn).toArray ++ (b.map sgn).toArray⟩ : Str) = ⟨((a ++ b).map sgn).toArray⟩
  rw [List.map_append]
  simp
theorem txt_length (l : List Bool) : (txt l).length = l.length := txt_size l
theorem fold_rep (l : List Nat) : ∀ (n : Nat) (acc : List Nat), (List.replicate n l.toArray).foldl (· ++ ·) acc.toArray = (acc ++ (List.replicate n l).flatten).toArray
  | 0, acc => by simp
  | n + 1, acc => by
    rw [List.replicate_succ, List.foldl_cons, show acc.toArray ++ l.toArray = (acc ++ l).toArray by simp, fold_rep l n, List.replicate_succ, List.flatten_cons, List.append_assoc]
theorem txt_mul (l : List Bool) (n : Nat) : Txt.mul (txt l) (n : Int) = txt (List.replicate n l).flatten := by
  unfold Txt.mul
  by_cases h0 : (n : Int) < 1
  · have : n = 0 := by omega
    subst this
    rw [if_pos h0]
    rfl
  · rw [if_neg h0]
    by_cases h1 : n = 1
    · subst h1
      rw [if_pos (by simp)]
      simp
    · by_cases h2 : l = []
      · subst h2
        rw [if_pos (by rw [txt_length]; simp)]
        have : (List.replicate n ([] : List Bool)).flatten = [] := by
          rw [List.flatten_eq_nil_iff]
          intro x hx
          exact (List.mem_replicate.mp hx).2
        rw [this]
      · have h3 : ¬ (((n : Int) == 1 || (txt l).length == 0) = true) := by
          rw [txt_length]
          simp only [Bool.or_eq_true, beq_iff_eq, not_or]
          exact ⟨by omega, fun z => h2 (List.length_eq_zero_iff.mp z)⟩
        rw [if_neg h3]
        have := fold_rep (l.map sgn) n []
        show (⟨(List.replicate (n : Int).toNat (l.map sgn).toArray).foldl (· ++ ·) #[]⟩ : Str) = _
        rw [Int.toNat_natCast]
        refine congrArg Str.mk (this.trans ?_)
        rw [List.nil_append]
        congr 1
        rw [List.map_flatten, List.map_replicate]
theorem mulOk_txt {l : List Bool} {n : Nat} (hl : l.length ≤ 100) (hn : n ≤ 1000) : MulOk (txt l) (n : Int) := by
  refine ⟨by simp; omega, fun h0 _ => ?_, fun _ _ => ?_⟩
  · rw [txt_length]
    have h1 : (0 : Int) < n := by omega
    have : (1000 : Int) ≤ (2 ^ 63 - 1) / n := by
      refine Int.le_ediv_of_mul_le h1 ?_
      omega
    omega
  · rw [txt_length]
    show decide (_ > sizeLine) = false
    refine decide_eq_false ?_
    rw [sizeLine_eq, Int.toNat_natCast]
    have := Nat.mul_le_mul hl hn
    omega
theorem txt_cut (l : List Bool) (a b : Nat) (h : a ≤ b) (hb : b ≤ l.length) : cutS (txt l) (some (a : Int)) (some (b : Int)) = txt ((l.drop a).take (b - a)) := by
  unfold cutS
  rw [HT.sIx_nat, HT.sIx_nat, txt_length, Nat.min_eq_left (show a ≤ l.length by omega), Nat.min_eq_left (show b ≤ l.length from hb)]
  show (⟨((((l.map sgn).toArray).toList.drop a).take (b - a)).toArray⟩ : Str) = ⟨(((l.drop a).take (b - a)).map sgn).toArray⟩
  rw [List.map_take, List.map_drop]
theorem glue_txt : ∀ (bs acc : List Bool), (bs.map fun b => txt [b]).foldl (fun (z : Array Nat) (p : Str) => z ++ (Str.empty).cps ++ p.cps) (txt acc).cps = (txt (acc ++ bs)).cps
  | [], acc => by simp
  | b :: bs, acc => by
    rw [List.map_cons, List.foldl_cons]
    have : (txt acc).cps ++ (Str.empty).cps ++ (txt [b]).cps = (txt (acc ++ [b])).cps := by
      have := congrArg Str.cps (txt_app acc [b])
      rw [← this]
      show (txt acc).cps ++ #[] ++ (txt [b]).cps = (txt acc).cps ++ (txt [b]).cps
      simp
    rw [this, glue_txt bs (acc ++ [b]), List.append_assoc]
    rfl
theorem join_txt (bs : List Bool) : Txt.join ("" : Str) (bs.map fun b => txt [b]) = txt bs := by
  show Builtin.Str.glued ("" : Str) (bs.map fun b => txt [b]) = _
  unfold Builtin.Str.glued
  cases bs with
  | nil => rfl
  | cons b bs =>
    have := glue_txt bs [b]
    exact congrArg Str.mk this
theorem str_bit (b : Bool) : (Str.ofString (toString (if b then (1 : Int) else 0))) = txt [b] := by cases b <;> decide +kernel
theorem int_at {os : List Int} {i : Nat} {x : V} (hx : (os.map V.int)[i]? = some x) : ∃ o, os[i]? = some o ∧ x = .int o := by
  rw [List.getElem?_map] at hx
  cases e : os[i]? with
  | none => rw [e] at hx; cases hx
  | some o =>
    rw [e] at hx
    exact ⟨o, rfl, (Option.some.inj hx).symm⟩
/-- outcomes as digits -/
def bo (os : List Int) : List Bool := os.map fun o => decide (o = 1)
theorem bo_len (os : List Int) : (bo os).length = os.length := List.length_map ..
/-- so many digits from a place on, round and round -/
def run (bs : List Bool) (a k : Nat) : List Bool := (List.range k).map fun j => bs.getD ((a + j) % bs.length) false
/-- the last digits of so many that passed, zeros ahead -/
def past (bs : List Bool) (p L : Nat) : List Bool := List.replicate (L - min p L) false ++ run bs (p - min p L) (min p L)
theorem run_len (bs : List Bool) (a k : Nat) : (run bs a k).length = k := by
  unfold run
  rw [List.length_map, List.length_range]
theorem past_len (bs : List Bool) (p L : Nat) : (past bs p L).length = L := by
  unfold past
  rw [List.length_append, List.length_replicate, run_len]
  omega
theorem rep_at {α : Type} (l : List α) (h : 0 < l.length) : ∀ (m i : Nat), i < m * l.length → ((List.replicate m l).flatten)[i]? = l[i % l.length]?
  | 0, i, hi => by simp at hi
  | m + 1, i, hi => by
    rw [List.replicate_succ, List.flatten_cons]
    by_cases g : i < l.length
    · rw [List.getElem?_append_left g, Nat.mod_eq_of_lt g]
    · rw [List.getElem?_append_right (by omega), rep_at l h m (i - l.length) (by rw [Nat.succ_mul] at hi; omega)]
      congr 1
      exact (Nat.mod_eq_sub_mod (by omega)).symm
theorem run_cut {bs : List Bool} (h : 0 < bs.length) (a k m : Nat) (hm : a % bs.length + k ≤ m * bs.length) : (((List.replicate m bs).flatten).drop (a % bs.length)).take k = run bs a k := by
  refine List.ext_getElem? fun i => ?_
  by_cases hi : i < k
  · rw [List.getElem?_take_of_lt hi, List.getElem?_drop, rep_at bs h m _ (by omega)]
    unfold run
    rw [List.getElem?_map, List.getElem?_range hi]
    have hlt : (a + i) % bs.length < bs.length := Nat.mod_lt _ h
    have e : (a % bs.length + i) % bs.length = (a + i) % bs.length := by rw [Nat.mod_add_mod]
    rw [e, List.getElem?_eq_getElem hlt]
    show _ = some (bs.getD ((a + i) % bs.length) false)
    rw [List.getD_eq_getElem?_getD, List.getElem?_eq_getElem hlt]
    rfl
  · rw [List.getElem?_eq_none (by rw [List.length_take]; omega), List.getElem?_eq_none (by rw [run_len]; omega)]
theorem rep_length (n : Nat) (l : List Bool) : ((List.replicate n l).flatten).length = n * l.length := by
  induction n with
  | zero => simp
  | succ n ih => rw [List.replicate_succ, List.flatten_cons, List.length_append, ih, Nat.succ_mul, Nat.add_comm]
theorem enough (n k a : Nat) (h : 0 < n) : a % n + k ≤ (k / n + 2) * n := by
  have h1 := Nat.div_add_mod k n
  have h2 := Nat.mod_lt k h
  have h3 := Nat.mod_lt a h
  rw [Nat.add_mul, Nat.mul_comm (k / n) n]
  omega
abbrev nNew : List Str := ["outcomes", "passed", "length", "known", "start", "outcome", "digits", "enough"]
section
variable {P : Program} {w : World} {K : PySem.W.Frag} {mg : Str → Option Value} {base : Heap}
def spNew (K : PySem.W.Frag) : Sp := fun vs H Q _ => ∃ (t : Addr) (os : List Int) (p L : Nat), vs = [.ref t, .int (p : Int), .int (L : Int)] ∧ SqT K H t (os.map V.int) ∧ Bits os ∧ 1 ≤ os.length ∧ os.length ≤ 64 ∧ L ≤ 65 ∧ ∀ H', Same H H' → Q (.str (txt (past (bo os) p L))) H'
end
end Pf
namespace Pf
open PySem PySem.Spec PyProof.Rows L2 Gk
abbrev sPlan : Stmt := topS 47
abbrev nPlan : List Str := ["_law_box_here", "_law_most", "_law_size", "_law_kind"]
theorem scPlan : FnScope nPlan ["_law_box_here", "_law_most"] (defScope sPlan) := ⟨rfl, rfl, rfl, by decide +kernel, rfl, by decide +kernel, by decide +kernel⟩
/-- a scheme: its word, its length, its bits -/
def planV (w : Str) (z : Int) : Option Int → List V
  | none => [.str w, .int z]
  | some t => [.str w, .int z, .int t]
def PlanOk (w : Str) (z : Int) (x : Option Int) : Prop := 0 ≤ z ∧ z ≤ 64 ∧ ((w = "folded" ∧ ∃ t, x = some t ∧ 0 ≤ t ∧ t ≤ 16) ∨ ((w = "own" ∨ w = "split" ∨ w = "shared") ∧ x = none))
section
variable {P : Program} {w : World} {K : PySem.W.Frag} {mg : Str → Option Value} {base : Heap}
def spPlan (K : PySem.W.Frag) : Sp := fun vs H Q _ => ∃ (b : Addr) (most : Int) (m : Nat), vs = [.ref b, .int most] ∧ 0 ≤ most ∧ most ≤ 64 ∧ Box m H b ∧ m ≤ 990000 ∧
  ∀ H' p w z x, But b H H' → Box (m + 10) H' b → p ≠ b → H p = none → H' p = some (.tup (planV w z x)) → PlanOk w z x → Q (.ref p) H'
theorem ok_plan {f : Addr} {fd : FuncData} (DT : Dfn P w K mg base 1 "_law_take" ["_law_box_here", "_law_many"] spTake) (DO : Dfn P w K mg base 2 "_law_of" ["_law_box_here", "_law_some"] (spOf K)) (mn : mg "min" = none)
    (F : L2.Fun K "_law_plan" "_law_plan" sPlan f fd) : FnOk P w K mg base L2.CX0 3 f fd ["_law_box_here", "_law_most"] (spPlan K) := by
  refine F.ok scPlan (fun vs H Q E h => ?_) (fun cdv A outer s H vs Q E hr h => ?_)
  · obtain ⟨b, most, m, rfl, _⟩ := h
    rfl
  · obtain ⟨b, most, m, rfl, m0, m1, hb, hm, q⟩ := h
    refine ⟨_, C8.pss_cut (ps_set (i := 2) scPlan.nd rfl (.inl rfl) (pe_d DO hr (by decide) (by rfl) (pa_cons (pv 0) (pa_cons (pe_lst (pa_cons (pe_d DT hr (by decide) (by rfl) (pa_cons (pv 0) (pa_cons pe_int pa_nil))) (pa_cons (pe_d DT hr (by decide) (by rfl) (pa_cons (pv 0) (pa_cons (pe_op op_add (pv 1) pe_int) pa_nil)))
          (pa_cons (pe_callB (call_min2 rfl) (by rfl) mn (by decide +kernel) (pa_cons pe_int (pa_cons (pv 1) pa_nil))) pa_nil)))) pa_nil))))
      (C8.pss_cut (ps_set (i := 3) scPlan.nd rfl (.inl rfl) (pe_d DO hr (by decide) (by rfl) (pa_cons (pv 0) (pa_cons (pe_lst (pa_cons pe_str (pa_cons pe_str (pa_cons pe_str (pa_cons pe_str (pa_cons pe_str pa_nil)))))) pa_nil))))
      (pss_one (ps_ret (pe_ifExp (pt_cmpR op_eq (pv 3) pe_str (nomark _)) (pe_tup (pa_cons (pv 3) (pa_cons (pv 2) (pa_cons (pe_d DT hr (by decide) (by rfl) (pa_cons (pv 0) (pa_cons pe_int pa_nil))) pa_nil)))) (pe_tup (pa_cons (pv 3) (pa_cons (pv 2) pa_nil))))))), ?_⟩
    refine ⟨fun σ H' => ∃ z : Int, σ = [some (.ref b), some (.int most), some (.int z), none] ∧ 0 ≤ z ∧ z ≤ 64 ∧ But b H H' ∧ Box (m + 3) H' b, ?_, fun σ H1 hM => ?_⟩
    · refine ⟨.ref b, rfl, .ref b, rfl, b, 4, m, rfl, by decide, by decide, hb, by omega, fun d1 H1 a1 a2 bt1 bx1 sm1 => ⟨.ref b, rfl, .int most, rfl, _, _, rfl, rfl, b, most + 1, m + 1, rfl, by omega, by omega, bx1, by omega, fun d2 H2 c1 c2 bt2 bx2 sm2 => ⟨.int most, rfl, _, _, rfl, by show 3 ≤ sizeLine; decide, fun p np => ?_⟩⟩⟩
      have bx3 := bx2.same (same_new (o := .lst [.int d1, .int d2, .int (if most < 2 then most else 2)]) np)
      refine ⟨b, p, _, m + 1 + 1, rfl, SqL.of upd_same, (bx2.ne np).symm, by show 0 < 3; decide, by show 3 ≤ 1000; decide, bx3, by omega, fun i v H4 g bt4 bx4 sm4 => ?_⟩
      have btE : But b H H4 := ((bt1.trans bt2).trans (But.new np)).trans bt4
      match i, g with
      | 0, g => exact ⟨d1, by rw [← Option.some.inj g]; rfl, a1, by omega, btE, bx4⟩
      | 1, g => exact ⟨d2, by rw [← Option.some.inj g]; rfl, c1, by omega, btE, bx4⟩
      | 2, g => exact ⟨_, by rw [← Option.some.inj g]; rfl, by split <;> omega, by split <;> omega, btE, bx4⟩
    · obtain ⟨z, rfl, z0, z1, bt1, bx1⟩ := hM
      refine ⟨fun σ H' => ∃ k : Str, σ = [some (.ref b), some (.int most), some (.int z), some (.str k)] ∧ (k = "folded" ∨ (k = "own" ∨ k = "split" ∨ k = "shared")) ∧ But b H H' ∧ Box (m + 4) H' b, ?_, fun σ H2 hM => ?_⟩
      · refine ⟨.ref b, rfl, by show 5 ≤ sizeLine; decide, fun p np => ?_⟩
        have bx3 := bx1.same (same_new (o := .lst [.str "own", .str "split", .str "shared", .str "shared", .str "folded"]) np)
        refine ⟨b, p, _, m + 3, rfl, SqL.of upd_same, (bx1.ne np).symm, by show 0 < 5; decide, by show 5 ≤ 1000; decide, bx3, by omega, fun i v H4 g bt4 bx4 sm4 => ?_⟩
        have btE : But b H H4 := (bt1.trans (But.new np)).trans bt4
        match i, g with
        | 0, g => exact ⟨"own", by rw [← Option.some.inj g]; rfl, .inr (.inl rfl), btE, bx4⟩
        | 1, g => exact ⟨"split", by rw [← Option.some.inj g]; rfl, .inr (.inr (.inl rfl)), btE, bx4⟩
        | 2, g => exact ⟨"shared", by rw [← Option.some.inj g]; rfl, .inr (.inr (.inr rfl)), btE, bx4⟩
        | 3, g => exact ⟨"shared", by rw [← Option.some.inj g]; rfl, .inr (.inr (.inr rfl)), btE, bx4⟩
        | 4, g => exact ⟨"folded", by rw [← Option.some.inj g]; rfl, .inl rfl, btE, bx4⟩
      · obtain ⟨k, rfl, hk, bt2, bx2⟩ := hM
        have gone : ∀ {H3 : Hp} {p : Addr}, But b H H3 → Box (m + 10) H3 b → H3 p = none → H p = none := fun {H3 p} bt bx np => by
          cases e : H p with
          | none => rfl
          | some o =>
            have := bt p o (bx.ne np).symm e
            rw [np] at this
            cases this
        refine ⟨.str k, rfl, rfl, _, rfl, ite2 (fun e => ?_) (fun e => ?_)⟩
        · have e1 : V.str k = V.str "folded" := of_decide_eq_true e
          injection e1 with e2
          refine ⟨.str k, rfl, .int z, rfl, .ref b, rfl, b, 17, m + 4, rfl, by decide, by decide, bx2, by omega, fun t H3 t0 t1 bt3 bx3 sm3 => ⟨by show 3 ≤ sizeLine; decide, fun p np => ?_⟩⟩
          have bxu : Box (m + 10) H3 b := bx3.up (by omega)
          exact q _ p k z (some t) ((bt2.trans bt3).trans (But.new np)) (bxu.same (same_new np)) (bxu.ne np).symm (gone (bt2.trans bt3) bxu np) upd_same ⟨z0, z1, .inl ⟨e2, t, rfl, t0, by omega⟩⟩
        · have ne : k ≠ "folded" := fun h => e (decide_eq_true (by rw [h]))
          refine ⟨.str k, rfl, .int z, rfl, by show 2 ≤ sizeLine; decide, fun p np => ?_⟩
          have bxu : Box (m + 10) H2 b := bx2.up (by omega)
          exact q _ p k z none (bt2.trans (But.new np)) (bxu.same (same_new np)) (bxu.ne np).symm (gone bt2 bxu np) upd_same ⟨z0, z1, .inr ⟨hk.elim (fun h => absurd h ne) id, rfl⟩⟩
end
end Pf
namespace Pf
open PySem PySem.Spec PyProof.Rows L2 Gk Fold
/-! ### histories and cells -/
def brAt (l : List (Int × Int)) (m : Nat) : Int := (l.getD (m % l.length) (0, 0)).1
def hOs (l : List (Int × Int)) (w : Str) (m : Nat) : List Int := if w = "own" then outs (brAt l m) l else l.map (·.2)
def hN (l : List (Int × Int)) (w : Str) (m : Nat) : Nat := if w = "own" then m / l.length * (outs (brAt l m) l).length + (outs (brAt l m) (l.take (m % l.length))).length else m
def hist (l : List (Int × Int)) (w : Str) (m L : Nat) : List Bool := past (bo (hOs l w m)) (hN l w m) L
def cellD (w : Str) (x : Option Int) (b : Nat) (h : List Bool) : PyData := if w = "folded" then .int ((fol h (x.getD 0).toNat b : Nat) : Int) else if w = "shared" then .str (txt h) else .tuple [.int (b : Int), .str (txt h)]
theorem hist_len (l : List (Int × Int)) (w : Str) (m L : Nat) : (hist l w m L).length = L := past_len _ _ _
theorem at_mod {l : List (Int × Int)} (h : 1 ≤ l.length) (m : Nat) : l[m % l.length]? = some (l.getD (m % l.length) (0, 0)) := by
  have : m % l.length < l.length := Nat.mod_lt _ h
  rw [List.getD_eq_getElem?_getD, List.getElem?_eq_getElem this]
  rfl
theorem brAt_in {l : List (Int × Int)} (h : 1 ≤ l.length) (m : Nat) : ∃ x ∈ l, x.1 = brAt l m := ⟨_, List.mem_of_getElem? (at_mod h m), rfl⟩
theorem outs_pos {l : List (Int × Int)} {b : Int} (h : ∃ x ∈ l, x.1 = b) : 1 ≤ (outs b l).length := by
  obtain ⟨x, hx, e⟩ := h
  unfold outs
  rw [List.length_map]
  exact List.length_pos_of_mem (List.mem_filter.mpr ⟨hx, decide_eq_true e⟩)
theorem hOs_ok {l : List (Int × Int)} (fair : Fair l) (h : 1 ≤ l.length) (h2 : l.length ≤ 64) (w : Str) (m : Nat) : Bits (hOs l w m) ∧ 1 ≤ (hOs l w m).length ∧ (hOs l w m).length ≤ 64 := by
  unfold hOs
  split
  · have := outs_len (brAt l m) l
    exact ⟨outs_bits fair, outs_pos (brAt_in h m), by omega⟩
  · refine ⟨fun o ho => ?_, by rw [List.length_map]; exact h, by rw [List.length_map]; exact h2⟩
    obtain ⟨x, hx, rfl⟩ := List.mem_map.mp ho
    exact (fair x hx).2
theorem planV0 (w : Str) (z : Int) (x : Option Int) : atI (planV w z x) 0 = some (.str w) := by cases x <;> rfl
theorem planV1 (w : Str) (z : Int) (x : Option Int) : atI (planV w z x) 1 = some (.int z) := by cases x <;> rfl
abbrev sCellOf : Stmt := topS 28
abbrev nHist : List Str := ["trace", "scheme", "moment", "rounds", "position", "branch", "outcomes", "passed"]
abbrev nCellAt : List Str := ["trace", "scheme", "moment", "branch"]
theorem scCellOf : FnScope ["scheme", "branch", "history"] ["scheme", "branch", "history"] (defScope sCellOf) := ⟨rfl, rfl, rfl, by decide +kernel, rfl, by decide +kernel, by decide +kernel⟩
section
variable {P : Program} {w : World} {K : PySem.W.Frag} {mg : Str → Option Value} {base : Heap}
def spHist (K : PySem.W.Frag) : Sp := fun vs H Q _ => ∃ (t c : Addr) (l : List (Int × Int)) (k : Str) (z : Int) (x : Option Int) (m : Nat), vs = [.ref t, .ref c, .int (m : Int)] ∧ PairsAt K H t l ∧ Fair l ∧ 1 ≤ l.length ∧ l.length ≤ 64 ∧ SqT K H c (planV k z x) ∧ 0 ≤ z ∧ z ≤ 65 ∧ m ≤ 10 ^ 19 ∧
  ∀ H', Same H H' → Q (.str (txt (hist l k m z.toNat))) H'
def spCell (K : PySem.W.Frag) : Sp := fun vs H Q _ => ∃ (c : Addr) (k : Str) (z : Int) (x : Option Int) (b : Nat) (h : List Bool), vs = [.ref c, .int (b : Int), .str (txt h)] ∧ SqT K H c (planV k z x) ∧ PlanOk k z x ∧ b < 8 ∧ h.length ≤ 64 ∧ ∀ H' v, Same H H' → Dp K H' v (cellD k x b h) → Q v H'
theorem ok_cell {f : Addr} {fd : FuncData} (DF : Dfn P w K mg base 2 "fold" ["history", "bits", "branch"] spFold) (F : L2.Fun K "cell_of" "cell_of" sCellOf f fd) : FnOk P w K mg base L2.CX0 3 f fd ["scheme", "branch", "history"] (spCell K) := by
  refine F.ok scCellOf (fun vs H Q E h => ?_) (fun cdv A outer s H vs Q E hr h => ?_)
  · obtain ⟨c, k, z, x, b, h, rfl, _⟩ := h
    rfl
  · obtain ⟨c, k, z, x, b, h, rfl, hc, ok, hb, hh, q⟩ := h
    refine ⟨_, pss_cons (ps_if (pt_cmpR op_eq (pe_ix ix_tup (pv 0) pe_int (fun _ _ => rfl)) pe_str (nomark _)) (pss_one (ps_ret (pe_d DF hr (by decide) (by rfl) (pa_cons (pv 2) (pa_cons (pe_ix ix_tup (pv 0) pe_int (fun _ _ => rfl)) (pa_cons (pv 1) pa_nil)))))) pss_nil)
      (pss_cons (ps_if (pt_cmpR op_eq (pe_ix ix_tup (pv 0) pe_int (fun _ _ => rfl)) pe_str (nomark _)) (pss_one (ps_ret (pv 2))) pss_nil)
      (pss_one (ps_ret (pe_tup (pa_cons (pv 1) (pa_cons (pv 2) pa_nil)))))), ?_⟩
    refine ⟨.ref c, rfl, c, _, 0, .str k, rfl, rfl, hc, planV0 _ _ _, rfl, _, rfl, ite2 (fun e => ?_) (fun e => ?_)⟩
    · have e1 : V.str k = V.str "folded" := of_decide_eq_true e
      injection e1 with e1
      obtain ⟨_, _, ⟨_, t, rfl, t0, t1⟩ | ⟨h2, _⟩⟩ := ok
      · refine ⟨.str (txt h), rfl, .ref c, rfl, c, _, 2, .int t, rfl, rfl, hc, rfl, .int b, rfl, h, t.toNat, b, ?_, hh, by omega, hb, fun H' s' => q H' _ s' ?_⟩
        · rw [Int.toNat_of_nonneg t0]
          rfl
        · unfold cellD
          rw [if_pos e1]
          exact .int _
      · rw [e1] at h2
        exact absurd h2 (by decide +kernel)
    · have ne : k ≠ "folded" := fun z => e (decide_eq_true (by rw [z]))
      refine ⟨.ref c, rfl, c, _, 0, .str k, rfl, rfl, hc, planV0 _ _ _, rfl, _, rfl, ite2 (fun g => ?_) (fun g => ?_)⟩
      · have g1 : V.str k = V.str "shared" := of_decide_eq_true g
        injection g1 with g1
        refine ⟨.str (txt h), rfl, q H _ (Same.refl H) ?_⟩
        unfold cellD
        rw [if_neg ne, if_pos g1]
        exact .str _
      · have ng : k ≠ "shared" := fun z => g (decide_eq_true (by rw [z]))
        refine ⟨.int b, rfl, .str (txt h), rfl, by show 2 ≤ sizeLine; decide, fun p np => q _ _ (same_new np) ?_⟩
        unfold cellD
        rw [if_neg ne, if_neg ng]
        exact .tup (.inl (.inl upd_same)) (.cons (.int _) (.cons (.str _) .nil))
def cellA (l : List (Int × Int)) (k : Str) (z : Int) (x : Option Int) (m : Nat) : PyData := cellD k x (brAt l m).toNat (hist l k m z.toNat)
def spCellAt (K : PySem.W.Frag) : Sp := fun vs H Q _ => ∃ (t c : Addr) (l : List (Int × Int)) (k : Str) (z : Int) (x : Option Int) (m : Nat), vs = [.ref t, .ref c, .int (m : Int)] ∧ PairsAt K H t l ∧ Fair l ∧ 1 ≤ l.length ∧ l.length ≤ 64 ∧ SqT K H c (planV k z x) ∧ PlanOk k z x ∧ m ≤ 10 ^ 19 ∧
  ∀ H' v, Same H H' → Dp K H' v (cellA l k z x m) → Q v H'
end
end Pf
namespace Pf
open PySem PySem.Spec PyProof.Rows L2 Gk Fold
theorem pt_mid {X : Cx} {e : Expr} {t : TT} (h : PT X e t) : PT X e (tMidT t) :=
  ⟨fun pins s σ H Q I ⟨M, h1, h2⟩ => thn (h.run pins s σ H M I h1) fun u s1 ⟨H1, I1, q⟩ => ⟨H1, I1, h2 u H1 q⟩⟩
/-! ### backward from a moment -/
/-- how many outcomes that count came ahead of a moment -/
def cj (l : List (Int × Int)) (k : Str) (b : Int) (j : Nat) : Nat := if k = "own" then j / l.length * (outs b l).length + (outs b (l.take (j % l.length))).length else j
/-- whether the outcome of a moment counts -/
def counts (l : List (Int × Int)) (k : Str) (b : Int) (j : Nat) : Prop := k ≠ "own" ∨ brAt l j = b
theorem cj_zero (l : List (Int × Int)) (k : Str) (b : Int) : cj l k b 0 = 0 := by
  unfold cj
  split
  · simp [outs]
  · rfl
theorem cj_step {l : List (Int × Int)} (h : 1 ≤ l.length) (k : Str) (b : Int) (j : Nat) [Decidable (counts l k b j)] : cj l k b (j + 1) = cj l k b j + (if counts l k b j then 1 else 0) := by
  by_cases e : k = "own"
  · unfold cj
    rw [if_pos e, if_pos e]
    have hj := at_mod h j
    have ot := outs_take (b := b) hj
    have one : (outs b (l.take (j % l.length + 1))).length = (outs b (l.take (j % l.length))).length + (if counts l k b j then 1 else 0) := by
      rw [ot, List.length_append]
      congr 1
      by_cases g : brAt l j = b
      · rw [if_pos (show counts l k b j from .inr g), if_pos (show (l.getD (j % l.length) (0, 0)).1 = b from g)]
        rfl
      · rw [if_neg (fun z : counts l k b j => z.elim (fun z => z e) g), if_neg (show ¬ (l.getD (j % l.length) (0, 0)).1 = b from g)]
        rfl
    have lt : j % l.length < l.length := Nat.mod_lt _ h
    by_cases g : j % l.length + 1 < l.length
    · have em : (j + 1) % l.length = j % l.length + 1 := by
        rw [Nat.add_mod, Nat.mod_eq_of_lt (show 1 < l.length by omega), Nat.mod_eq_of_lt g]
      have ed : (j + 1) / l.length = j / l.length := by
        have h1 := Nat.div_add_mod (j + 1) l.length
        have h2 := Nat.div_add_mod j l.length
        rw [em] at h1
        have h3 : l.length * ((j + 1) / l.length) = l.length * (j / l.length) := by omega
        exact Nat.eq_of_mul_eq_mul_left h h3
      rw [em, ed, one]
      omega
    · have g2 : j % l.length + 1 = l.length := by omega
      have h2 := Nat.div_add_mod j l.length
      have ej : j + 1 = l.length * (j / l.length + 1) := by rw [Nat.mul_add]; omega
      have em : (j + 1) % l.length = 0 := by rw [ej, Nat.mul_mod_right]
      have ed : (j + 1) / l.length = j / l.length + 1 := by rw [ej, Nat.mul_div_cancel_left _ h]
      rw [em, ed]
      rw [g2, List.take_length] at one
      rw [List.take_zero, show (outs b ([] : List (Int × Int))).length = 0 from rfl, Nat.add_mul, one]
      omega
  · unfold cj
    rw [if_neg e, if_neg e, if_pos (show counts l k b j from .inl e)]
theorem outs_at {b : Int} {l : List (Int × Int)} {i : Nat} {x : Int × Int} (h : l[i]? = some x) (e : x.1 = b) : (outs b l)[(outs b (l.take i)).length]? = some x.2 := by
  have hi : i < l.length := (List.getElem?_eq_some_iff.mp h).1
  have sp : l = l.take (i + 1) ++ l.drop (i + 1) := (List.take_append_drop _ _).symm
  have os : outs b l = outs b (l.take (i + 1)) ++ outs b (l.drop (i + 1)) := by
    conv => lhs; rw [sp]
    unfold outs
    rw [List.filter_append, List.map_append]
  rw [os, outs_take h, if_pos e, List.append_assoc, List.getElem?_append_right (Nat.le_refl _), Nat.sub_self]
  rfl
/-- the digits that are gone round -/
def hB (l : List (Int × Int)) (k : Str) (b : Int) : List Bool := bo (if k = "own" then outs b l else l.map (·.2))
theorem cj_dig {l : List (Int × Int)} (h : 1 ≤ l.length) {k : Str} {b : Int} {j : Nat} (c : counts l k b j) : (hB l k b).getD (cj l k b j % (hB l k b).length) false = decide ((l.getD (j % l.length) (0, 0)).2 = 1) := by
  have hj := at_mod h j
  have lt : j % l.length < l.length := Nat.mod_lt _ h
  unfold hB
  rw [bo_len]
  by_cases e : k = "own"
  · rw [if_pos e]
    have eb : brAt l j = b := c.resolve_left fun z => z e
    have oa := outs_at hj eb
    have lq : (outs b (l.take (j % l.length))).length < (outs b l).length := (List.getElem?_eq_some_iff.mp oa).1
    have ec : cj l k b j % (outs b l).length = (outs b (l.take (j % l.length))).length := by
      unfold cj
      rw [if_pos e, Nat.mul_comm, Nat.mul_add_mod, Nat.mod_eq_of_lt lq]
    rw [ec, List.getD_eq_getElem?_getD]
    unfold bo
    rw [List.getElem?_map, oa]
    rfl
  · rw [if_neg e, List.length_map]
    have ec : cj l k b j = j := by
      unfold cj
      rw [if_neg e]
    rw [ec, List.getD_eq_getElem?_getD]
    unfold bo
    rw [List.getElem?_map, List.getElem?_map, hj]
    rfl
theorem run_succ (bs : List Bool) (a k : Nat) : run bs a (k + 1) = bs.getD (a % bs.length) false :: run bs (a + 1) k := by
  unfold run
  rw [List.range_succ_eq_map, List.map_cons, List.map_map]
  congr 1
  refine List.map_congr_left fun j _ => ?_
  show bs.getD ((a + (j + 1)) % bs.length) false = _
  rw [show a + (j + 1) = a + 1 + j by omega]
theorem hist_cj (l : List (Int × Int)) (k : Str) (m L : Nat) : hist l k m L = past (hB l k (brAt l m)) (cj l k (brAt l m) m) L := rfl
end Pf
namespace Pf
open PySem PySem.Spec PyProof.Rows L2 Gk Fold
/-! ### what is shown of histories, cells and schemes -/
theorem tame_txt (h : List Bool) : Gk.tame (.str (txt h)) = true := by
  show (txt h).cps.all (· < 0x110000) = true
  rw [Array.all_eq_true]
  intro i hi
  obtain ⟨b, _, e⟩ := txt_at (l := h) (i := i) (Array.getElem?_eq_getElem hi)
  rw [e]
  cases b <;> decide
theorem cost_txt (h : List Bool) : cost (.str (txt h)) = h.length + 1 := by
  show (txt h).cps.size + 1 = _
  rw [txt_size]
/-- the data of a scheme -/
def planD (w : Str) (z : Int) : Option Int → PyData
  | none => .tuple [.str w, .int z]
  | some t => .tuple [.str w, .int z, .int t]
theorem plan_dp {K : PySem.W.Frag} {H : Hp} {p : Addr} {w : Str} {z : Int} : ∀ {x : Option Int}, SqT K H p (planV w z x) → Dp K H (.ref p) (planD w z x)
  | none, h => .tup h (.cons (.str w) (.cons (.int z) .nil))
  | some t, h => .tup h (.cons (.str w) (.cons (.int z) (.cons (.int t) .nil)))
theorem word_ok {w : Str} (h : w = "folded" ∨ w = "own" ∨ w = "split" ∨ w = "shared") : w.cps.all (· < 0x110000) = true ∧ w.cps.size ≤ 6 := by
  rcases h with rfl | rfl | rfl | rfl <;> decide +kernel
theorem plan_tame {w : Str} {z : Int} {x : Option Int} (h : PlanOk w z x) : Gk.tame (planD w z x) = true ∧ cost (planD w z x) ≤ 300 ∧ (planD w z x).depth ≤ 2 := by
  obtain ⟨z0, z1, h⟩ := h
  rcases h with ⟨hw, t, rfl, t0, t1⟩ | ⟨hw, rfl⟩
  · obtain ⟨a, b⟩ := word_ok (.inl hw)
    refine ⟨?_, ?_, ?_⟩
    · simp only [planD, Gk.tame, tameAll, a, Bool.true_and, Bool.and_true, Bool.and_eq_true, decide_eq_true_eq]
      omega
    · simp only [planD, Gk.cost, costAll]
      omega
    · simp only [planD, PyData.depth, PyData.depthAll]
      omega
  · obtain ⟨a, b⟩ := word_ok (.inr hw)
    refine ⟨?_, ?_, ?_⟩
    · simp only [planD, Gk.tame, tameAll, a, Bool.true_and, Bool.and_true, Bool.and_eq_true, decide_eq_true_eq]
      omega
    · simp only [planD, Gk.cost, costAll]
      omega
    · simp only [planD, PyData.depth, PyData.depthAll]
      omega
theorem fol_lt {l : List Bool} {n b : Nat} (hn : n ≤ 16) : fol l n b < 65536 := by
  have h2 := Nat.pow_le_pow_right (show 0 < 2 by decide) hn
  unfold fol
  split
  · decide
  · exact Nat.lt_of_lt_of_le (Nat.xor_lt_two_pow (Nat.mod_lt _ (Nat.two_pow_pos n)) (zig_lt n (by omega) _ _)) h2
theorem cell_tame {k : Str} {z : Int} {x : Option Int} {b : Nat} {h : List Bool} (ok : PlanOk k z x) (hb : b < 8) (hh : h.length ≤ 64) : Gk.tame (cellD k x b h) = true ∧ cost (cellD k x b h) ≤ 200 ∧ (cellD k x b h).depth ≤ 2 := by
  have th := tame_txt h
  have ch := cost_txt h
  unfold cellD
  split
  · have hx : (x.getD 0).toNat ≤ 16 := by
      obtain ⟨_, _, ⟨_, t, rfl, t0, t1⟩ | ⟨_, rfl⟩⟩ := ok
      · show t.toNat ≤ 16
        omega
      · show (0 : Int).toNat ≤ 16
        decide
    have lt := fol_lt (l := h) (b := b) hx
    refine ⟨?_, ?_, ?_⟩
    · simp only [Gk.tame, decide_eq_true_eq]
      omega
    · simp only [Gk.cost]
      omega
    · simp only [PyData.depth]
      omega
  · split
    · refine ⟨th, by omega, ?_⟩
      simp only [PyData.depth]
      omega
    · refine ⟨?_, ?_, ?_⟩
      · simp only [Gk.tame, tameAll, th, Bool.true_and, Bool.and_true, Bool.and_eq_true, decide_eq_true_eq]
        simp only [Gk.tame] at th
        first | exact ⟨by omega, th⟩ | omega
      · simp only [Gk.cost, costAll] at ch ⊢
        omega
      · simp only [PyData.depth, PyData.depthAll]
        omega
theorem fine_two {k : Str} {z : Int} {x : Option Int} {b : Nat} {h : List Bool} (ok : PlanOk k z x) (hb : b < 8) (hh : h.length ≤ 64) : Fine (.list [.str (txt h), cellD k x b h]) := by
  obtain ⟨a1, a2, a3⟩ := cell_tame ok hb hh
  have th := tame_txt h
  have ch := cost_txt h
  refine Fine.tame ?_ ?_ ?_
  · rw [show Gk.tame (.list [.str (txt h), cellD k x b h]) = (Gk.tame (.str (txt h)) && (Gk.tame (cellD k x b h) && true)) by simp only [Gk.tame, tameAll], th, a1]
    rfl
  · simp only [PyData.depth, PyData.depthAll]
    omega
  · rw [show cost (.list [.str (txt h), cellD k x b h]) = cost (.str (txt h)) + 1 + (cost (cellD k x b h) + 1 + 1) by simp only [Gk.cost, costAll], ch]
    omega
theorem fine_lp {l : List (Int × Int)} {k : Str} {z : Int} {x : Option Int} (fair : Fair l) (l2 : l.length ≤ 64) (ok : PlanOk k z x) : Fine (.tuple [.tuple (l.map pd), planD k z x]) := by
  obtain ⟨a1, a2, a3⟩ := plan_tame ok
  have p := plain_pd fair
  have c := p.cost
  have d := p.depth
  rw [List.length_map] at c
  refine Fine.tame ?_ ?_ ?_
  · simp only [Gk.tame, tameAll, p.tame, a1, Bool.and_self]
  · simp only [PyData.depth, PyData.depthAll]
    omega
  · simp only [Gk.cost, costAll]
    omega
end Pf
namespace Pf
open PySem PySem.Spec PyProof.Rows L2 Gk Fold
/-! ### histories at late moments -/
theorem run_period (bs : List Bool) (a k : Nat) : run bs (a + bs.length) k = run bs a k := by
  unfold run
  refine List.map_congr_left fun j _ => ?_
  rw [show a + bs.length + j = a + j + bs.length by omega, Nat.add_mod_right]
theorem past_late {bs : List Bool} {p L : Nat} (h : L ≤ p) : past bs p L = run bs (p - L) L := by
  unfold past
  rw [Nat.min_eq_right h, Nat.sub_self]
  rfl
theorem past_period {bs : List Bool} {p L : Nat} (h : L ≤ p) : past bs (p + bs.length) L = past bs p L := by
  rw [past_late h, past_late (by omega), show p + bs.length - L = p - L + bs.length by omega, run_period]
theorem past_periods {bs : List Bool} {p L : Nat} (h : L ≤ p) : ∀ n : Nat, past bs (p + n * bs.length) L = past bs p L
  | 0 => by rw [Nat.zero_mul, Nat.add_zero]
  | n + 1 => by
    rw [Nat.succ_mul, ← Nat.add_assoc, past_period (by omega), past_periods h n]
theorem run_at {bs : List Bool} {a k i : Nat} (h : i < k) : (run bs a k)[i]? = some (bs.getD ((a + i) % bs.length) false) := by
  unfold run
  rw [List.getElem?_map, List.getElem?_range h]
  rfl
/-- the digit at a place of a history -/
def dig (bs : List Bool) (p L i : Nat) : Bool := if L ≤ p + i then bs.getD ((p + i - L) % bs.length) false else false
theorem past_at {bs : List Bool} {p L i : Nat} (h : i < L) : (past bs p L)[i]? = some (dig bs p L i) := by
  unfold past dig
  by_cases g : i < L - min p L
  · rw [List.getElem?_append_left (by rw [List.length_replicate]; exact g), List.getElem?_replicate, if_pos g, if_neg (by omega)]
  · rw [List.getElem?_append_right (by rw [List.length_replicate]; omega), List.length_replicate, run_at (by omega), if_pos (by omega), show p - min p L + (i - (L - min p L)) = p + i - L by omega]
theorem past_ext {bs : List Bool} {p L : Nat} {xs : List Bool} (hl : xs.length = L) (h : ∀ i, i < L → xs[i]? = some (dig bs p L i)) : xs = past bs p L := by
  refine List.ext_getElem? fun i => ?_
  by_cases g : i < L
  · rw [h i g, past_at g]
  · rw [List.getElem?_eq_none (by omega), List.getElem?_eq_none (by rw [past_len]; omega)]
theorem past_tail (bs : List Bool) (p L : Nat) : (past bs p (L + 1)).drop 1 = past bs p L := by
  refine past_ext (by rw [List.length_drop, past_len]; omega) fun i hi => ?_
  rw [List.getElem?_drop, Nat.add_comm 1 i, past_at (by omega)]
  unfold dig
  by_cases g : L ≤ p + i
  · rw [if_pos g, if_pos (by omega), show p + (i + 1) - (L + 1) = p + i - L by omega]
  · rw [if_neg g, if_neg (by omega)]
theorem past_last {bs : List Bool} {p L : Nat} (h : 1 ≤ p) : (past bs p (L + 1))[L]? = some (bs.getD ((p - 1) % bs.length) false) := by
  rw [past_at (by omega)]
  unfold dig
  rw [if_pos (by omega), show p + L - (L + 1) = p - 1 by omega]
/-- one outcome more -/
theorem past_push (bs : List Bool) (p L : Nat) : past bs (p + 1) L = (past bs p L ++ [bs.getD (p % bs.length) false]).drop 1 := by
  refine (past_ext ?_ fun i hi => ?_).symm
  · rw [List.length_drop, List.length_append, past_len]
    show L + 1 - 1 = L
    omega
  · rw [List.getElem?_drop, Nat.add_comm 1 i]
    unfold dig
    by_cases g : i + 1 < L
    · rw [List.getElem?_append_left (by rw [past_len]; exact g), past_at g]
      unfold dig
      by_cases e : L ≤ p + 1 + i
      · rw [if_pos e, if_pos (by omega), show p + (i + 1) = p + 1 + i by omega]
      · rw [if_neg e, if_neg (by omega)]
    · have : i + 1 = L := by omega
      rw [List.getElem?_append_right (by rw [past_len]; omega), past_len, if_pos (by omega), show i + 1 - L = 0 by omega, show p + 1 + i - L = p by omega]
      rfl
theorem past_stays {bs : List Bool} {p L M : Nat} (h : past bs p L = past bs (p + M * bs.length) L) : ∀ j : Nat, past bs (p + j) L = past bs (p + j + M * bs.length) L
  | 0 => h
  | j + 1 => by
    rw [← Nat.add_assoc, show p + j + 1 + M * bs.length = p + j + M * bs.length + 1 by omega, past_push, past_push, past_stays h j, Nat.add_mul_mod_self_right]
theorem sgn_inj {a b : Bool} (h : sgn a = sgn b) : a = b := by
  revert h
  cases a <;> cases b <;> decide
theorem sgns_inj : ∀ {a b : List Bool}, a.map sgn = b.map sgn → a = b
  | [], [], _ => rfl
  | x :: xs, y :: ys, h => by
    rw [List.map_cons, List.map_cons] at h
    injection h with h1 h2
    rw [sgn_inj h1, sgns_inj h2]
  | [], _ :: _, h => by simp at h
  | _ :: _, [], h => by simp at h
theorem txt_inj {a b : List Bool} (h : txt a = txt b) : a = b := by
  have h1 : (a.map sgn).toArray = (b.map sgn).toArray := congrArg Str.cps h
  exact sgns_inj (by simpa using h1)
/-! ### moments of rounds -/
theorem brAt_round (l : List (Int × Int)) (N i : Nat) : brAt l (N * l.length + i) = brAt l i := by
  unfold brAt
  rw [Nat.add_comm, Nat.add_mul_mod_self_right]
theorem cj_round {l : List (Int × Int)} (h : 1 ≤ l.length) (k : Str) (b : Int) (N i : Nat) : cj l k b (N * l.length + i) = cj l k b i + N * (hB l k b).length := by
  unfold cj hB
  rw [bo_len]
  by_cases e : k = "own"
  · rw [if_pos e, if_pos e, if_pos e, Nat.add_comm (N * l.length) i, Nat.add_mul_div_right _ _ h, Nat.add_mul_mod_self_right, Nat.add_mul]
    omega
  · rw [if_neg e, if_neg e, if_neg e, List.length_map]
    omega
theorem hB_pos {l : List (Int × Int)} (fair : Fair l) (h : 1 ≤ l.length) (h2 : l.length ≤ 64) (k : Str) (m : Nat) : 1 ≤ (hB l k (brAt l m)).length := by
  have e : hB l k (brAt l m) = bo (hOs l k m) := rfl
  rw [e, bo_len]
  exact (hOs_ok fair h h2 k m).2.1
/-- the history of a round at a position -/
def hR (l : List (Int × Int)) (k : Str) (L N i : Nat) : List Bool := hist l k (N * l.length + i) L
theorem hR_past {l : List (Int × Int)} (h : 1 ≤ l.length) (k : Str) (L N i : Nat) : hR l k L N i = past (hB l k (brAt l i)) (cj l k (brAt l i) i + N * (hB l k (brAt l i)).length) L := by
  show hist l k (N * l.length + i) L = _
  rw [hist_cj, brAt_round, cj_round h]
theorem hR_late {l : List (Int × Int)} (fair : Fair l) (h : 1 ≤ l.length) (h2 : l.length ≤ 64) (k : Str) {L N : Nat} (hN : L ≤ N) (i : Nat) : hR l k L N i = hR l k L L i := by
  have pos := hB_pos fair h h2 k i
  rw [hR_past h, hR_past h]
  have e : cj l k (brAt l i) i + N * (hB l k (brAt l i)).length = cj l k (brAt l i) i + L * (hB l k (brAt l i)).length + (N - L) * (hB l k (brAt l i)).length := by
    rw [Nat.add_assoc, ← Nat.add_mul, show L + (N - L) = N by omega]
  rw [e, past_periods]
  have := Nat.le_mul_of_pos_right L pos
  omega
theorem hR_stays {l : List (Int × Int)} (fair : Fair l) (h : 1 ≤ l.length) (h2 : l.length ≤ 64) (k : Str) {L N N' i : Nat} (hs : hR l k L N i = hR l k L L i) (hN : N ≤ N') : hR l k L N' i = hR l k L L i := by
  have pos := hB_pos fair h h2 k i
  have lateN := hR_late fair h h2 k (L := L) (N := N + L) (by omega) i
  have lateM := hR_late fair h h2 k (L := L) (N := N' + L) (by omega) i
  rw [← lateM]
  rw [← lateN] at hs
  rw [hR_past h, hR_past h] at hs ⊢
  generalize hB l k (brAt l i) = bs at *
  generalize cj l k (brAt l i) i = c at *
  have e1 : c + (N + L) * bs.length = c + N * bs.length + L * bs.length := by rw [Nat.add_mul, Nat.add_assoc]
  rw [e1] at hs
  have st := past_stays hs ((N' - N) * bs.length)
  have e2 : c + N * bs.length + (N' - N) * bs.length = c + N' * bs.length := by rw [Nat.add_assoc, ← Nat.add_mul, show N + (N' - N) = N' by omega]
  rw [e2] at st
  rw [st, Nat.add_mul, Nat.add_assoc]
/-! ### the steady ones, as the program finds them -/
abbrev nSCells : List Str := ["trace", "scheme", "moments", "position", "moment"]
section
variable {P : Program} {w : World} {K : PySem.W.Frag} {mg : Str → Option Value} {base : Heap}
def spMom (K : PySem.W.Frag) : Sp := fun vs H Q _ => ∃ (t c : Addr) (xs : List V) (k : Str) (z : Int) (x : Option Int) (p : Int), vs = [.ref t, .ref c, .int p] ∧ SqT K H t xs ∧ SqT K H c (planV k z x) ∧ 0 ≤ z ∧ z ≤ 65 ∧ ∀ H', Same H H' → Q (.int (p + z * (xs.length : Nat))) H'
theorem mom_nat {l : List (Int × Int)} {z : Int} {p n : Nat} (z0 : 0 ≤ z) (len : n = l.length) : (p : Int) + z * (n : Nat) = ((z.toNat * l.length + p : Nat) : Int) := by
  have : ((z.toNat : Nat) : Int) = z := Int.toNat_of_nonneg z0
  rw [len, Int.natCast_add, Int.natCast_mul, this]
  omega
theorem mom_le {l : List (Int × Int)} {z : Int} {p : Nat} (z1 : z ≤ 65) (l64 : l.length ≤ 64) (hp : p ≤ 10 ^ 18) : z.toNat * l.length + p ≤ 10 ^ 19 := by
  have := Nat.mul_le_mul (show z.toNat ≤ 65 by omega) l64
  omega
/-- the steady cells -/
def cellsD (l : List (Int × Int)) (k : Str) (z : Int) (x : Option Int) (n : Nat) : List PyData := (List.range n).map fun i => cellD k x (brAt l i).toNat (hR l k z.toNat z.toNat i)
theorem cellA_round (l : List (Int × Int)) (k : Str) (z : Int) (x : Option Int) (N i : Nat) : cellA l k z x (N * l.length + i) = cellD k x (brAt l i).toNat (hR l k z.toNat N i) := by
  unfold cellA
  rw [brAt_round]
  rfl
theorem cell_tups (k : Str) (x : Option Int) (b : Nat) (h : List Bool) : tups (cellD k x b h) = true := by
  unfold cellD
  split
  · rfl
  · split <;> rfl
theorem tups_all {ds : List PyData} (h : ∀ d ∈ ds, tups d = true) : tupsAll ds = true := by
  induction ds with
  | nil => rfl
  | cons d r ih =>
    simp only [tupsAll, h d List.mem_cons_self, ih fun e he => h e (List.mem_cons_of_mem _ he), Bool.and_self]
theorem cells_tups (l : List (Int × Int)) (k : Str) (z : Int) (x : Option Int) (n : Nat) : tupsAll (cellsD l k z x n) = true := tups_all fun d hd => by
  obtain ⟨i, _, rfl⟩ := List.mem_map.mp hd
  exact cell_tups _ _ _ _
theorem DpAll.keepT {K : PySem.W.Frag} {H H' : Hp} (k : Keep K H H') : ∀ {vs : List V} {ds : List PyData}, tupsAll ds = true → DpAll K H vs ds → DpAll K H' vs ds
  | _, _, _, .nil => .nil
  | _, _, h, .cons a t => by
    simp only [tupsAll, Bool.and_eq_true] at h
    exact .cons (Dp.keep k _ _ h.1 a) (DpAll.keepT k h.2 t)
def spSCells (K : PySem.W.Frag) : Sp := fun vs H Q _ => ∃ (t c : Addr) (l : List (Int × Int)) (k : Str) (z : Int) (x : Option Int), vs = [.ref t, .ref c] ∧ PairsAt K H t l ∧ Fair l ∧ 1 ≤ l.length ∧ l.length ≤ 64 ∧ SqT K H c (planV k z x) ∧ PlanOk k z x ∧
  ∀ H' r as, Same H H' → SqT K H' r as → DpAll K H' as (cellsD l k z x l.length) → Q (.ref r) H'
end
end Pf
namespace Pf
open PySem PySem.Spec PyProof.Rows L2 Gk
/-! ### cells whose tuples are told as such: keys of dicts -/
/-- a cell that is a tuple stands as one -/
def TupHere (H : Hp) (v : V) (d : PyData) : Prop := ∀ b t, d = .tuple [.int b, .str t] → ∃ p, v = .ref p ∧ H p = some (.tup [.int b, .str t])
def Ck (K : PySem.W.Frag) (H : Hp) (v : V) (d : PyData) : Prop := Dp K H v d ∧ TupHere H v d
theorem Ck.int {K : PySem.W.Frag} {H : Hp} (i : Int) : Ck K H (.int i) (.int i) := ⟨.int _, fun _ _ e => nomatch e⟩
theorem Ck.str {K : PySem.W.Frag} {H : Hp} (s : Str) : Ck K H (.str s) (.str s) := ⟨.str _, fun _ _ e => nomatch e⟩
theorem Ck.tup {K : PySem.W.Frag} {H : Hp} {p : Addr} {b : Int} {t : Str} (h : H p = some (.tup [.int b, .str t])) : Ck K H (.ref p) (.tuple [.int b, .str t]) :=
  ⟨.tup (.inl (.inl h)) (.cons (.int _) (.cons (.str _) .nil)), fun b' t' e => by
    injection e with e
    injection e with e1 e2
    injection e2 with e2 _
    injection e1 with e1
    injection e2 with e2
    subst e1 e2
    exact ⟨p, rfl, h⟩⟩
theorem TupHere.same {H H' : Hp} {v : V} {d : PyData} (h : TupHere H v d) (s : ∀ b ts, H b = some (.tup ts) → H' b = some (.tup ts)) : TupHere H' v d := fun b t e => by
  obtain ⟨p, e1, e2⟩ := h b t e
  exact ⟨p, e1, s _ _ e2⟩
/-- so all of a list -/
def TupsHere (H : Hp) (vs : List V) (ds : List PyData) : Prop := ∀ (i : Nat) (v : V) (d : PyData), vs[i]? = some v → ds[i]? = some d → TupHere H v d
theorem TupsHere.same {H H' : Hp} {vs : List V} {ds : List PyData} (h : TupsHere H vs ds) (s : ∀ b ts, H b = some (.tup ts) → H' b = some (.tup ts)) : TupsHere H' vs ds := fun i v d e1 e2 => (h i v d e1 e2).same s
theorem TupsHere.nil {H : Hp} : TupsHere H [] [] := fun i v d e => by simp at e
theorem TupsHere.snoc {H : Hp} {vs : List V} {ds : List PyData} {v : V} {d : PyData} (h : TupsHere H vs ds) (hl : vs.length = ds.length) (hv : TupHere H v d) : TupsHere H (vs ++ [v]) (ds ++ [d]) := fun i v' d' e1 e2 => by
  rcases Nat.lt_trichotomy i vs.length with g | g | g
  · rw [List.getElem?_append_left g] at e1
    rw [List.getElem?_append_left (by omega)] at e2
    exact h i v' d' e1 e2
  · rw [List.getElem?_append_right (by omega), show i - vs.length = 0 by omega] at e1
    rw [List.getElem?_append_right (by omega), show i - ds.length = 0 by omega] at e2
    obtain rfl := Option.some.inj e1
    obtain rfl := Option.some.inj e2
    exact hv
  · rw [List.getElem?_append_right (by omega), List.getElem?_eq_none (by show 1 ≤ _; omega)] at e1
    cases e1
theorem tup_keep {H : Hp} {D : Addr} {xs : List V} {o : HO} (h : H D = some (.lst xs)) (b : Addr) (ts : List V) (e : H b = some (.tup ts)) : (upd H D o) b = some (.tup ts) := by
  rw [upd_ne (fun z => by rw [z, h] at e; cases e)]
  exact e
section
variable {P : Program} {w : World} {K : PySem.W.Frag} {mg : Str → Option Value} {base : Heap}
def spCellC (K : PySem.W.Frag) : Sp := fun vs H Q _ => ∃ (c : Addr) (k : Str) (z : Int) (x : Option Int) (b : Nat) (h : List Bool), vs = [.ref c, .int (b : Int), .str (txt h)] ∧ SqT K H c (planV k z x) ∧ PlanOk k z x ∧ b < 8 ∧ h.length ≤ 64 ∧ ∀ H' v, Same H H' → Ck K H' v (cellD k x b h) → Q v H'
theorem ok_cellC {f : Addr} {fd : FuncData} (DF : Dfn P w K mg base 2 "fold" ["history", "bits", "branch"] spFold) (F : L2.Fun K "cell_of" "cell_of" sCellOf f fd) : FnOk P w K mg base L2.CX0 3 f fd ["scheme", "branch", "history"] (spCellC K) := by
  refine F.ok scCellOf (fun vs H Q E h => ?_) (fun cdv A outer s H vs Q E hr h => ?_)
  · obtain ⟨c, k, z, x, b, h, rfl, _⟩ := h
    rfl
  · obtain ⟨c, k, z, x, b, h, rfl, hc, ok, hb, hh, q⟩ := h
    refine ⟨_, pss_cons (ps_if (pt_cmpR op_eq (pe_ix ix_tup (pv 0) pe_int (fun _ _ => rfl)) pe_str (nomark _)) (pss_one (ps_ret (pe_d DF hr (by decide) (by rfl) (pa_cons (pv 2) (pa_cons (pe_ix ix_tup (pv 0) pe_int (fun _ _ => rfl)) (pa_cons (pv 1) pa_nil)))))) pss_nil)
      (pss_cons (ps_if (pt_cmpR op_eq (pe_ix ix_tup (pv 0) pe_int (fun _ _ => rfl)) pe_str (nomark _)) (pss_one (ps_ret (pv 2))) pss_nil)
      (pss_one (ps_ret (pe_tup (pa_cons (pv 1) (pa_cons (pv 2) pa_nil)))))), ?_⟩
    refine ⟨.ref c, rfl, c, _, 0, .str k, rfl, rfl, hc, planV0 _ _ _, rfl, _, rfl, ite2 (fun e => ?_) (fun e => ?_)⟩
    · have e1 : V.str k = V.str "folded" := of_decide_eq_true e
      injection e1 with e1
      obtain ⟨_, _, ⟨_, t, rfl, t0, t1⟩ | ⟨h2, _⟩⟩ := ok
      · refine ⟨.str (txt h), rfl, .ref c, rfl, c, _, 2, .int t, rfl, rfl, hc, rfl, .int b, rfl, h, t.toNat, b, ?_, hh, by omega, hb, fun H' s' => q H' _ s' ?_⟩
        · rw [Int.toNat_of_nonneg t0]
          rfl
        · unfold cellD
          rw [if_pos e1]
          exact Ck.int _
      · rw [e1] at h2
        exact absurd h2 (by decide +kernel)
    · have ne : k ≠ "folded" := fun z => e (decide_eq_true (by rw [z]))
      refine ⟨.ref c, rfl, c, _, 0, .str k, rfl, rfl, hc, planV0 _ _ _, rfl, _, rfl, ite2 (fun g => ?_) (fun g => ?_)⟩
      · have g1 : V.str k = V.str "shared" := of_decide_eq_true g
        injection g1 with g1
        refine ⟨.str (txt h), rfl, q H _ (Same.refl H) ?_⟩
        unfold cellD
        rw [if_neg ne, if_pos g1]
        exact Ck.str _
      · have ng : k ≠ "shared" := fun z => g (decide_eq_true (by rw [z]))
        refine ⟨.int b, rfl, .str (txt h), rfl, by show 2 ≤ sizeLine; decide, fun p np => q _ _ (same_new np) ?_⟩
        unfold cellD
        rw [if_neg ne, if_neg ng]
        exact Ck.tup upd_same
def spCellAtC (K : PySem.W.Frag) : Sp := fun vs H Q _ => ∃ (t c : Addr) (l : List (Int × Int)) (k : Str) (z : Int) (x : Option Int) (m : Nat), vs = [.ref t, .ref c, .int (m : Int)] ∧ PairsAt K H t l ∧ Fair l ∧ 1 ≤ l.length ∧ l.length ≤ 64 ∧ SqT K H c (planV k z x) ∧ PlanOk k z x ∧ m ≤ 10 ^ 19 ∧
  ∀ H' v, Same H H' → Ck K H' v (cellA l k z x m) → Q v H'
def spSCellsC (K : PySem.W.Frag) : Sp := fun vs H Q _ => ∃ (t c : Addr) (l : List (Int × Int)) (k : Str) (z : Int) (x : Option Int), vs = [.ref t, .ref c] ∧ PairsAt K H t l ∧ Fair l ∧ 1 ≤ l.length ∧ l.length ≤ 64 ∧ SqT K H c (planV k z x) ∧ PlanOk k z x ∧
  ∀ H' r as, Same H H' → SqT K H' r as → DpAll K H' as (cellsD l k z x l.length) → TupsHere H' as (cellsD l k z x l.length) → Q (.ref r) H'
end
end Pf
namespace Pf
open PySem PySem.Spec PyProof.Rows L2 Gk Fold
/-! ### dicts with cells as keys: what is kept of each cell -/
abbrev CK := Sum L2.Key (List L2.Key)
/-- the cell of a branch and a history, as a key -/
def cK (k : Str) (x : Option Int) (b : Nat) (h : List Bool) : CK := if k = "folded" then .inl (.inl ((fol h (x.getD 0).toNat b : Nat) : Int)) else if k = "shared" then .inl (.inr (txt h)) else .inr [.inl (b : Int), .inr (txt h)]
def tupK (k : Str) : Bool := !(decide (k = "folded") || decide (k = "shared"))
/-- at a: a dict that keeps f of the cells, n of them at most -/
def VD (H : Hp) (a : Addr) (k : Str) (f : CK → Option V) (n : Nat) : Prop :=
  (tupK k = false ∧ ∃ kvs, H a = some (.dK kvs) ∧ kvs.length ≤ n ∧ ∀ q, valV kvs q = f (.inl q)) ∨ (tupK k = true ∧ ∃ kvs, H a = some (.dT kvs) ∧ kvs.length ≤ n ∧ ∀ q, valV kvs q = f (.inr q))
theorem cK_inl {k : Str} {x : Option Int} {b : Nat} {h : List Bool} {H : Hp} {K : PySem.W.Frag} {v : V} (c : Ck K H v (cellD k x b h)) (t : tupK k = false) : ∃ q, cK k x b h = .inl q ∧ v = kV q := by
  unfold tupK at t
  rw [Bool.not_eq_false', Bool.or_eq_true, decide_eq_true_eq, decide_eq_true_eq] at t
  obtain ⟨c, _⟩ := c
  unfold cellD at c
  unfold cK
  rcases t with rfl | rfl
  · rw [if_pos rfl] at c ⊢
    cases c
    exact ⟨_, rfl, rfl⟩
  · rw [if_neg (by decide +kernel), if_pos rfl] at c ⊢
    cases c
    exact ⟨_, rfl, rfl⟩
theorem cK_inr {k : Str} {x : Option Int} {b : Nat} {h : List Bool} {H : Hp} {K : PySem.W.Frag} {v : V} (c : Ck K H v (cellD k x b h)) (t : tupK k = true) : ∃ q p, cK k x b h = .inr q ∧ v = .ref p ∧ H p = some (.tup (q.map kV)) := by
  unfold tupK at t
  rw [Bool.not_eq_true', Bool.or_eq_false_iff, decide_eq_false_iff_not, decide_eq_false_iff_not] at t
  obtain ⟨_, c⟩ := c
  unfold cellD at c
  unfold cK
  rw [if_neg t.1, if_neg t.2] at c ⊢
  obtain ⟨p, rfl, hp⟩ := c _ _ rfl
  exact ⟨_, p, rfl, rfl, hp⟩
theorem VD.get {k : Str} {x : Option Int} {b : Nat} {h : List Bool} {H : Hp} {K : PySem.W.Frag} {v : V} {a : Addr} {f : CK → Option V} {n : Nat} (d : VD H a k f n) (c : Ck K H v (cellD k x b h)) : DGet H a v (f (cK k x b h)) := by
  rcases d with ⟨t, kvs, e, _, l⟩ | ⟨t, kvs, e, _, l⟩
  · obtain ⟨q, eq, rfl⟩ := cK_inl c t
    rw [eq]
    exact .inl ⟨kvs, q, .inl e, rfl, (l q).symm⟩
  · obtain ⟨q, p, eq, rfl, hp⟩ := cK_inr c t
    rw [eq]
    exact .inr ⟨kvs, q, p, .inl e, rfl, hp, (l q).symm⟩
theorem VD.put {k : Str} {x : Option Int} {b : Nat} {h : List Bool} {H : Hp} {K : PySem.W.Frag} {v y : V} {a : Addr} {f : CK → Option V} {n : Nat} (d : VD H a k f n) (c : Ck K H v (cellD k x b h)) (hn : n < sizeLine) :
    ∃ H', DPut H a v y H' ∧ VD H' a k (fun q => if q = cK k x b h then some y else f q) (n + 1) ∧ ∀ z, z ≠ a → H' z = H z := by
  rcases d with ⟨t, kvs, e, ln, l⟩ | ⟨t, kvs, e, ln, l⟩
  · obtain ⟨q, eq, rfl⟩ := cK_inl c t
    refine ⟨_, .inl ⟨kvs, q, e, rfl, by omega, rfl⟩, .inl ⟨t, _, upd_same, by have := length_putK kvs q y; omega, fun r => ?_⟩, fun z hz => upd_ne hz⟩
    rw [valV_put, eq, l]
    dsimp only
    by_cases er : r = q
    · rw [if_pos er, if_pos (by rw [er])]
    · rw [if_neg er, if_neg (fun z => er (Sum.inl.inj z))]
  · obtain ⟨q, p, eq, rfl, hp⟩ := cK_inr c t
    refine ⟨_, .inr ⟨kvs, q, p, e, rfl, hp, by omega, rfl⟩, .inr ⟨t, _, upd_same, by have := length_putK kvs q y; omega, fun r => ?_⟩, fun z hz => upd_ne hz⟩
    rw [valV_put, eq, l]
    dsimp only
    by_cases er : r = q
    · rw [if_pos er, if_pos (by rw [er])]
    · rw [if_neg er, if_neg (fun z => er (Sum.inr.inj z))]
end Pf
namespace Pf
open PySem PySem.Spec PyProof.Rows L2 Gk
/-! ### one counter -/
def top (w : Int) : Int := 1 * 2 ^ w.toNat - 1
def prd (w v : Int) : Int := if 2 * v > top w then 1 else 0
def aft (w v o : Int) : Int := if o = 1 then (if top w < v + 1 then top w else v + 1) else (if 0 > v - 1 then 0 else v - 1)
theorem pow2_mono {a b : Nat} (h : a ≤ b) : (2 : Int) ^ a ≤ 2 ^ b := by
  have e := Nat.pow_le_pow_right (n := 2) (by decide) h
  exact_mod_cast e
theorem top_pos {w : Int} (h : 1 ≤ w) : 1 ≤ top w := by
  unfold top
  have : (2 : Int) ^ 1 ≤ 2 ^ w.toNat := pow2_mono (by omega)
  omega
theorem top_le {w : Int} {n : Nat} (h : w ≤ (n : Int)) : top w ≤ 2 ^ n := by
  unfold top
  have : (2 : Int) ^ w.toNat ≤ 2 ^ n := pow2_mono (by omega)
  omega
theorem aft_in {w v o : Int} (h : 1 ≤ w) (h0 : 0 ≤ v) (h1 : v ≤ top w) : 0 ≤ aft w v o ∧ aft w v o ≤ top w := by
  have := top_pos h
  unfold aft
  repeat' split
  all_goals omega
theorem prd_in (w v : Int) : prd w v = 0 ∨ prd w v = 1 := by
  unfold prd
  split
  · exact .inr rfl
  · exact .inl rfl
abbrev sMost : Stmt := topS 1
abbrev sPred : Stmt := topS 2
abbrev sAft : Stmt := topS 3
theorem scMost : FnScope ["bits"] ["bits"] (defScope sMost) := ⟨rfl, rfl, rfl, by decide +kernel, rfl, by decide +kernel, by decide +kernel⟩
theorem scPred : FnScope ["bits", "value"] ["bits", "value"] (defScope sPred) := ⟨rfl, rfl, rfl, by decide +kernel, rfl, by decide +kernel, by decide +kernel⟩
theorem scAft : FnScope ["bits", "value", "outcome"] ["bits", "value", "outcome"] (defScope sAft) := ⟨rfl, rfl, rfl, by decide +kernel, rfl, by decide +kernel, by decide +kernel⟩
section
variable {P : Program} {w : World} {K : PySem.W.Frag} {mg : Str → Option Value} {base : Heap}
def spMost : Sp := fun vs H Q _ => ∃ n : Int, vs = [.int n] ∧ 1 ≤ n ∧ n ≤ 64 ∧ Q (.int (top n)) H
theorem ok_most {f : Addr} {fd : FuncData} {k : Nat} (mx : mg "max" = none) (F : L2.Fun K "most_value" "most_value" sMost f fd) : FnOk P w K mg base L2.CX0 (k + 1) f fd ["bits"] spMost := by
  refine F.ok scMost (fun vs H Q E h => ?_) (fun cdv A outer s H vs Q E hr h => ?_)
  · obtain ⟨n, rfl, _⟩ := h
    rfl
  · obtain ⟨n, rfl, n1, n2, q⟩ := h
    refine ⟨_, pss_one (ps_ret (pe_op op_sub (pe_op op_shl pe_int (pe_callB (call_max2 rfl) (by rfl) mx (by decide +kernel) (pa_cons pe_int (pa_cons (pv 0) pa_nil)))) pe_int)), ?_⟩
    have e : (if n > 0 then n else 0) = n := if_pos (by omega)
    refine ⟨.int n, rfl, _, _, rfl, _, _, rfl, rfl, ?_, _, _, rfl, rfl, ?_⟩
    · rw [e]
      exact ⟨by omega, by omega, by decide⟩
    · rw [e]
      exact q
def spPred : Sp := fun vs H Q _ => ∃ n v : Int, vs = [.int n, .int v] ∧ 1 ≤ n ∧ n ≤ 64 ∧ Q (.int (prd n v)) H
theorem ok_pred {f : Addr} {fd : FuncData} (DM : Dfn P w K mg base 1 "most_value" ["bits"] spMost) (F : L2.Fun K "predicted" "predicted" sPred f fd) : FnOk P w K mg base L2.CX0 2 f fd ["bits", "value"] spPred := by
  refine F.ok scPred (fun vs H Q E h => ?_) (fun cdv A outer s H vs Q E hr h => ?_)
  · obtain ⟨n, v, rfl, _⟩ := h
    rfl
  · obtain ⟨n, v, rfl, n1, n2, q⟩ := h
    refine ⟨_, pss_one (ps_ret (pe_ifExp (pt_cmpR op_gt (pe_op op_mul pe_int (pv 1)) (pe_d DM hr (by decide) (by rfl) (pa_cons (pv 0) pa_nil)) (nomark _)) pe_int pe_int)), ?_⟩
    refine ⟨.int v, rfl, _, _, rfl, rfl, .inl ⟨by decide, by decide⟩, .int n, rfl, n, rfl, n1, n2, _, _, rfl, rfl, _, rfl, ite2 (fun e => ?_) (fun e => ?_)⟩
    · have g : prd n v = 1 := if_pos (of_decide_eq_true e)
      rw [g] at q
      exact q
    · have g : prd n v = 0 := if_neg (fun z => e (decide_eq_true z))
      rw [g] at q
      exact q
def spAft : Sp := fun vs H Q _ => ∃ n v o : Int, vs = [.int n, .int v, .int o] ∧ 1 ≤ n ∧ n ≤ 64 ∧ Q (.int (aft n v o)) H
theorem ok_aft {f : Addr} {fd : FuncData} (DM : Dfn P w K mg base 1 "most_value" ["bits"] spMost) (mx : mg "max" = none) (mn : mg "min" = none) (F : L2.Fun K "value_after" "value_after" sAft f fd) : FnOk P w K mg base L2.CX0 2 f fd ["bits", "value", "outcome"] spAft := by
  refine F.ok scAft (fun vs H Q E h => ?_) (fun cdv A outer s H vs Q E hr h => ?_)
  · obtain ⟨n, v, o, rfl, _⟩ := h
    rfl
  · obtain ⟨n, v, o, rfl, n1, n2, q⟩ := h
    refine ⟨_, pss_cons (ps_if (pt_cmpR op_eq (pv 2) pe_int (nomark _))
        (pss_one (ps_ret (pe_callB (call_min2 rfl) (by rfl) mn (by decide +kernel) (pa_cons (pe_op op_add (pv 1) pe_int) (pa_cons (pe_d DM hr (by decide) (by rfl) (pa_cons (pv 0) pa_nil)) pa_nil))))) pss_nil)
      (pss_one (ps_ret (pe_callB (call_max2 rfl) (by rfl) mx (by decide +kernel) (pa_cons (pe_op op_sub (pv 1) pe_int) (pa_cons pe_int pa_nil))))), ?_⟩
    refine ⟨.int o, rfl, rfl, _, rfl, ite2 (fun e => ?_) (fun e => ?_)⟩
    · have e1 : V.int o = V.int 1 := of_decide_eq_true e
      injection e1 with e2
      unfold aft at q
      rw [if_pos e2] at q
      exact ⟨.int v, rfl, _, _, rfl, rfl, .int n, rfl, n, rfl, n1, n2, _, _, rfl, q⟩
    · have e2 : o ≠ 1 := fun z => e (decide_eq_true (by rw [z]))
      unfold aft at q
      rw [if_neg e2] at q
      exact ⟨.int v, rfl, _, _, rfl, rfl, _, _, rfl, q⟩
end
end Pf
namespace Pf
open PySem PySem.Spec PyProof.Rows L2 Gk Fold
/-! ### a predictor, moment by moment: l the trace, k the kind of scheme, x its bits, L its length, w and v0 the counter -/
def outM (l : List (Int × Int)) (m : Nat) : Int := (l.getD (m % l.length) (0, 0)).2
/-- whose history it is -/
def ownO (k : Str) (b : Int) : Option Int := if k = "own" then some b else none
/-- the history of each owner ahead of the moment m -/
def hM (l : List (Int × Int)) (k : Str) (L : Nat) : Nat → Option Int → List Bool
  | 0, _ => List.replicate L false
  | m + 1, o => if o = ownO k (brAt l m) then (hM l k L m o ++ [decide (outM l m = 1)]).drop 1 else hM l k L m o
theorem hM_len (l : List (Int × Int)) (k : Str) (L : Nat) : ∀ (m : Nat) (o : Option Int), (hM l k L m o).length = L
  | 0, _ => List.length_replicate
  | m + 1, o => by
    unfold hM
    split
    · rw [List.length_drop, List.length_append, hM_len l k L m o]
      rfl
    · exact hM_len l k L m o
/-- the history and the cell of the moment m -/
def hAtM (l : List (Int × Int)) (k : Str) (L m : Nat) : List Bool := hM l k L m (ownO k (brAt l m))
def cM (l : List (Int × Int)) (k : Str) (x : Option Int) (L m : Nat) : CK := cK k x (brAt l m).toNat (hAtM l k L m)
/-- the value of each cell ahead of the moment m, none if it wasn't used -/
def vM (l : List (Int × Int)) (k : Str) (x : Option Int) (L : Nat) (w v0 : Int) : Nat → CK → Option Int
  | 0, _ => none
  | m + 1, c => if c = cM l k x L m then some (aft w ((vM l k x L w v0 m c).getD v0) (outM l m)) else vM l k x L w v0 m c
def valM (l : List (Int × Int)) (k : Str) (x : Option Int) (L : Nat) (w v0 : Int) (m : Nat) : Int := (vM l k x L w v0 m (cM l k x L m)).getD v0
def pM (l : List (Int × Int)) (k : Str) (x : Option Int) (L : Nat) (w v0 : Int) (m : Nat) : Int := prd w (valM l k x L w v0 m)
theorem vM_in {l : List (Int × Int)} {k : Str} {x : Option Int} {L : Nat} {w v0 : Int} (hw : 1 ≤ w) (h0 : 0 ≤ v0) (h1 : v0 ≤ top w) : ∀ (m : Nat) (c : CK), 0 ≤ (vM l k x L w v0 m c).getD v0 ∧ (vM l k x L w v0 m c).getD v0 ≤ top w
  | 0, _ => ⟨h0, h1⟩
  | m + 1, c => by
    unfold vM
    split
    · have := vM_in (l := l) (k := k) (x := x) (L := L) hw h0 h1 m c
      exact aft_in hw this.1 this.2
    · exact vM_in hw h0 h1 m c
theorem valM_in {l : List (Int × Int)} {k : Str} {x : Option Int} {L : Nat} {w v0 : Int} (hw : 1 ≤ w) (h0 : 0 ≤ v0) (h1 : v0 ≤ top w) (m : Nat) : 0 ≤ valM l k x L w v0 m ∧ valM l k x L w v0 m ≤ top w := vM_in hw h0 h1 m _
/-- what is told of the first M moments -/
def triD (p : Int × Int × Int) : PyData := .tuple [.int p.1, .int p.2.1, .int p.2.2]
def toldM (l : List (Int × Int)) (k : Str) (x : Option Int) (L : Nat) (w v0 : Int) (M : Nat) : List (Int × Int × Int) := (List.range M).map fun m => (brAt l m, pM l k x L w v0 m, outM l m)
theorem toldM_succ (l : List (Int × Int)) (k : Str) (x : Option Int) (L : Nat) (w v0 : Int) (M : Nat) : toldM l k x L w v0 (M + 1) = toldM l k x L w v0 M ++ [(brAt l M, pM l k x L w v0 M, outM l M)] := by
  unfold toldM
  rw [List.range_succ, List.map_append]
  rfl
theorem toldM_len (l : List (Int × Int)) (k : Str) (x : Option Int) (L : Nat) (w v0 : Int) (M : Nat) : (toldM l k x L w v0 M).length = M := by
  unfold toldM
  rw [List.length_map, List.length_range]
/-- the half of a counter's values, as the laws write it -/
theorem half_top {w : Int} (hw : 1 ≤ w) : 2 * ((1 : Int) * 2 ^ (w - 1).toNat) = top w + 1 := by
  unfold top
  rw [show w.toNat = (w - 1).toNat + 1 by omega, Int.pow_succ]
  omega
theorem prd_half {w v : Int} (hw : 1 ≤ w) : prd w v = if (1 : Int) * 2 ^ (w - 1).toNat ≤ v then 1 else 0 := by
  have := half_top hw
  unfold prd
  by_cases c : (1 : Int) * 2 ^ (w - 1).toNat ≤ v
  · rw [if_pos (by omega), if_pos c]
  · rw [if_neg (by omega), if_neg c]
theorem outM_bit {l : List (Int × Int)} (fair : Fair l) (h : 1 ≤ l.length) (m : Nat) : outM l m = 0 ∨ outM l m = 1 := (fair _ (List.mem_of_getElem? (at_mod h m))).2
theorem brAt_small {l : List (Int × Int)} (fair : Fair l) (h : 1 ≤ l.length) (m : Nat) : 0 ≤ brAt l m ∧ brAt l m ≤ 7 := (fair _ (List.mem_of_getElem? (at_mod h m))).1
/-- the text of a history that an outcome is pushed onto -/
theorem txt_push {h : List Bool} {o : Int} (ho : o = 0 ∨ o = 1) : txt ((h ++ [decide (o = 1)]).drop 1) = ⟨(((txt h).cps.toList ++ [if o = 1 then 49 else 48]).drop 1).toArray⟩ := by
  unfold txt
  rw [List.map_drop, List.map_append]
  rcases ho with rfl | rfl <;> rfl
end Pf
namespace Pf
open PySem PySem.Spec PyProof.Rows L2 Gk Fold
theorem sgn_is1 (d : Bool) : decide (V.str ⟨#[sgn d]⟩ = V.str ("1" : Str)) = d := by cases d <;> decide +kernel
abbrev nLFold : List Str := ["_law_past", "_law_width", "_law_home", "_law_found", "_law_number", "_law_sign"]
abbrev nLPast : List Str := ["_law_loop_here", "_law_plan_here", "_law_time", "_law_found", "_law_here", "_law_home", "_law_deed"]
section
variable {P : Program} {w : World} {K : PySem.W.Frag} {mg : Str → Option Value} {base : Heap}
def spLFold : Sp := fun vs H Q _ => ∃ (l : List Bool) (n b : Nat), vs = [.str (txt l), .int (n : Int), .int (b : Int)] ∧ l.length ≤ 64 ∧ n ≤ 16 ∧ b < 8 ∧ Q (.int ((fol l n b : Nat) : Int)) H
end
end Pf
namespace Pf
open PySem PySem.Spec PyProof.Rows L2 Gk Fold
/-! the law's own cell, its tuples told as keys of dicts -/
section
variable {P : Program} {w : World} {K : PySem.W.Frag} {mg : Str → Option Value} {base : Heap}
end
end Pf
/-! A generator def that is asked for its first item alone. -/
namespace Gk
open PySem PySem.Spec PyProof.Rows L2 GenW

/-- what is wanted behind a statement of a generator that has handed out nothing; yl: of the first item -/
structure FEnds where
  nx : L2.St → Hp → Prop
  rt : VK
  bk : L2.St → Hp → Prop := fun _ _ => False
  ct : L2.St → Hp → Prop := fun _ _ => False
  yl : VK
abbrev TF := FEnds → L2.St → Hp → Prop
def FEnds.at (D : FEnds) : Ends := { nx := D.nx, rt := D.rt, bk := D.bk, ct := D.ct }
def FY (X : Cx) (Q : VK) : Protocol := fun n s₀ v s kap => ∃ x ip σ H, RelV x v ∧ Inv X ip σ H s ∧ Q x H
structure FC (X : Cx) (A : Around) (c : Code) (fs : List Frame) (gd : Bool → Bool) : Prop where
  over : A.over c fs = X.A
  split : splitAtGen fs = none
  guard : fs.any Frame.guarded = false
  gd : gd false = false
  nox : ∀ e s, ¬ X.xe e s
structure FK (X : Cx) (ip : List (Addr × Obj)) (A : Around) (R : GenEnd) (c : Code) (fs : List Frame) (K : Flow → Sem PySem.Fin) (D : FEnds) : Prop where
  ok : ∀ (s₀ s : Shared) (f : Flow), SP X ip D.at f s → Seg (model X.prog X.w) A R (FY X D.yl) 1 s₀ c (K f) fs s
structure FS (X : Cx) (st : Stmt) (t : TF) : Prop where
  run : ∀ (A : Around) (ip : List (Addr × Obj)) (R : GenEnd) (s₀ : Shared) (c : Code) (fs : List Frame) (K : Flow → Sem PySem.Fin) (J : Value → Sem PySem.Fin) (gd : Bool → Bool) (lv : List Value → List Value) (s : Shared) (σ : L2.St) (H : Hp) (D : FEnds),
    FC X A c fs gd → FK X ip A R c fs K D → Inv X ip σ H s → t D σ H →
    Seg (model X.prog X.w) A R (FY X D.yl) 1 s₀ c ((exec st X.env).wrap K J gd lv) fs s
structure FSs (X : Cx) (st : List Stmt) (t : TF) : Prop where
  run : ∀ (A : Around) (ip : List (Addr × Obj)) (R : GenEnd) (s₀ : Shared) (c : Code) (fs : List Frame) (K : Flow → Sem PySem.Fin) (J : Value → Sem PySem.Fin) (gd : Bool → Bool) (lv : List Value → List Value) (s : Shared) (σ : L2.St) (H : Hp) (D : FEnds),
    FC X A c fs gd → FK X ip A R c fs K D → Inv X ip σ H s → t D σ H →
    Seg (model X.prog X.w) A R (FY X D.yl) 1 s₀ c ((execs st X.env).wrap K J gd lv) fs s
section
variable {X : Cx} {st : Stmt} {rest : List Stmt}
def tFPlain (t : TS) : TF := fun D σ H => t D.at σ H
theorem fs_ps {t : TS} (h : PS X st t) : FS X st (tFPlain t) := by
  refine ⟨fun A ip R s₀ c fs K J gd lv s σ H D g k I ht => ?_⟩
  refine seg_wrap ?_
  rw [g.over]
  exact wpAny_mono (h.run _ s σ H D.at I ht) (fun f s' hs => k.ok s₀ s' f hs) fun x s' hx => (g.nox x s' hx).elim
def tF0 : TF := fun D σ H => D.nx σ H
theorem fss_nil : FSs X [] tF0 := by
  refine ⟨fun A ip R s₀ c fs K J gd lv s σ H D g k I ht => ?_⟩
  exact seg_execs_nil (k.ok s₀ s .next ⟨σ, H, I, ht⟩)
def tFThen (t u : TF) : TF := fun D σ H => t { D with nx := fun σ' H' => u D σ' H' } σ H
theorem fss_cons {t u : TF} (a : FS X st t) (b : FSs X rest u) : FSs X (st :: rest) (tFThen t u) := by
  refine ⟨fun A ip R s₀ c fs K J gd lv s σ H D g k I ht => ?_⟩
  refine seg_execs_cons ?_
  refine a.run A ip R s₀ c fs _ J gd lv s σ H { D with nx := fun σ' H' => u D σ' H' } g ⟨fun s₀' s' f hs => ?_⟩ I ht
  cases f with
  | next =>
    obtain ⟨σ', H', I', q⟩ := hs
    exact b.run A ip R s₀' c fs K J gd lv s' σ' H' D g k I' q
  | brk => exact k.ok s₀' s' .brk hs
  | cont => exact k.ok s₀' s' .cont hs
  | ret u => exact k.ok s₀' s' (.ret u) hs
theorem fss_one {t : TF} (a : FS X st t) : FSs X [st] (tFThen t tF0) := fss_cons a fss_nil
def tFYield (te : TE) : TF := fun D σ H => te σ H D.yl
theorem fs_yield {e : Expr} {yp pos : Pos} {te : TE} (he : PE X e te) (hco : X.env.scope.isCoroutine = false := by rfl) (hi : interactive X.env = false := by rfl) : FS X (.Expr (.Yield (some e) yp) pos) (tFYield te) := by
  refine ⟨fun A ip R s₀ c fs K J gd lv s σ H D g k I ht => ?_⟩
  refine seg_Expr_Yield (n := 0) g.split g.gd g.guard ?_ hco hi
  rw [g.over]
  refine wpAny_mono (he.run _ s σ H _ I ht) (fun v s' hv => ?_) fun x s' hx => (g.nox x s' hx).elim
  obtain ⟨x, H1, I1, rv, q⟩ := hv
  intro kap hk
  exact ⟨x, ip, σ, H1, rv, I1, q⟩
def tFIf (c : TT) (t u : TF) : TF := fun D σ H => c σ H fun b H1 => if b = true then t D σ H1 else u D σ H1
theorem fs_if {test : Expr} {body orelse : List Stmt} {pos : Pos} {tc : TT} {tb te : TF} (hc : PT X test tc) (hb : FSs X body tb) (he : FSs X orelse te) : FS X (.If test body orelse pos) (tFIf tc tb te) := by
  refine ⟨fun A ip R s₀ c fs K J gd lv s σ H D g k I ht => ?_⟩
  rw [exec_If]
  show Seg _ _ _ _ _ s₀ c (.at pos fun _ => ((isTrue test X.env (eval test X.env)) >>= fun b => if b = true then execs body X.env else execs orelse X.env).wrap K J gd lv) fs s
  refine seg_at (seg_bind_wrap ?_)
  rw [g.over]
  refine wpAny_mono (hc.run _ s σ H _ I ht) (fun b s' hb' => ?_) fun x s' hx => (g.nox x s' hx).elim
  obtain ⟨H1, I1, q⟩ := hb'
  cases b with
  | true =>
    rw [if_pos rfl] at q
    rw [if_pos rfl]
    exact hb.run A ip R s₀ c fs K J gd lv s' σ H1 D g k I1 q
  | false =>
    rw [if_neg Bool.false_ne_true] at q
    rw [if_neg Bool.false_ne_true]
    exact he.run A ip R s₀ c fs K J gd lv s' σ H1 D g k I1 q
end

/-! ### for -/
section
variable {prog : Program} {w : World} {A : Around} {R : GenEnd} {Y : Protocol} {n : Nat} {s₀ : Shared} {fs : List Frame} {s : Shared} {env : Env}
theorem seg_forLoop {target : Expr} {it : Value} {body : List Stmt} (J : Value → Sem PySem.Fin) (hJ : ∀ e, J e = (do noteFrame e env; theTreesLotGoes e : Sem Unit).bind fun _ => .raise e)
    (h : wpAny (model prog w) (A.over (.forLoop target it body [] env) fs) (pyNext it) (fun r s1 => match r with
      | none => Seg (model prog w) A R Y n s₀ (.forLoop target it body [] env) (.pure (.again (.block [] env))) fs s1
      | some v => wpAny (model prog w) (A.over (.forLoop target it body [] env) fs) (letOwnedTupleGo target it v) (fun _ s2 => wpAny (model prog w) (A.over (.forLoop target it body [] env) fs) (assign target env v) (fun _ s3 =>
          Seg (model prog w) A R Y n s₀ (.forLoop target it body [] env) ((execs body env).wrap (fun f => match f with
            | .next | .cont => .pure (.again (.forLoop target it body [] env))
            | .brk => .pure (.done .next)
            | .ret v => .pure (.done (.ret v))) J id id) fs s3) (fun _ _ => False) s2) (fun _ _ => False) s1) (fun _ _ => False) s) :
    Seg (model prog w) A R Y n s₀ (.forLoop target it body [] env) ((model prog w).den (.forLoop target it body [] env)) fs s := by
  show Seg _ A R Y n s₀ _ ((forTurn target it body [] env).onRaise (fun x => do noteFrame x env; theTreesLotGoes x)) fs s
  rw [Sem.onRaise_eq_wrap]
  unfold forTurn
  refine seg_bind_wrap (wpAny_standAt ?_)
  refine seg_bind_wrap (wpAny_onRaise (wpAny_mono h (fun r s1 h1 => ?_) fun _ _ z => z.elim))
  cases r with
  | none => exact h1
  | some v =>
    dsimp only at h1 ⊢
    refine seg_bind_wrap (wpAny_mono h1 (fun _ s2 h2 => ?_) fun _ _ z => z.elim)
    refine seg_bind_wrap (wpAny_mono h2 (fun _ s3 h3 => ?_) fun _ _ z => z.elim)
    rw [Sem.bind_eq_wrap', Sem.wrap_wrap]
    rw [Sem.wrap_congr (execs body env) _ _ (K' := fun f => match f with
            | .next | .cont => .pure (.again (.forLoop target it body [] env))
            | .brk => .pure (.done .next)
            | .ret v => .pure (.done (.ret v))) (H' := J) (fun f => by cases f <;> rfl) (fun e => by rw [hJ]; rfl)]
    exact h3
end
section
variable {X : Cx}
theorem fc_loop {A : Around} {c c' : Code} {fs : List Frame} {gd : Bool → Bool} {k : Result → Sem PySem.Fin} {l kp : List Value} {p : Pos} (g : FC X A c fs gd) (hw : c'.weight = 0) (hu : c'.cUnits = 0) :
    FC X A c' (.ret k none (gd false) l c p kp :: fs) id where
  over := (over_loop hw hu).trans g.over
  split := by
    show (splitAtGen fs).map _ = none
    rw [g.split]; rfl
  guard := by
    show (gd false || fs.any Frame.guarded) = false
    rw [g.gd, g.guard]; rfl
  gd := rfl
  nox := g.nox
def tFFor (wi : TI) (g : TG) (tb : TF) : TF := fun D σ H => wi σ H fun J H1 => ∃ W : Nat → Nat → L2.St → Hp → Prop, (∃ m, W 0 m σ H1) ∧ ∀ i m σ H, W i m σ H →
  (J.stop i H ∧ D.nx σ H) ∨ (J.go i H ∧ ∃ N : L2.St → Hp → Prop, (∀ σ' H', N σ' H' → ∃ m', m' < m ∧ W (i + 1) m' σ' H') ∧ ∀ x H', J.yld i H x H' → g x σ H' fun σ2 H2 => tb { D with nx := N, ct := N, bk := D.nx } σ2 H2)
theorem fs_for {tg iter : Expr} {body : List Stmt} {wi : TI} {g : TG} {tb : TF} {pos : Pos} (hc : X.calm = true) (hi : PI X tg iter wi) (hg : PG X tg g) (hb : FSs X body tb)
    (hs : ∀ x, foldedSetIterable iter X.env x = pure x := by intro _; rfl) : FS X (.For tg iter body [] pos) (tFFor wi g tb) := by
  refine ⟨fun A ip R s₀ c fs K J gd lv s σ H D gc k I ht => ?_⟩
  rw [exec_For]
  show Seg _ _ _ _ _ s₀ c (.at pos fun _ => (eval iter X.env >>= fun v => foldedSetIterable iter X.env v >>= fun x => standAt iter.pos >>= fun _ => holding [x] (pyIter x) >>= fun it => runOwn (.forLoop tg it body [] X.env) X.env).wrap K J gd lv) fs s
  refine seg_at (seg_bind_wrap ?_)
  rw [gc.over]
  refine wpAny_mono (hi.run _ s σ H _ I ht) (fun v s1 h1 => ?_) fun x s' hx => (gc.nox x s' hx).elim
  refine seg_bind_wrap (wpAny_of_eq (hs v) ?_)
  refine seg_bind_wrap (wpAny_standAt ?_)
  refine seg_bind_wrap (wpAny_holding ?_)
  rw [gc.over]
  refine wpAny_mono h1 (fun itv s2 h2 => ?_) fun x s' hx => (gc.nox x s' hx).elim
  obtain ⟨it, fp, tn, Jt, H2, e, I2, T, st2, f2, W, ⟨m0, w0⟩, turn⟩ := h2
  subst e
  have stat : ∀ {H' : Hp}, (∀ b ∈ fp, H' b = none) → ∀ b ∈ fp, FpOk X ip H' b := fun hn b hb => ⟨hn b hb, (f2 b hb).2⟩
  show Seg _ _ _ _ _ s₀ c (.call (.forLoop tg (.ref it) body [] X.env) none (gd false) (lv []) fun r => ((match r with | .ok f => (.pure f : Sem Flow) | .error e => .raise e).onRaise (cameBack X.env)).wrap K J gd lv) fs s2
  refine seg_call fun p => ?_
  have gl := fun (kk : Result → Sem PySem.Fin) => fc_loop (k := kk) (c' := .forLoop tg (.ref it) body [] X.env) (l := lv []) (kp := []) (p := p) gc rfl rfl
  have loop : ∀ (m i : Nat) (s₀ s : Shared) (σ : L2.St) (H : Hp), Inv X ip σ H s → tn i s.heap → (∀ b ∈ fp, H b = none) → W i m σ H →
      Seg (model X.prog X.w) A R (FY X D.yl) 1 s₀ (.forLoop tg (.ref it) body [] X.env) ((model X.prog X.w).den (.forLoop tg (.ref it) body [] X.env))
        (.ret (fun r => ((match r with | .ok f => (.pure f : Sem Flow) | .error e => .raise e).onRaise (cameBack X.env)).wrap K J gd lv) none (gd false) (lv []) c p [] :: fs) s := by
    intro m
    induction m using Nat.strongRecOn with
    | ind m ih =>
      intro i s₀ s3 σ3 H3 I3 st3 fr3 w3
      refine seg_forLoop (fun e => (do noteFrame e X.env; theTreesLotGoes e : Sem Unit).bind fun _ => .raise e) (fun _ => rfl) ?_
      rw [(gl _).over]
      rcases turn i m σ3 H3 w3 with ⟨stop, qn⟩ | ⟨go, N, hN, step⟩
      · refine wpAny_mono (T.done X rfl rfl rfl hc i ip s3 σ3 H3 (fun _ _ => False) I3 (stat fr3) st3 stop) (fun r s4 ⟨hr, I4⟩ => ?_) fun _ _ z => z.elim
        subst hr
        dsimp only
        refine seg_again rfl ?_
        exact seg_leaf (.ok .next) (k.ok s₀ s4 .next ⟨σ3, H3, I4, qn⟩)
      · refine wpAny_mono (T.item X rfl rfl rfl hc i ip s3 σ3 H3 (fun _ _ => False) I3 (stat fr3) st3 go) (fun r s4 ⟨u, hr, h4⟩ => ?_) fun _ _ z => z.elim
        subst hr
        dsimp only
        refine wpAny_mono h4 (fun _ s5 ⟨x, H5, I5, r5, y5, st5, fr5⟩ => ?_) fun _ _ z => z.elim
        have I5' := I5.pinned (stat fr5) (T.obj _ _ st5)
        refine wpAny_mono (hg.run _ s5 σ3 H5 x u _ I5' r5 (step x H5 y5)) (fun _ s6 ⟨σ6, H6, I6, q6⟩ => ?_) fun x s' hx => (gc.nox x s' hx).elim
        have again : ∀ {s7 : Shared} {σ7 : L2.St} {H7 : Hp}, Inv X (ip ++ pinsAt fp s5.heap) σ7 H7 s7 → N σ7 H7 → ∃ m', m' < m ∧ Inv X ip σ7 H7 s7 ∧ tn (i + 1) s7.heap ∧ (∀ b ∈ fp, H7 b = none) ∧ W (i + 1) m' σ7 H7 := fun {s7 σ7 H7} I7 n7 => by
          obtain ⟨m', hm, w7⟩ := hN σ7 H7 n7
          refine ⟨m', hm, I7.unpinned, T.keep _ _ _ st5 fun b hb o e => (I7.pin (b, o) (List.mem_append_right _ (List.mem_append_right _ (mem_pinsAt hb e)))).1, fun b hb => ?_, w7⟩
          obtain ⟨o, e, d⟩ := T.obj _ _ st5 b hb
          exact (I7.pin (b, o) (List.mem_append_right _ (List.mem_append_right _ (mem_pinsAt hb e)))).2.1
        refine hb.run A (ip ++ pinsAt fp s5.heap) R s₀ _ _ _ _ id id s6 σ6 H6 { D with nx := N, ct := N, bk := D.nx } (gl _) ⟨fun s₀' s7 f hs => ?_⟩ I6 q6
        cases f with
        | next =>
          obtain ⟨σ7, H7, I7, n7⟩ := hs
          obtain ⟨m', hm, J7, st7, fr7, w7⟩ := again I7 n7
          exact seg_again rfl (ih m' hm (i + 1) s₀' s7 σ7 H7 J7 st7 fr7 w7)
        | cont =>
          obtain ⟨σ7, H7, I7, n7⟩ := hs
          obtain ⟨m', hm, J7, st7, fr7, w7⟩ := again I7 n7
          exact seg_again rfl (ih m' hm (i + 1) s₀' s7 σ7 H7 J7 st7 fr7 w7)
        | brk =>
          obtain ⟨σ7, H7, I7, q7⟩ := hs
          exact seg_leaf (.ok .next) (k.ok s₀' s7 .next ⟨σ7, H7, I7.unpinned, q7⟩)
        | ret v =>
          obtain ⟨x7, σ7, H7, I7, r7, q7⟩ := hs
          exact seg_leaf (.ok (.ret v)) (k.ok s₀' s7 (.ret v) ⟨x7, σ7, H7, I7.unpinned, r7, q7⟩)
  exact loop m0 0 s₀ s2 σ H2 I2 st2 (fun b hb => (f2 b hb).1) w0
theorem for_rangeF {lo : Int} {n : Nat} {g : TG} {tb : TF} {D : FEnds} {σ : L2.St} {H : Hp} (Pv : Nat → L2.St → Hp → Prop) (h0 : Pv 0 σ H)
    (hs : ∀ i σ H, i < n → Pv i σ H → g (.int (lo + i)) σ H fun σ2 H2 => tb { D with nx := Pv (i + 1), ct := Pv (i + 1), bk := D.nx } σ2 H2) (hd : ∀ σ H, Pv n σ H → D.nx σ H) :
    ∃ W : Nat → Nat → L2.St → Hp → Prop, (∃ m, W 0 m σ H) ∧ ∀ i m σ H, W i m σ H →
      ((Itr lo n).stop i H ∧ D.nx σ H) ∨ ((Itr lo n).go i H ∧ ∃ N : L2.St → Hp → Prop, (∀ σ' H', N σ' H' → ∃ m', m' < m ∧ W (i + 1) m' σ' H') ∧ ∀ x H', (Itr lo n).yld i H x H' → g x σ H' fun σ2 H2 => tb { D with nx := N, ct := N, bk := D.nx } σ2 H2) := by
  refine ⟨fun i m σ H => m = n - i ∧ i ≤ n ∧ Pv i σ H, ⟨n, by simp, Nat.zero_le _, h0⟩, ?_⟩
  rintro i m σ H ⟨rfl, hi, p⟩
  by_cases hlt : i < n
  · refine .inr ⟨hlt, Pv (i + 1), fun σ' H' p' => ⟨n - (i + 1), by omega, rfl, hlt, p'⟩, fun x H' y => ?_⟩
    obtain ⟨e, y⟩ := y
    subst e y
    exact hs i σ _ hlt p
  · have e : i = n := by omega
    subst e
    exact .inl ⟨Nat.le_refl _, hd σ H p⟩
end
end Gk
/-! A generator def's promise of its first item; for over it, left at the first turn. -/
namespace Gk
open PySem PySem.Spec PyProof.Rows L2 GenW

/-- the arguments, the heap, what is wanted if nothing is handed out, what is wanted of the first item -/
abbrev SpF := List V → Hp → (Hp → Prop) → VK → Prop
def FBack (P : Program) (w : World) (outer : List Env) (H : Hp) (s : Shared) (a : Addr) (g : Nat) (H' : Hp) (s1 : Shared) : Prop :=
  s1.os = s.os ∧ AllBare s1.gens ∧ Un (frs outer) [] H H' s.heap s1.heap ∧ HOk P w H' s1.heap ∧ s1.heap.IsGen a g
def FEnd (P : Program) (w : World) (outer : List Env) (H : Hp) (s : Shared) (a : Addr) (g : Nat) (Q : Hp → Prop) (s1 : Shared) : Prop := ∃ H', FBack P w outer H s a g H' s1 ∧ Q H'
def FREnd (P : Program) (w : World) (outer : List Env) (H : Hp) (s : Shared) (a : Addr) (g : Nat) (Q : Hp → Prop) : GenEnd := fun n s₀ r s1 =>
  ((r = .ok (.ret .none) ∨ r = .ok .next) ∧ FEnd P w outer H s a g Q s1) ∨ ∃ e, r = .error e ∧ False
def FYItem (P : Program) (w : World) (outer : List Env) (H : Hp) (s : Shared) (a : Addr) (g : Nat) (Q : VK) : Protocol := fun n s₀ v s1 kap =>
  ∃ x H', RelV x v ∧ FBack P w outer H s a g H' s1 ∧ Q x H'
def FMade (P : Program) (w : World) (k : Nat) (outer : List Env) (H : Hp) (s : Shared) (Qn : Hp → Prop) (Qy : VK) (u : Value) (s' : Shared) : Prop :=
  ∃ (a : Addr) (g : Nat) (c : Code), u = .ref a ∧ s.heap.objs.size ≤ a ∧ a < s'.heap.objs.size ∧ s'.heap.IsGen a g ∧ s'.gens[g]? = some (.fresh c) ∧ s'.os = s.os ∧ AllBare s'.gens ∧ s'.heap.NoLimit ∧ (∀ b o, s.heap.get? b = some o → s'.heap.get? b = some o) ∧
    ∀ (A : Around) (s2 : Shared), Room k A → A.frames = some outer → (∀ b o, s'.heap.get? b = some o → s2.heap.get? b = some o) → s2.os = s.os → AllBare s2.gens →
      Seg (model P w) A (FREnd P w outer H s a g Qn) (FYItem P w outer H s a g Qy) 1 s2 c ((model P w).den c) [] s2
structure GF (P : Program) (w : World) (K : PySem.W.Frag) (mg : Str → Option Value) (base : Heap) (k : Nat) (f : Addr) (fd : FuncData) (ps : List Str) (sp : SpF) : Prop where
  len : ∀ vs H Qn Qy, sp vs H Qn Qy → vs.length = ps.length
  run : ∀ (A : Around) (outer : List Env) (s : Shared) (H : Hp) (args : Args) (us : List Value) (vs : List V) (Qn : Hp → Prop) (Qy : VK), Room k A → Env0 P w K mg base A outer s H → BindsTo s fd args (ps.zip us) → Vals vs us → sp vs H Qn Qy →
    codeAny (model P w) A (.call (.ref f) args) (fun r s' => match r with | .ok (.ret u) => FMade P w k outer H s Qn Qy u s' | _ => False) s
/-- the context of the body: nothing is raised -/
def fcx (P : Program) (w : World) (K : PySem.W.Frag) (mg : Str → Option Value) (base : Heap) (N : List Str) (qual : Str) (scope : Scope) (f : Addr) (cd : Value) (A : Around) (outer : List Env) (s : Shared) (H : Hp) (pn : List (Addr × Obj)) : Cx :=
  (gcxOf P w K mg base N qual scope f cd A outer s H L2.E0 pn).nox
theorem gf_of {P : Program} {w : World} {K : PySem.W.Frag} {mg : Str → Option Value} {base : Heap} {k : Nat} {f : Addr} {name qual : Str} {params : Arguments} {body : List Stmt} {scope : Scope} {dV kV doc pm cdv ct oc : Value} {an od : Option Addr}
    {osl : Array (Option Value)} {N ps : List Str} {sp : SpF} (lk : K.lookup f = some ⟨oc, od, .func (PySem.W.fnOf name qual params body scope dV kV doc pm an cdv ct), osl⟩) (hcd : PySem.W.codeIn K cdv qual = true) (S : GScope N ps scope)
    (len : ∀ vs H Qn Qy, sp vs H Qn Qy → vs.length = ps.length)
    (hbody : ∀ (A : Around) (outer : List Env) (s : Shared) (H : Hp) (vs : List V) (Qn : Hp → Prop) (Qy : VK) (pn : List (Addr × Obj)), Room k (A.deeper (envOfC qual scope s.heap.objs.size f cdv)) → sp vs H Qn Qy →
      ∃ t, FSs (fcx P w K mg base N qual scope f cdv A outer s H pn) body t ∧ t { nx := fun _ H' => Qn H', rt := fun v H' => v = .non ∧ Qn H', yl := Qy } (start N vs) H) :
    GF P w K mg base (k + 1) f (PySem.W.fnOf name qual params body scope dV kV doc pm an cdv ct) ps sp := by
  refine ⟨len, fun A outer s H args us vs Qn Qy hr e0 hb r hsp => ?_⟩
  have hl := len _ _ _ _ hsp
  have KX : K.In s.heap := e0.mod.kin.keeps fun b o e => (e0.bs b o e).1
  have lim : s.heap.NoLimit := e0.mod.nolimit.keeps fun b o e => (e0.bs b o e).1
  have hkind : ∀ y ∈ ps.zip us, scope.names.lookup y.1 = some .local ∨ (scope.names.lookup y.1 = some .cell ∧ ((cellsFrom (s.heap.objs.size + 1) scope.names []).lookup y.1).isSome = true) := fun ⟨n, v⟩ hy => by
    rcases S.par n (List.of_mem_zip hy).1 with q | q
    · exact .inl q
    · exact .inr ⟨q, PySem.W.cellsFrom_some _ _ _ (.inl q)⟩
  refine codeAny_call_generator hr.depth (KX _ _ lk) rfl S.co S.gen rfl (PySem.W.codeRec_of KX hcd) (hb _ _ _ _ ?_)
  refine wpAny_newFunctionEnv_cells S.kind hkind fun env he s1 x => ?_
  subst he
  have lim1 : s1.heap.NoLimit := lim.keeps x.toInCall.keep
  refine ⟨lim1, ?_⟩
  obtain ⟨h1, tk, es1, hk1⟩ := x.done
  have os1 : s1.os = s.os := by rw [es1]
  have gen1 : s1.gens = s.gens := by rw [es1]
  have lt1 : s.heap.objs.size < s1.heap.objs.size := x.toInCall.ns.lt
  have sz1 : s.heap.objs.size ≤ s1.heap.objs.size := Nat.le_of_lt lt1
  have kp1 : ∀ b o, s.heap.get? b = some o → s1.heap.get? b = some o := x.toInCall.keep
  have main : ∀ (go : Obj) (nm qn : Value) (tk2 : Nat), go.cls = .type "generator" → go.data = .fields #[.int s1.gens.size 0, nm, qn] → go.slots = #[] → (∀ h : Heap, (h.push go).get? h.objs.size = some go) →
      FMade P w (k + 1) outer H s Qn Qy (.ref s1.heap.objs.size) { s1 with gens := s1.gens.push (.fresh (.func body (envOfC qual scope s.heap.objs.size f cdv))), toks := tk2, heap := s1.heap.push go } := by
    intro go nm qn tk2 hgc hgd0 hgs hgp
    have hgen : ∀ h : Heap, h.get? s1.heap.objs.size = some go → h.IsGen s1.heap.objs.size s1.gens.size := fun h e => ⟨go, nm, qn, e, hgc, hgd0, hgs⟩
    have hpushed : (s1.heap.push go).get? s1.heap.objs.size = some go := hgp _
    refine ⟨s1.heap.objs.size, s1.gens.size, _, rfl, sz1, ?_, hgen _ hpushed, Array.getElem?_push_size .., os1, ?_, lim1.keeps fun b o e => Heap.get?_push_of_some _ e, fun b o e => Heap.get?_push_of_some _ (kp1 b o e), ?_⟩
    · show _ < (s1.heap.push _).objs.size
      rw [Heap.size_push]; exact Nat.lt_succ_self _
    · exact AllBare.push (by rw [gen1]; exact e0.bare) rfl
    intro Aw s2 hrw hfr hk2 hos hba
    have e0w : Env0 P w K mg base Aw outer s H := ⟨hfr, e0.mod, e0.bs, e0.bsz, e0.funs, e0.frf, e0.hok, e0.bare⟩
    obtain ⟨t, ht, hq⟩ := hbody Aw outer s H vs Qn Qy [(s1.heap.objs.size, go)] (hrw.deeper _) hsp
    have I1 : Inv (gcxOf P w K mg base N qual scope f cdv Aw outer s H L2.E0 []) [] (start N vs) H s1 := inv_startG S hrw.hd e0w hl r x
    have kp2 : ∀ b o, s1.heap.get? b = some o → s2.heap.get? b = some o := fun b o e => hk2 b o (Heap.get?_push_of_some _ e)
    have I2 : Inv (gcxOf P w K mg base N qual scope f cdv Aw outer s H L2.E0 []) [] (start N vs) H s2 :=
      I1.call' (ch := []) (hos.trans os1.symm) (Un.kept kp2) (I1.hok.kept kp2) hba fun b z => by simp at z
    have hea : s2.heap.get? s1.heap.objs.size = some go := hk2 s1.heap.objs.size go hpushed
    have hgd : ∀ v, go.data ≠ .cell v := fun v q => by rw [hgd0] at q; cases q
    have hG : Inv (fcx P w K mg base N qual scope f cdv Aw outer s H [(s1.heap.objs.size, go)]) [] (start N vs) H s2 := by
      refine Inv.wish (X := gcxOf P w K mg base N qual scope f cdv Aw outer s H L2.E0 [(s1.heap.objs.size, go)]) (Inv.pinnedG I2 fun p hp => ?_) _
      rcases List.mem_append.mp hp with z | z
      · rw [List.mem_singleton.mp z]
        exact ⟨hea, I1.hok.fresh (Nat.le_refl _), Nat.ne_of_gt lt1, I1.nofs (Nat.le_refl _), hgd⟩
      · cases z
    have back : ∀ {ip : List (Addr × Obj)} {s' : Shared} {σ' : L2.St} {H' : Hp}, Inv (fcx P w K mg base N qual scope f cdv Aw outer s H [(s1.heap.objs.size, go)]) ip σ' H' s' → FBack P w outer H s s1.heap.objs.size s1.gens.size H' s' := fun {ip s' σ' H'} J =>
      ⟨J.os, J.bare, J.base, J.hok, hgen _ (J.pin (s1.heap.objs.size, go) (List.mem_append_left _ (List.mem_singleton.mpr rfl))).1⟩
    refine seg_func ?_
    refine seg_imp (R := FREnd P w outer H s s1.heap.objs.size s1.gens.size Qn) (Y := FY (fcx P w K mg base N qual scope f cdv Aw outer s H [(s1.heap.objs.size, go)]) Qy) (fun n s₀ r s1' hR => hR) (fun n s₀ v s1' kap kap' hkk hY => ?_) 1 ?_
    · obtain ⟨xx, ip, σ', H', rv, J, q⟩ := hY
      exact ⟨xx, H', rv, back J, q⟩
    · refine ht.run Aw [] _ s2 _ [] _ _ id id s2 (start N vs) H _ ⟨over_func, rfl, rfl, rfl, fun _ _ z => z⟩ ⟨fun s₀ s' fl hs => ?_⟩ hG hq
      cases fl with
      | next =>
        obtain ⟨σ', H', J, hQ⟩ := hs
        exact seg_end (.ok (.ret .none)) (.inl ⟨.inl rfl, H', back J, hQ⟩)
      | brk => obtain ⟨_, _, _, q⟩ := hs; exact False.elim q
      | cont => obtain ⟨_, _, _, q⟩ := hs; exact False.elim q
      | ret u =>
        obtain ⟨v, σ', H', J, rv, ev, hQ⟩ := hs
        subst ev
        have eu : u = Value.none := rv
        subst eu
        exact seg_end (.ok (.ret .none)) (.inl ⟨.inl rfl, H', back J, hQ⟩)
  exact main _ _ _ _ rfl rfl rfl fun h => Heap.get?_push_size _ rfl

/-! ### for x in f(..): .., left at its first turn -/
section
variable {X : Cx} {k : Nat} {f : Addr} {fd : FuncData} {ps : List Str} {sp : SpF} {x : Str} {p pos fpos : Pos} {e : Expr} {es : List Expr} {t : TA} {tg : Expr} {g : TG} {tb : TS} {body : List Stmt}
def tForF (sp : SpF) (t : TA) (g : TG) (tb : TS) : TS := fun D σ H => t σ H fun vs H1 => sp vs H1 (fun H2 => D.nx σ H2) fun v H2 => g v σ H2 fun σ3 H3 => tb { D with nx := fun _ _ => False, ct := fun _ _ => False, bk := D.nx } σ3 H3
theorem ps_forF (F : GF X.prog X.w X.K X.mg X.base k f fd ps sp) (hr : Room (k + 3) X.A) (hx : Gl X x) (hm : X.mg x = some (.ref f)) (hk : PySem.W.keepIn X.K (.ref f) = true) (hbn : Binds X.K fd ps [])
    (ha : PA X (e :: es) t) (hp : PassesOwn (model X.prog X.w) X.A X.env X.xe) (hc : X.calm = true) (hg : PG X tg g) (hb : PSs X body tb)
    (hdb : (x == ("__debug__" : Str)) = false := by decide) (he : starEach (e :: es) X.env = (false, eval e X.env) :: starEach es X.env := by rfl) (hpl : (backTo pos (starEach es X.env)).any (·.1) = false := by rfl)
    (hs : ∀ v, foldedSetIterable (.Call (.Name x p) (e :: es) [] pos) X.env v = pure v := by intro _; rfl) :
    PS X (.For tg (.Call (.Name x p) (e :: es) [] pos) body [] fpos) (tForF sp t g tb) := by
  refine ⟨fun pins s σ H D I h => ?_⟩
  refine wpAny_For ?_ hs
  refine wpAny_Call_Name_kw (ld_glob I hx hm ?_ hdb)
  refine PySem.W.callWith_K (h₀ := X.base) I.ok.mod.kin hk (thn (ha.run pos pins s σ H _ I h) fun us s1 ⟨vs, H1, I1, r1, q1⟩ => ⟨I1.kIn, ?_⟩) he hpl
  have hl : (us ++ []).length = ps.length := by rw [List.append_nil, ← r1.length]; exact F.len _ _ _ _ q1
  have b := hbn s1 us I1.kIn hl
  rw [List.append_nil] at b
  refine wpAny_call (codeAny_mono (F.run X.A X.stack s1 H1 ⟨us, []⟩ us vs _ _ (hr.mono (by omega)) I1.env0 b r1 q1) fun res s2 hq => ?_)
  cases res with
  | error er => exact False.elim hq
  | ok fl =>
    cases fl with
    | brk => exact False.elim hq
    | cont => exact False.elim hq
    | next => exact False.elim hq
    | ret u =>
      obtain ⟨a, gi, c, rfl, ha1, ha2, hgen, hgs, hos, hbare, hlim, hkp, wake⟩ := hq
      refine wpAny_pyIter_gen hgen ?_
      refine codeAny_forLoop_any (fun n s' => n = 0 ∧ s' = s2) ?_ 0 ⟨rfl, rfl⟩
      rintro n s3 ⟨rfl, rfl⟩
      have rm : Room k X.A.in1.in1 := by
        refine ⟨hr.hd, ?_, ?_⟩
        · have := hr.dp
          show X.A.depth + 3 * k + 5 < _
          omega
        · have := hr.un
          show X.A.units + 1 + 1 + 16 * k + 200 < _
          omega
      have dep : X.A.depth < recursionLimit := by have := hr.dp; omega
      have goes : GenState.Goes (model X.prog X.w) X.A.in1 (fun n s₀ r s₁ => ((r = .ok (.ret .none) ∨ r = .ok .next) ∧ FEnd X.prog X.w X.stack H1 s1 a gi (fun H2 => D.nx σ H2) s₁) ∨ ∃ e, r = .error e ∧ False)
          (FYItem X.prog X.w X.stack H1 s1 a gi fun v H2 => g v σ H2 fun σ3 H3 => tb { D with nx := fun _ _ => False, ct := fun _ _ => False, bk := D.nx } σ3 H3) 1 (.fresh c) (.send .none) (s3.setGen gi .running) :=
        ⟨rfl, wake X.A.in1 _ ⟨rm.hd, by have := hr.dp; show X.A.depth + 3 * k + 5 < _; omega, by have := hr.un; show X.A.units + 1 + 16 * k + 200 < _; omega⟩ I1.ok.frames (fun _ _ z => z) hos (allBare_setGen hbare rfl)⟩
      refine wpAny_passesOwn hp (next_genG (F := fun _ _ s₁ => FEnd X.prog X.w X.stack H1 s1 a gi (fun H2 => D.nx σ H2) s₁) (Er := fun _ _ => False) (I1.ok.hd hc) hlim dep hgen hgs goes (fun v s₁ gs' hbg hv => ?_) (fun s₁ hf h' hk' => ?_) fun e s₁ z => z.elim)
      · obtain ⟨vv, H2, rv, ⟨o1, o2, o3, o4, o5⟩, q⟩ := hv
        have J : Inv X pins σ H2 (s₁.setGen gi gs') := I1.call' (ch := []) o1 o3 o4 (allBare_setGen o2 hbg) fun b z => by cases z
        obtain ⟨og, nm, qn, hog, hcg, hdg, hsg⟩ := o5
        refine go_of (s := s₁.setGen gi gs') (o := og) (n := "generator") hog hcg hdg (by decide) ?_
        refine wpAny_passesOwn hp (thn (hg.run _ _ σ H2 vv v _ J rv q) fun _ s6 ⟨σ6, H6, I6, q6⟩ => ?_)
        refine wpAny_passesOwn hp (thn (hb.run _ s6 σ6 H6 _ I6 q6) fun f s7 q7 => ?_)
        cases f with
        | next => obtain ⟨_, _, _, z⟩ := q7; exact False.elim z
        | cont => obtain ⟨_, _, _, z⟩ := q7; exact False.elim z
        | brk => exact q7
        | ret v => exact q7
      · obtain ⟨H2, ⟨o1, o2, o3, o4, o5⟩, q⟩ := hf
        have J : Inv X pins σ H2 { s₁.setGen gi .finished with heap := h' } := I1.call' (ch := []) o1 (o3.trans (Un.kept hk')) (o4.kept hk') (allBare_setGen o2 rfl) fun b z => by cases z
        exact wpAny_execs_nil ⟨σ, H2, J, q⟩
end
end Gk
namespace Gk
open PySem PySem.Spec PyProof.Rows L2 GenW
section
variable {P : Program} {w : World} {K : PySem.W.Frag} {mg : Str → Option Value} {base : Heap}
theorem gF_ok {x qual : Str} {st : Stmt} {f : Addr} {fd : FuncData} {N ps : List Str} {k : Nat} {sp : SpF} (F : L2.Fun K x qual st f fd) (S : GScope N ps (defScope st))
    (len : ∀ vs H Qn Qy, sp vs H Qn Qy → vs.length = ps.length)
    (hbody : ∀ (cdv : Value) (A : Around) (outer : List Env) (s : Shared) (H : Hp) (vs : List V) (Qn : Hp → Prop) (Qy : VK) (pn : List (Addr × Obj)), Room k (A.deeper (envOfC qual (defScope st) s.heap.objs.size f cdv)) → sp vs H Qn Qy →
      ∃ t, FSs (fcx P w K mg base N qual (defScope st) f cdv A outer s H pn) (defBody st) t ∧ t { nx := fun _ H' => Qn H', rt := fun v H' => v = .non ∧ Qn H', yl := Qy } (start N vs) H) :
    GF P w K mg base (k + 1) f fd ps sp := by
  obtain ⟨oc, od, kV, doc, pm, an, cdv, ct, osl, rfl, lk, hcd⟩ := F.ex
  exact gf_of lk hcd S len fun A outer s H vs Qn Qy pn hr h => hbody cdv A outer s H vs Qn Qy pn hr h
structure Dgf (P : Program) (w : World) (K : PySem.W.Frag) (mg : Str → Option Value) (base : Heap) (k : Nat) (x : Str) (ps : List Str) (sp : SpF) : Prop where
  ex : ∃ (f : Addr) (fd : FuncData), GF P w K mg base k f fd ps sp ∧ mg x = some (.ref f) ∧ PySem.W.keepIn K (.ref f) = true ∧ Binds K fd ps []
end
section
variable {X : Cx} {k j : Nat} {ps : List Str} {sp : SpF} {x : Str} {p pos fpos : Pos} {e : Expr} {es : List Expr} {t : TA} {tg : Expr} {g : TG} {tb : TS} {body : List Stmt}
theorem ps_forD (D : Dgf X.prog X.w X.K X.mg X.base k x ps sp) (hr : Room j X.A) (hj : k + 3 ≤ j) (hx : Gl X x)
    (ha : PA X (e :: es) t) (hp : PassesOwn (model X.prog X.w) X.A X.env X.xe) (hc : X.calm = true) (hg : PG X tg g) (hb : PSs X body tb)
    (hdb : (x == ("__debug__" : Str)) = false := by decide) (he : starEach (e :: es) X.env = (false, eval e X.env) :: starEach es X.env := by rfl) (hpl : (backTo pos (starEach es X.env)).any (·.1) = false := by rfl)
    (hs : ∀ v, foldedSetIterable (.Call (.Name x p) (e :: es) [] pos) X.env v = pure v := by intro _; rfl) :
    PS X (.For tg (.Call (.Name x p) (e :: es) [] pos) body [] fpos) (tForF sp t g tb) := by
  obtain ⟨f, fd, F, hm, hk, hb'⟩ := D.ex
  exact ps_forF F (hr.mono hj) hx hm hk hb' ha hp hc hg hb hdb he hpl hs
end
end Gk
/-! A generator def whose items are asked for one by one, its caller going on between them. -/
namespace Gk
open PySem PySem.Spec PyProof.Rows L2 GenW

/-! ### the heap up to an address -/
def cut (h : Heap) (n : Nat) : Heap := { h with objs := h.objs.extract 0 n }
theorem cut_get (h : Heap) (n b : Nat) : (cut h n).get? b = if b < n then h.get? b else none := by
  unfold cut Heap.get?
  simp only [Array.getElem?_extract]
  by_cases c : b < n
  · rw [if_pos c]
    by_cases d : b < h.objs.size
    · rw [if_pos (by omega), Nat.zero_add]
    · rw [if_neg (by omega), Array.getElem?_eq_none (by omega)]
  · rw [if_neg c, if_neg (by omega)]
theorem cut_lt {h : Heap} {n b : Nat} {o : Obj} (e : (cut h n).get? b = some o) : b < n ∧ h.get? b = some o := by
  rw [cut_get] at e
  by_cases c : b < n
  · rw [if_pos c] at e
    exact ⟨c, e⟩
  · rw [if_neg c] at e
    cases e
theorem cut_of {h : Heap} {n b : Nat} {o : Obj} (c : b < n) (e : h.get? b = some o) : (cut h n).get? b = some o := by
  rw [cut_get, if_pos c, e]
theorem cut_size (h : Heap) (n : Nat) : (cut h n).objs.size ≤ n := by
  unfold cut
  simp only [Array.size_extract]
  omega
theorem cut_size' {h : Heap} {n m : Nat} (a : m ≤ n) (b : m ≤ h.objs.size) : m ≤ (cut h n).objs.size := by
  unfold cut
  simp only [Array.size_extract]
  omega
theorem funs_cut {h0 h base : Heap} {n : Nat} (hn : h0.objs.size ≤ n) : ∀ {l : List Env}, h0.FunFrames base l → h.FunFrames base l → (cut h n).FunFrames base l
  | [], _, _ => trivial
  | env :: r, ⟨_, ⟨L, _, f0, _, g0, _⟩, r0⟩, ⟨k1, ⟨L', o, f1, b1, g1, d1⟩, r1⟩ => by
    have e : L = L' := by rw [f0] at f1; exact Option.some.inj f1
    subst e
    exact ⟨k1, ⟨L, o, f1, b1, cut_of (Nat.lt_of_lt_of_le (Heap.lt_size g0) hn) g1, d1⟩, funs_cut hn r0 r1⟩

/-! ### the generator's context anew at each turn -/
def re (X : Cx) (s : Shared) (H : Hp) : Cx := { X with s_0 := { s with heap := cut s.heap X.env.locals }, H_0 := H }
/-- a generator's context: no cells of its own, no pins, nothing exempt; nothing is raised -/
structure GCx (X : Cx) : Prop where
  n0 : X.s_0.heap.objs.size = X.env.locals
  ex : X.ex = []
  pn : X.pn = []
  calm : X.calm = true
  cells : ∀ x, X.env.cells.lookup x = none
  nox : ∀ e s, ¬ X.xe e s
/-- what must hold of the state at which the generator goes on -/
structure On (X : Cx) (s : Shared) (H : Hp) : Prop where
  bs : ∀ b o, X.base.get? b = some o → s.heap.get? b = some o ∧ H b = none
  bsz : X.base.objs.size ≤ s.heap.objs.size
  funs : s.heap.FunFrames X.base X.outer
  frf : ∀ b ∈ X.fs, H b = none
  hok : HOk X.prog X.w H s.heap
  bare : AllBare s.gens
theorem On.of {X : Cx} {A : Around} {s : Shared} {H : Hp} (e : Env0 X.prog X.w X.K X.mg X.base A X.outer s H) : On X s H := ⟨e.bs, e.bsz, e.funs, e.frf, e.hok, e.bare⟩
theorem re_ok {X : Cx} {s : Shared} {H : Hp} (g : GCx X) (ok : X.Ok) (o : On X s H) : (re X s H).Ok where
  mod := ok.mod
  kind := ok.kind
  glob := ok.glob
  blt := ok.blt
  above := cut_size _ _
  inj := ok.inj
  has := ok.has
  cab := fun x c _ e => by
    have e : X.env.cells.lookup x = some c := e
    rw [g.cells x] at e
    cases e
  hd := ok.hd
  frames := ok.frames
  stk := ok.stk
  exf := ok.exf
  bs := fun b ob e => ⟨cut_of (Nat.lt_of_lt_of_le (Heap.lt_size e) (Nat.le_trans ok.bsz (Nat.le_of_eq g.n0))) (o.bs b ob e).1, (o.bs b ob e).2⟩
  bsz := cut_size' (Nat.le_trans ok.bsz (Nat.le_of_eq g.n0)) o.bsz
  noex := ok.noex
  exfs := ok.exfs
  funs := funs_cut (Nat.le_of_eq g.n0) ok.funs o.funs
  frf := o.frf
/-- what the generator leaves behind while it sleeps: its frame, its loops' iterators -/
structure Slept (X : Cx) (ip : List (Addr × Obj)) (σ : L2.St) (oL : Obj) : Prop where
  loc : ∀ h : Heap, h.get? X.env.locals = some oL → ∃ m, h.Ns X.env.locals m ∧ ∀ (i : Nat) (x : Str) (v : V), X.N[i]? = some x → σ[i]? = some (some v) → Vis X.env.scope x → ∃ u, RelV v u ∧ Look X.env h m x u
  pin : ∀ p ∈ ip, p.1 ≠ X.env.locals ∧ p.1 ∉ X.fs ∧ ∀ v, p.2.data ≠ .cell v
  data : ∀ v, oL.data ≠ .cell v
  nfs : X.env.locals ∉ X.fs
  len : σ.length = X.N.length
/-- the generator goes to sleep -/
theorem sleep {X : Cx} {s0 s : Shared} {H0 H : Hp} {pe ip : List (Addr × Obj)} {σ : L2.St} (g : GCx X) (I : Inv (re X s0 H0) (pe ++ ip) σ H s) : ∃ oL, s.heap.get? X.env.locals = some oL ∧ H X.env.locals = none ∧ Slept X ip σ oL := by
  obtain ⟨m, hn, hl⟩ := I.loc
  obtain ⟨o, es, ep, ho, r⟩ := hn
  have hd : o.data = .dict es ep := r.1
  refine ⟨o, ho, I.free, ⟨fun h e => ⟨m, ⟨o, es, ep, e, r⟩, fun i x v a b c => ?_⟩, fun p hp => ?_, fun v z => ?_, ?_, I.len⟩⟩
  · obtain ⟨u, ru, l⟩ := hl i x v a b c
    refine ⟨u, ru, ?_⟩
    rcases l with l | ⟨_, c', e', _⟩
    · exact .inl l
    · have e' : X.env.cells.lookup x = some c' := e'
      rw [g.cells x] at e'
      cases e'
  · obtain ⟨_, _, a, b, c⟩ := I.pin p (List.mem_append_right _ (List.mem_append_right _ hp))
    exact ⟨a, b, c⟩
  · rw [hd] at z
    cases z
  · intro hb
    obtain ⟨_, o', e', _⟩ := I.ok.funs.mem hb
    have := (cut_lt e').1
    exact absurd this (Nat.lt_irrefl _)
/-- it wakes -/
theorem waked {X : Cx} {s : Shared} {H : Hp} {pe ip : List (Addr × Obj)} {σ : L2.St} {oL : Obj} (g : GCx X) (ok : X.Ok) (o : On X s H) (S : Slept X ip σ oL) (hL : s.heap.get? X.env.locals = some oL) (nL : H X.env.locals = none)
    (hip : ∀ p ∈ ip, s.heap.get? p.1 = some p.2 ∧ H p.1 = none) (hpe : ∀ p ∈ pe, s.heap.get? p.1 = some p.2 ∧ H p.1 = none ∧ p.1 ≠ X.env.locals ∧ p.1 ∉ X.fs ∧ ∀ v, p.2.data ≠ .cell v) : Inv (re X s H) (pe ++ ip) σ H s where
  ok := re_ok g ok o
  os := rfl
  bare := o.bare
  base := Un.kept fun b u e => (cut_lt e).2
  loc := S.loc s.heap hL
  cell := fun x c e => by
    have e : X.env.cells.lookup x = some c := e
    rw [g.cells x] at e
    cases e
  free := nL
  freeC := fun x c e => by
    have e : X.env.cells.lookup x = some c := e
    rw [g.cells x] at e
    cases e
  pin := fun p hp => by
    have hp : p ∈ X.pn ++ (pe ++ ip) := hp
    rw [g.pn, List.nil_append] at hp
    rcases List.mem_append.mp hp with hp | hp
    · exact hpe p hp
    · obtain ⟨a, b, c⟩ := S.pin p hp
      exact ⟨(hip p hp).1, (hip p hp).2, a, b, c⟩
  hok := o.hok
  len := S.len
end Gk
/-! The statements of a generator def whose caller goes on between its items. γ: what the caller keeps meanwhile. -/
namespace Gk
open PySem PySem.Spec PyProof.Rows L2 GenW

/-- what is wanted behind a statement; n: how many items may still be handed out; yl: of an item, with what is wanted when the generator goes on -/
structure YEnds where
  nx : Nat → L2.St → L2.St → Hp → Prop
  rt : Nat → L2.St → VK
  bk : Nat → L2.St → L2.St → Hp → Prop := fun _ _ _ _ => False
  ct : Nat → L2.St → L2.St → Hp → Prop := fun _ _ _ _ => False
  yl : L2.St → V → Hp → (L2.St → Hp → Prop) → Prop
abbrev TY := YEnds → Nat → L2.St → L2.St → Hp → Prop
def YEnds.at (D : YEnds) (n : Nat) (γ : L2.St) : Ends := { nx := D.nx n γ, rt := D.rt n γ, bk := D.bk n γ, ct := D.ct n γ }
abbrev LK := L2.St → Hp → Shared → List (Addr × Obj) → Prop
/-- the generator has run from s₀ to s -/
structure Went (X : Cx) (pe : List (Addr × Obj)) (H₀ : Hp) (s₀ : Shared) (H : Hp) (s : Shared) : Prop where
  os : s.os = s₀.os
  bare : AllBare s.gens
  un : Un X.fs [] H₀ H (cut s₀.heap X.env.locals) s.heap
  hok : HOk X.prog X.w H s.heap
  pe : ∀ p ∈ pe, s.heap.get? p.1 = some p.2 ∧ H p.1 = none
/-- what may be pinned while the generator runs -/
def PeOk (X : Cx) (Ad : List Addr) (pe : List (Addr × Obj)) (H : Hp) (s : Shared) : Prop :=
  pe.map (·.1) = Ad ∧ ∀ p ∈ pe, s.heap.get? p.1 = some p.2 ∧ H p.1 = none ∧ p.1 ≠ X.env.locals ∧ p.1 ∉ X.fs ∧ ∀ v, p.2.data ≠ .cell v
def YP (X : Cx) (Lk : LK) (Ad : List Addr) (yl : L2.St → V → Hp → (L2.St → Hp → Prop) → Prop) : Protocol := fun n s₀ v s kap =>
  ∃ (γ : L2.St) (H₀ H : Hp) (pe hl : List (Addr × Obj)) (x : V) (k : L2.St → Hp → Prop), Lk γ H₀ s₀ pe ∧ RelV x v ∧ Went X pe H₀ s₀ H s ∧
    (∀ p ∈ hl, s.heap.get? p.1 = some p.2 ∧ H p.1 = none ∧ X.env.locals ≤ p.1 ∧ p.1 ∉ Ad ∧ ∀ v, p.2.data ≠ .cell v) ∧ yl γ x H k ∧
    ∀ γ' H' s'' pe', k γ' H' → Lk γ' H' s'' pe' → On X s'' H' → PeOk X Ad pe' H' s'' → (∀ p ∈ hl, s''.heap.get? p.1 = some p.2 ∧ H' p.1 = none) → kap (.send .none) s''
def YInv (X : Cx) (Lk : LK) (Ad : List Addr) (γ : L2.St) (s₀ : Shared) (ip : List (Addr × Obj)) (σ : L2.St) (H : Hp) (s : Shared) : Prop :=
  ∃ H₀ pe, Lk γ H₀ s₀ pe ∧ pe.map (·.1) = Ad ∧ X.env.locals ≤ s₀.heap.objs.size ∧ Inv (re X s₀ H₀) (pe ++ ip) σ H s
structure YC (X : Cx) (Ad : List Addr) (ip : List (Addr × Obj)) (A : Around) (c : Code) (fs : List Frame) (gd : Bool → Bool) : Prop extends FC X A c fs gd where
  g : GCx X
  ok : X.Ok
  ip : ∀ p ∈ ip, X.env.locals ≤ p.1 ∧ p.1 ∉ Ad
structure YK (X : Cx) (Lk : LK) (Ad : List Addr) (ip : List (Addr × Obj)) (A : Around) (R : GenEnd) (c : Code) (fs : List Frame) (K : Flow → Sem PySem.Fin) (D : YEnds) : Prop where
  ok : ∀ (n : Nat) (γ : L2.St) (s₀ s : Shared) (f : Flow) (H₀ : Hp) (pe : List (Addr × Obj)), Lk γ H₀ s₀ pe → pe.map (·.1) = Ad → X.env.locals ≤ s₀.heap.objs.size → SP (re X s₀ H₀) (pe ++ ip) (D.at n γ) f s →
    Seg (model X.prog X.w) A R (YP X Lk Ad D.yl) n s₀ c (K f) fs s
structure YS (X : Cx) (st : Stmt) (t : TY) : Prop where
  run : ∀ (A : Around) (Lk : LK) (Ad : List Addr) (ip : List (Addr × Obj)) (R : GenEnd) (n : Nat) (γ : L2.St) (s₀ : Shared) (c : Code) (fs : List Frame) (K : Flow → Sem PySem.Fin) (J : Value → Sem PySem.Fin) (gd : Bool → Bool) (lv : List Value → List Value) (s : Shared) (σ : L2.St) (H : Hp) (D : YEnds),
    YC X Ad ip A c fs gd → YK X Lk Ad ip A R c fs K D → YInv X Lk Ad γ s₀ ip σ H s → t D n γ σ H →
    Seg (model X.prog X.w) A R (YP X Lk Ad D.yl) n s₀ c ((exec st X.env).wrap K J gd lv) fs s
structure YSs (X : Cx) (st : List Stmt) (t : TY) : Prop where
  run : ∀ (A : Around) (Lk : LK) (Ad : List Addr) (ip : List (Addr × Obj)) (R : GenEnd) (n : Nat) (γ : L2.St) (s₀ : Shared) (c : Code) (fs : List Frame) (K : Flow → Sem PySem.Fin) (J : Value → Sem PySem.Fin) (gd : Bool → Bool) (lv : List Value → List Value) (s : Shared) (σ : L2.St) (H : Hp) (D : YEnds),
    YC X Ad ip A c fs gd → YK X Lk Ad ip A R c fs K D → YInv X Lk Ad γ s₀ ip σ H s → t D n γ σ H →
    Seg (model X.prog X.w) A R (YP X Lk Ad D.yl) n s₀ c ((execs st X.env).wrap K J gd lv) fs s
section
variable {X : Cx} {st : Stmt} {rest : List Stmt}
def tYPlain (t : TS) : TY := fun D n γ σ H => t (D.at n γ) σ H
theorem ys_ps {t : TS} (h : ∀ s H, PS (re X s H) st t) : YS X st (tYPlain t) := by
  refine ⟨fun A Lk Ad ip R n γ s₀ c fs K J gd lv s σ H D g k hI ht => ?_⟩
  obtain ⟨H₀, pe, lk, ea, hn, I⟩ := hI
  refine seg_wrap ?_
  rw [g.over]
  exact wpAny_mono ((h s₀ H₀).run _ s σ H (D.at n γ) I ht) (fun f s' hs => k.ok n γ s₀ s' f H₀ pe lk ea hn hs) fun x s' hx => (g.nox x s' hx).elim
def tY0 : TY := fun D n γ σ H => D.nx n γ σ H
theorem yss_nil : YSs X [] tY0 := by
  refine ⟨fun A Lk Ad ip R n γ s₀ c fs K J gd lv s σ H D g k hI ht => ?_⟩
  obtain ⟨H₀, pe, lk, ea, hn, I⟩ := hI
  exact seg_execs_nil (k.ok n γ s₀ s .next H₀ pe lk ea hn ⟨σ, H, I, ht⟩)
def tYThen (t u : TY) : TY := fun D n γ σ H => t { D with nx := fun n' γ' σ' H' => u D n' γ' σ' H' } n γ σ H
theorem yss_cons {t u : TY} (a : YS X st t) (b : YSs X rest u) : YSs X (st :: rest) (tYThen t u) := by
  refine ⟨fun A Lk Ad ip R n γ s₀ c fs K J gd lv s σ H D g k hI ht => ?_⟩
  refine seg_execs_cons ?_
  refine a.run A Lk Ad ip R n γ s₀ c fs _ J gd lv s σ H { D with nx := fun n' γ' σ' H' => u D n' γ' σ' H' } g ⟨fun n' γ' s₀' s' f H₀ pe lk ea hn hs => ?_⟩ hI ht
  cases f with
  | next =>
    obtain ⟨σ', H', I', q⟩ := hs
    exact b.run A Lk Ad ip R n' γ' s₀' c fs K J gd lv s' σ' H' D g k ⟨H₀, pe, lk, ea, hn, I'⟩ q
  | brk => exact k.ok n' γ' s₀' s' .brk H₀ pe lk ea hn hs
  | cont => exact k.ok n' γ' s₀' s' .cont H₀ pe lk ea hn hs
  | ret u => exact k.ok n' γ' s₀' s' (.ret u) H₀ pe lk ea hn hs
theorem yss_one {t : TY} (a : YS X st t) : YSs X [st] (tYThen t tY0) := yss_cons a yss_nil
/-- yield e -/
def tYYield (te : TE) : TY := fun D n γ σ H => ∃ m, n = m + 1 ∧ te σ H fun v H1 => D.yl γ v H1 fun γ' H2 => D.nx m γ' σ H2
theorem ys_yield {e : Expr} {yp pos : Pos} {te : TE} (he : ∀ s H, PE (re X s H) e te) (hco : X.env.scope.isCoroutine = false := by rfl) (hi : interactive X.env = false := by rfl) : YS X (.Expr (.Yield (some e) yp) pos) (tYYield te) := by
  refine ⟨fun A Lk Ad ip R n γ s₀ c fs K J gd lv s σ H D g k hI ht => ?_⟩
  obtain ⟨m, rfl, ht⟩ := ht
  obtain ⟨H₀, pe, lk, ea, hn, I⟩ := hI
  refine seg_Expr_Yield (n := m) g.split g.gd g.guard ?_ hco hi
  rw [g.over]
  refine wpAny_mono ((he s₀ H₀).run _ s σ H _ I ht) (fun v s' hv => ?_) fun x s' hx => (g.nox x s' hx).elim
  obtain ⟨x, H1, I1, rv, q⟩ := hv
  intro kap hk
  obtain ⟨oL, hL, nL, S⟩ := sleep g.g I1
  have hpe : ∀ p ∈ pe ++ ip, s'.heap.get? p.1 = some p.2 ∧ H1 p.1 = none ∧ ∀ v, p.2.data ≠ .cell v := fun p hp => by
    obtain ⟨a, b, _, _, d⟩ := I1.pin p (List.mem_append_right _ hp)
    exact ⟨a, b, d⟩
  refine ⟨γ, H₀, H1, pe, (X.env.locals, oL) :: ip, x, _, lk, rv, ⟨I1.os, I1.bare, ?_, I1.hok, fun p hp => ?_⟩, fun p hp => ?_, q, fun γ' H' s'' pe' hk' lk' on po hh => ?_⟩
  · have u := I1.base
    have hex : (re X s₀ H₀).ex = [] := g.g.ex
    rw [hex] at u
    exact u
  · obtain ⟨a, b, _⟩ := hpe p (List.mem_append_left _ hp)
    exact ⟨a, b⟩
  · rcases List.mem_cons.mp hp with rfl | hp
    · refine ⟨hL, nL, Nat.le_refl _, fun z => ?_, S.data⟩
      rw [← ea] at z
      obtain ⟨p, hp, e⟩ := List.mem_map.mp z
      obtain ⟨_, _, ne, _⟩ := I1.pin p (List.mem_append_right _ (List.mem_append_left _ hp))
      exact ne e
    · obtain ⟨a, b, d⟩ := hpe p (List.mem_append_right _ hp)
      exact ⟨a, b, (g.ip p hp).1, (g.ip p hp).2, d⟩
  · obtain ⟨hL', nL'⟩ := hh (X.env.locals, oL) List.mem_cons_self
    have I2 : Inv (re X s'' H') (pe' ++ ip) σ H' s'' := waked g.g g.ok on S hL' nL' (fun p hp => hh p (List.mem_cons_of_mem _ hp)) po.2
    refine hk .none s'' ?_
    show Seg _ _ _ _ _ _ _ _ _ _
    exact k.ok m γ' s'' s'' .next H' pe' lk' po.1 (Nat.le_of_lt (Heap.lt_size hL')) ⟨σ, H', I2, hk'⟩
def tYIf (c : TT) (t u : TY) : TY := fun D n γ σ H => c σ H fun b H1 => if b = true then t D n γ σ H1 else u D n γ σ H1
theorem ys_if {test : Expr} {body orelse : List Stmt} {pos : Pos} {tc : TT} {tb te : TY} (hc : ∀ s H, PT (re X s H) test tc) (hb : YSs X body tb) (he : YSs X orelse te) : YS X (.If test body orelse pos) (tYIf tc tb te) := by
  refine ⟨fun A Lk Ad ip R n γ s₀ c fs K J gd lv s σ H D g k hI ht => ?_⟩
  rw [exec_If]
  show Seg _ _ _ _ _ s₀ c (.at pos fun _ => ((isTrue test X.env (eval test X.env)) >>= fun b => if b = true then execs body X.env else execs orelse X.env).wrap K J gd lv) fs s
  obtain ⟨H₀, pe, lk, ea, hn, I⟩ := hI
  refine seg_at (seg_bind_wrap ?_)
  rw [g.over]
  refine wpAny_mono ((hc s₀ H₀).run _ s σ H _ I ht) (fun b s' hb' => ?_) fun x s' hx => (g.nox x s' hx).elim
  obtain ⟨H1, I1, q⟩ := hb'
  cases b with
  | true =>
    rw [if_pos rfl] at q
    rw [if_pos rfl]
    exact hb.run A Lk Ad ip R n γ s₀ c fs K J gd lv s' σ H1 D g k ⟨H₀, pe, lk, ea, hn, I1⟩ q
  | false =>
    rw [if_neg Bool.false_ne_true] at q
    rw [if_neg Bool.false_ne_true]
    exact he.run A Lk Ad ip R n γ s₀ c fs K J gd lv s' σ H1 D g k ⟨H₀, pe, lk, ea, hn, I1⟩ q
/-- for -/
def tYFor (wi : TI) (g : TG) (tb : TY) : TY := fun D n γ σ H => wi σ H fun J H1 => ∃ W : Nat → Nat → Nat → L2.St → L2.St → Hp → Prop, (∃ m, W 0 m n γ σ H1) ∧ ∀ i m n γ σ H, W i m n γ σ H →
  (J.stop i H ∧ D.nx n γ σ H) ∨ (J.go i H ∧ ∃ N : Nat → L2.St → L2.St → Hp → Prop, (∀ n' γ' σ' H', N n' γ' σ' H' → ∃ m', m' < m ∧ W (i + 1) m' n' γ' σ' H') ∧ ∀ x H', J.yld i H x H' → g x σ H' fun σ2 H2 => tb { D with nx := N, ct := N, bk := D.nx } n γ σ2 H2)
theorem yc_loop {Ad : List Addr} {ip : List (Addr × Obj)} {A : Around} {c c' : Code} {fs : List Frame} {gd : Bool → Bool} {k : Result → Sem PySem.Fin} {l kp : List Value} {p : Pos} (g : YC X Ad ip A c fs gd) (hw : c'.weight = 0) (hu : c'.cUnits = 0) :
    YC X Ad ip A c' (.ret k none (gd false) l c p kp :: fs) id := { toFC := fc_loop g.toFC hw hu, g := g.g, ok := g.ok, ip := g.ip }
theorem ys_for {tg iter : Expr} {body : List Stmt} {wi : TI} {g : TG} {tb : TY} {pos : Pos} (hi : ∀ s H, PI (re X s H) tg iter wi) (hg : ∀ s H, PG (re X s H) tg g) (hb : YSs X body tb)
    (hs : ∀ x, foldedSetIterable iter X.env x = pure x := by intro _; rfl) : YS X (.For tg iter body [] pos) (tYFor wi g tb) := by
  refine ⟨fun A Lk Ad ip R n γ s₀ c fs K J gd lv s σ H D gc k hI ht => ?_⟩
  have hc : X.calm = true := gc.g.calm
  rw [exec_For]
  show Seg _ _ _ _ _ s₀ c (.at pos fun _ => (eval iter X.env >>= fun v => foldedSetIterable iter X.env v >>= fun x => standAt iter.pos >>= fun _ => holding [x] (pyIter x) >>= fun it => runOwn (.forLoop tg it body [] X.env) X.env).wrap K J gd lv) fs s
  obtain ⟨H₀, pe, lk, ea, hn0, I⟩ := hI
  refine seg_at (seg_bind_wrap ?_)
  rw [gc.over]
  refine wpAny_mono ((hi s₀ H₀).run _ s σ H _ I ht) (fun v s1 h1 => ?_) fun x s' hx => (gc.nox x s' hx).elim
  refine seg_bind_wrap (wpAny_of_eq (hs v) ?_)
  refine seg_bind_wrap (wpAny_standAt ?_)
  refine seg_bind_wrap (wpAny_holding ?_)
  rw [gc.over]
  refine wpAny_mono h1 (fun itv s2 h2 => ?_) fun x s' hx => (gc.nox x s' hx).elim
  obtain ⟨it, fp, tn, Jt, H2, e, I2, T, st2, f2, W, ⟨m0, w0⟩, turn⟩ := h2
  subst e
  have nAd : ∀ b ∈ fp, ∀ a ∈ Ad, a ≠ b := fun b hb a ha => by
    rw [← ea] at ha
    obtain ⟨p, hp, rfl⟩ := List.mem_map.mp ha
    exact (f2 b hb).2.2.2.2.2 p (List.mem_append_right _ (List.mem_append_left _ hp))
  have geF : ∀ b ∈ fp, X.env.locals ≤ b := fun b hb => by
    rcases (f2 b hb).2.2.2.1 with z | z
    · have z : b ∈ X.ex := z
      rw [gc.g.ex] at z
      cases z
    · exact Nat.le_trans (cut_size' (Nat.le_refl _) hn0) z
  have stat : ∀ {s₀' : Shared} {H₀' H' : Hp} {pe' : List (Addr × Obj)}, pe'.map (·.1) = Ad → (∀ b ∈ fp, H' b = none) → ∀ b ∈ fp, FpOk (re X s₀' H₀') (pe' ++ ip) H' b := fun {s₀' H₀' H' pe'} ea' hn b hb => by
    obtain ⟨_, q2, q3, q4, q5, q6⟩ := f2 b hb
    refine ⟨hn b hb, q2, q3, .inr (Nat.le_trans (cut_size _ _) (geF b hb)), q5, fun p hp => ?_⟩
    have hp : p ∈ X.pn ++ (pe' ++ ip) := hp
    rw [gc.g.pn, List.nil_append] at hp
    rcases List.mem_append.mp hp with hp | hp
    · exact nAd b hb p.1 (by rw [← ea']; exact List.mem_map.mpr ⟨p, hp, rfl⟩)
    · exact q6 p (List.mem_append_right _ (List.mem_append_right _ hp))
  show Seg _ _ _ _ _ s₀ c (.call (.forLoop tg (.ref it) body [] X.env) none (gd false) (lv []) fun r => ((match r with | .ok f => (.pure f : Sem Flow) | .error e => .raise e).onRaise (cameBack X.env)).wrap K J gd lv) fs s2
  refine seg_call fun p => ?_
  have gl := fun (kk : Result → Sem PySem.Fin) => yc_loop (k := kk) (c' := .forLoop tg (.ref it) body [] X.env) (l := lv []) (kp := []) (p := p) gc rfl rfl
  have loop : ∀ (m i n : Nat) (γ : L2.St) (s₀ s : Shared) (σ : L2.St) (H H₀ : Hp) (pe : List (Addr × Obj)), Lk γ H₀ s₀ pe → pe.map (·.1) = Ad → X.env.locals ≤ s₀.heap.objs.size → Inv (re X s₀ H₀) (pe ++ ip) σ H s → tn i s.heap → (∀ b ∈ fp, H b = none) → W i m n γ σ H →
      Seg (model X.prog X.w) A R (YP X Lk Ad D.yl) n s₀ (.forLoop tg (.ref it) body [] X.env) ((model X.prog X.w).den (.forLoop tg (.ref it) body [] X.env))
        (.ret (fun r => ((match r with | .ok f => (.pure f : Sem Flow) | .error e => .raise e).onRaise (cameBack X.env)).wrap K J gd lv) none (gd false) (lv []) c p [] :: fs) s := by
    intro m
    induction m using Nat.strongRecOn with
    | ind m ih =>
      intro i n γ s₀ s3 σ3 H3 H₀ pe lk ea hn0 I3 st3 fr3 w3
      refine seg_forLoop (fun e => (do noteFrame e X.env; theTreesLotGoes e : Sem Unit).bind fun _ => .raise e) (fun _ => rfl) ?_
      rw [(gl _).over]
      rcases turn i m n γ σ3 H3 w3 with ⟨stop, qn⟩ | ⟨go, N, hN, step⟩
      · refine wpAny_mono (T.done (re X s₀ H₀) rfl rfl rfl hc i (pe ++ ip) s3 σ3 H3 (fun _ _ => False) I3 (stat ea fr3) st3 stop) (fun r s4 ⟨hr, I4⟩ => ?_) fun _ _ z => z.elim
        subst hr
        dsimp only
        refine seg_again rfl ?_
        exact seg_leaf (.ok .next) (k.ok n γ s₀ s4 .next H₀ pe lk ea hn0 ⟨σ3, H3, I4, qn⟩)
      · refine wpAny_mono (T.item (re X s₀ H₀) rfl rfl rfl hc i (pe ++ ip) s3 σ3 H3 (fun _ _ => False) I3 (stat ea fr3) st3 go) (fun r s4 ⟨u, hr, h4⟩ => ?_) fun _ _ z => z.elim
        subst hr
        dsimp only
        refine wpAny_mono h4 (fun _ s5 ⟨x, H5, I5, r5, y5, st5, fr5⟩ => ?_) fun _ _ z => z.elim
        have I5' : Inv (re X s₀ H₀) (pe ++ (ip ++ pinsAt fp s5.heap)) σ3 H5 s5 := by
          rw [← List.append_assoc]
          exact I5.pinned (stat ea fr5) (T.obj _ _ st5)
        refine wpAny_mono ((hg s₀ H₀).run _ s5 σ3 H5 x u _ I5' r5 (step x H5 y5)) (fun _ s6 ⟨σ6, H6, I6, q6⟩ => ?_) fun x s' hx => (gc.nox x s' hx).elim
        have again : ∀ {n' : Nat} {γ' : L2.St} {s₀' s7 : Shared} {σ7 : L2.St} {H7 H₀' : Hp} {pe' : List (Addr × Obj)}, Inv (re X s₀' H₀') (pe' ++ (ip ++ pinsAt fp s5.heap)) σ7 H7 s7 → N n' γ' σ7 H7 → ∃ m', m' < m ∧ Inv (re X s₀' H₀') (pe' ++ ip) σ7 H7 s7 ∧ tn (i + 1) s7.heap ∧ (∀ b ∈ fp, H7 b = none) ∧ W (i + 1) m' n' γ' σ7 H7 := fun {n' γ' s₀' s7 σ7 H7 H₀' pe'} I7 n7 => by
          obtain ⟨m', hm, w7⟩ := hN n' γ' σ7 H7 n7
          have I7' : Inv (re X s₀' H₀') ((pe' ++ ip) ++ pinsAt fp s5.heap) σ7 H7 s7 := by rw [List.append_assoc]; exact I7
          refine ⟨m', hm, I7'.unpinned, T.keep _ _ _ st5 fun b hb o e => (I7'.pin (b, o) (List.mem_append_right _ (List.mem_append_right _ (mem_pinsAt hb e)))).1, fun b hb => ?_, w7⟩
          obtain ⟨o, e, d⟩ := T.obj _ _ st5 b hb
          exact (I7'.pin (b, o) (List.mem_append_right _ (List.mem_append_right _ (mem_pinsAt hb e)))).2.1
        have un : ∀ {s₀' s7 : Shared} {σ7 : L2.St} {H7 H₀' : Hp} {pe' : List (Addr × Obj)}, Inv (re X s₀' H₀') (pe' ++ (ip ++ pinsAt fp s5.heap)) σ7 H7 s7 → Inv (re X s₀' H₀') (pe' ++ ip) σ7 H7 s7 := fun {s₀' s7 σ7 H7 H₀' pe'} I7 => by
          have I7' : Inv (re X s₀' H₀') ((pe' ++ ip) ++ pinsAt fp s5.heap) σ7 H7 s7 := by rw [List.append_assoc]; exact I7
          exact I7'.unpinned
        have gl6 : YC X Ad (ip ++ pinsAt fp s5.heap) A (.forLoop tg (.ref it) body [] X.env) (.ret (fun r => ((match r with | .ok f => (.pure f : Sem Flow) | .error e => .raise e).onRaise (cameBack X.env)).wrap K J gd lv) none (gd false) (lv []) c p [] :: fs) id :=
          { toFC := (gl _).toFC, g := gc.g, ok := gc.ok, ip := fun q hq => by
              rcases List.mem_append.mp hq with hq | hq
              · exact gc.ip q hq
              · obtain ⟨b, hb, e⟩ := List.mem_filterMap.mp hq
                cases eo : s5.heap.get? b with
                | none => rw [eo] at e; cases e
                | some o => rw [eo] at e; cases e; exact ⟨geF b hb, fun z => nAd b hb b z rfl⟩ }
        refine hb.run A Lk Ad (ip ++ pinsAt fp s5.heap) R n γ s₀ _ _ _ _ id id s6 σ6 H6 { D with nx := N, ct := N, bk := D.nx } gl6 ⟨fun n' γ' s₀' s7 f H₀' pe' lk' ea' hn' hs => ?_⟩ ⟨H₀, pe, lk, ea, hn0, I6⟩ q6
        cases f with
        | next =>
          obtain ⟨σ7, H7, I7, n7⟩ := hs
          obtain ⟨m', hm, J7, st7, fr7, w7⟩ := again I7 n7
          exact seg_again rfl (ih m' hm (i + 1) n' γ' s₀' s7 σ7 H7 H₀' pe' lk' ea' hn' J7 st7 fr7 w7)
        | cont =>
          obtain ⟨σ7, H7, I7, n7⟩ := hs
          obtain ⟨m', hm, J7, st7, fr7, w7⟩ := again I7 n7
          exact seg_again rfl (ih m' hm (i + 1) n' γ' s₀' s7 σ7 H7 H₀' pe' lk' ea' hn' J7 st7 fr7 w7)
        | brk =>
          obtain ⟨σ7, H7, I7, q7⟩ := hs
          exact seg_leaf (.ok .next) (k.ok n' γ' s₀' s7 .next H₀' pe' lk' ea' hn' ⟨σ7, H7, un I7, q7⟩)
        | ret v =>
          obtain ⟨x7, σ7, H7, I7, r7, q7⟩ := hs
          exact seg_leaf (.ok (.ret v)) (k.ok n' γ' s₀' s7 (.ret v) H₀' pe' lk' ea' hn' ⟨x7, σ7, H7, un I7, r7, q7⟩)
  exact loop m0 0 n γ s₀ s2 σ H2 H₀ pe lk ea hn0 I2 st2 (fun b hb => (f2 b hb).1) w0
end
end Gk
/-! Code that leaves the table of generators as it is. -/
namespace Gk
open PySem PySem.Spec PyProof.Rows L2 GenW
structure PEg (X : Cx) (e : Expr) (t : TE) : Prop where
  run : ∀ (pins : List (Addr × Obj)) (s : Shared) (σ : L2.St) (H : Hp) (Q : VK), Inv X pins σ H s → t σ H Q → wpAny (model X.prog X.w) X.A (eval e X.env) (fun u s' => EP X pins σ Q u s' ∧ s'.gens = s.gens) X.xe s
structure PTg (X : Cx) (e : Expr) (t : TT) : Prop where
  run : ∀ (pins : List (Addr × Obj)) (s : Shared) (σ : L2.St) (H : Hp) (Q : Bool → Hp → Prop), Inv X pins σ H s → t σ H Q → wpAny (model X.prog X.w) X.A (isTrue e X.env (eval e X.env)) (fun d s' => TP X pins σ Q d s' ∧ s'.gens = s.gens) X.xe s
structure PSg (X : Cx) (st : Stmt) (t : TS) : Prop where
  run : ∀ (pins : List (Addr × Obj)) (s : Shared) (σ : L2.St) (H : Hp) (D : Ends), Inv X pins σ H s → t D σ H → wpAny (model X.prog X.w) X.A (exec st X.env) (fun f s' => SP X pins D f s' ∧ s'.gens = s.gens) X.xe s
structure PSsg (X : Cx) (sts : List Stmt) (t : TS) : Prop where
  run : ∀ (pins : List (Addr × Obj)) (s : Shared) (σ : L2.St) (H : Hp) (D : Ends), Inv X pins σ H s → t D σ H → wpAny (model X.prog X.w) X.A (execs sts X.env) (fun f s' => SP X pins D f s' ∧ s'.gens = s.gens) X.xe s
structure PGg (X : Cx) (tg : Expr) (t : TG) : Prop where
  run : ∀ (pins : List (Addr × Obj)) (s : Shared) (σ : L2.St) (H : Hp) (v : V) (u : Value) (Q : L2.St → Hp → Prop), Inv X pins σ H s → RelV v u → t v σ H Q →
    wpAny (model X.prog X.w) X.A (assign tg X.env u) (fun _ s' => (∃ σ' H', Inv X pins σ' H' s' ∧ Q σ' H') ∧ s'.gens = s.gens) X.xe s
structure PGsg (X : Cx) (es : List Expr) (t : TGs) : Prop where
  run : ∀ (pins : List (Addr × Obj)) (s : Shared) (σ : L2.St) (H : Hp) (vs : List V) (us : List Value) (Q : L2.St → Hp → Prop), Inv X pins σ H s → Vals vs us → t vs σ H Q →
    wpAny (model X.prog X.w) X.A (assignInOrder ((assignEach es X.env).map (·.2)) us) (fun _ s' => (∃ σ' H', Inv X pins σ' H' s' ∧ Q σ' H') ∧ s'.gens = s.gens) X.xe s
section
variable {X : Cx} {pos : Pos}
theorem peg_var {i : Nat} {x : Str} (hN : X.N[i]? = some x) (hv : X.env.scope.names.lookup x = some .local) (hd : (x == ("__debug__" : Str)) = false := by decide) : PEg X (.Name x pos) (tVar i) := by
  refine ⟨fun pins s σ H Q I h => ?_⟩
  obtain ⟨v, e, h⟩ := h
  obtain ⟨m, hn, hl⟩ := I.loc
  obtain ⟨u, r, l⟩ := hl i x v hN e (.inl hv)
  have fin : EP X pins σ Q u s ∧ s.gens = s.gens := ⟨⟨v, H, I, r, h⟩, rfl⟩
  rcases l with ⟨hk, hm⟩ | ⟨hk, _⟩
  · exact wpAny_Name (wpAny_loadName_local I.ok.kind hk hn hm fin) hd
  · have hv' : X.env.kindOf x = some .local := hv
    rcases hk with hk | hk <;> rw [hv'] at hk <;> cases hk
/-- len(x), x a list -/
def rLenG (K : PySem.W.Frag) : List V → Hp → VK → Prop := fun xs H Q => ∃ p ys, xs = [.ref p] ∧ SqL K H p ys ∧ Q (.int ys.length) H
theorem peg_len {e : Expr} {te : TE} {p : Pos} (hg : Gl X "len") (hm : X.mg "len" = none) (he : PEg X e te) (hs : starEach [e] X.env = (false, eval e X.env) :: starEach [] X.env := by rfl) : PEg X (.Call (.Name "len" p) [e] [] pos) (tCB (rLenG X.K) (tCons te tNil)) := by
  refine ⟨fun pins s σ H Q I h => ?_⟩
  refine wpAny_Call_Name_kw (ld_blt I hg hm PySem.boot_len ?_ (by decide) (by decide))
  refine PyProof.Rows.callWith_builtin1 ?_ hs (by rfl)
  rw [hs]
  show wpAny _ _ (spliced ((false, eval e X.env) :: backTo pos (starEach [] X.env))) _ _ s
  refine Calls.spliced_cons (thn (he.run pins s σ H _ I h) fun u s1 ⟨⟨x, H1, I1, r1, q1⟩, g1⟩ => ?_)
  refine Calls.spliced_nil ?_
  obtain ⟨p0, ys, ex, hl, q⟩ := q1
  obtain rfl : x = .ref p0 := (List.cons.inj ex).1
  cases r1
  obtain ⟨its, r', pl, hz⟩ := I1.list hl
  have hlen := r'.length
  have hn := line63
  exact Calls.call_len_list pl.isList (by simp only [List.size_toArray] <;> omega) ⟨⟨.int ys.length, H1, I1.tok _, ⟨s1.toks + 1, by rw [List.size_toArray, hlen]⟩, q⟩, g1⟩
/-- a == b, a != b of whole numbers -/
theorem ptg_eq {a b : Expr} {ta tb : TE} (ha : PEg X a ta) (hb : PEg X b tb) (hm : behindInMarks .Eq b = false) : PTg X (.Compare a [.Eq] [b] pos) (fun σ H Q => ta σ H fun x H1 => tb σ H1 fun y H2 => ∃ i j : Int, x = .int i ∧ y = .int j ∧ Q (i == j) H2) := by
  refine ⟨fun pins s σ H Q I h => ?_⟩
  refine wpAny_isTrue_Compare1 (thn (ha.run pins s σ H _ I h) fun v s1 ⟨⟨x, H1, I1, r1, q1⟩, g1⟩ => thn (hb.run pins s1 σ H1 _ I1 q1) fun u s2 ⟨⟨y, H2, I2, r2, q2⟩, g2⟩ => ?_) hm
  obtain ⟨i, j, rfl, rfl, q⟩ := q2
  obtain ⟨t1, rfl⟩ := r1
  obtain ⟨t2, rfl⟩ := r2
  exact PySem.P.eq_int (wpAny_truthy_bool ⟨⟨H2, I2, q⟩, g2.trans g1⟩)
theorem ptg_ne {a b : Expr} {ta tb : TE} (ha : PEg X a ta) (hb : PEg X b tb) (hm : behindInMarks .NotEq b = false) : PTg X (.Compare a [.NotEq] [b] pos) (fun σ H Q => ta σ H fun x H1 => tb σ H1 fun y H2 => ∃ i j : Int, x = .int i ∧ y = .int j ∧ Q (i != j) H2) := by
  refine ⟨fun pins s σ H Q I h => ?_⟩
  refine wpAny_isTrue_Compare1 (thn (ha.run pins s σ H _ I h) fun v s1 ⟨⟨x, H1, I1, r1, q1⟩, g1⟩ => thn (hb.run pins s1 σ H1 _ I1 q1) fun u s2 ⟨⟨y, H2, I2, r2, q2⟩, g2⟩ => ?_) hm
  obtain ⟨i, j, rfl, rfl, q⟩ := q2
  obtain ⟨t1, rfl⟩ := r1
  obtain ⟨t2, rfl⟩ := r2
  exact PySem.P.ne_int (wpAny_truthy_bool ⟨⟨H2, I2, q⟩, g2.trans g1⟩)
theorem psg_if {c : Expr} {a b : List Stmt} {tc : TT} {t u : TS} (hc : PTg X c tc) (ha : PSsg X a t) (hb : PSsg X b u) : PSg X (.If c a b pos) (tIfS tc t u) := by
  refine ⟨fun pins s σ H D I h => ?_⟩
  refine wpAny_If (thn (hc.run pins s σ H _ I h) fun d s1 ⟨⟨H1, I1, q1⟩, g1⟩ => ?_)
  cases d with
  | true => exact thn (ha.run pins s1 σ H1 D I1 q1) fun f s2 ⟨q, g⟩ => ⟨q, g.trans g1⟩
  | false => exact thn (hb.run pins s1 σ H1 D I1 q1) fun f s2 ⟨q, g⟩ => ⟨q, g.trans g1⟩
theorem psg_break : PSg X (.Break pos) tBreak := ⟨fun _ _ σ H _ I h => wpAny_Break ⟨⟨σ, H, I, h⟩, rfl⟩⟩
def tAppG (tl te : TE) : TS := fun D σ H => tl σ H fun x H1 => ∃ l xs, x = .ref l ∧ H1 l = some (.lst xs) ∧ te σ H1 fun y H2 => ∃ xs2, H2 l = some (.lst xs2) ∧ xs2.length < sizeLine ∧ D.nx σ (upd H2 l (.lst (xs2 ++ [y])))
theorem psg_append {o e : Expr} {to te : TE} {apos cpos : Pos} (ho : PEg X o to) (he : PEg X e te)
    (hbase : attributeBase o "append" X.env (eval o X.env) = eval o X.env := by rfl)
    (hfew : ((backTo cpos (starEach [e] X.env)).all (fun x => !x.1) && (backToKw cpos (keywordEach [] X.env)).all (fun x => x.1.isSome)
      && decide ([e].length + ([] : List Keyword).length + (if ([] : List Keyword).isEmpty then 0 else 1) < 30)) = true := by rfl)
    (hline : (apos.endLine == cpos.line) = true := by rfl) (hs : starEach [e] X.env = (false, eval e X.env) :: starEach [] X.env := by rfl) (hsw : swapsWith (.Call (.Attribute o "append" apos) [e] [] cpos) none pos.line X.env = pure false := by rfl) :
    PSg X (.Expr (.Call (.Attribute o "append" apos) [e] [] cpos) pos) (tAppG to te) := by
  refine ⟨fun pins s σ H D I h => ?_⟩
  refine wpAny_Expr_any ?_ I.quiet hsw
  refine wpAny_Call_method_late hbase hfew hline rfl (thn (ho.run pins s σ H _ I h) fun v s1 ⟨⟨x, H1, I1, r1, l, xs, ex, hl, q1⟩, g1⟩ => ?_)
  subst ex
  obtain ⟨h1, h2⟩ := tyV_is (T := "list") I1 r1 (.inl ⟨rfl, xs, SqL.of hl⟩)
  refine ⟨"list", "list.append", PySem.F.plainAttrs_list, PySem.F.slot_list_append, PySem.F.type_list_append, h1, h2, ?_⟩
  cases r1
  rw [hs]
  refine Calls.callWith_builtin (by rfl) (Calls.evalArgs_plain ?_)
  refine Calls.spliced_cons (thn (he.run pins s1 σ H1 _ I1 q1) fun u s2 ⟨⟨y, H2, I2, r2, xs2, hl2, hz, q2⟩, g2⟩ => ?_)
  refine Calls.spliced_nil ?_
  obtain ⟨z, its, n, r, hln, e2⟩ := I2.lstM hl2
  refine call_meets PySem.F.slot_list_append ⟨_, e2, rfl⟩ PySem.F.entry_list_append (PySem.F.args_list_append_2 _ _) (PySem.list_append l its.toArray n u (by rw [List.size_toArray]; omega)) ⟨e2, ?_⟩
  refine ⟨⟨σ, _, I2.lset (its' := its ++ [u]) hl2 e2 (by simp) (r.append (.cons r2 .nil)) ?_, q2⟩, g2.trans g1⟩
  rw [List.length_append, List.length_singleton]
  omega
theorem pssg_nil : PSsg X [] tNext := ⟨fun pins s σ H D I h => wpAny_execs_nil ⟨⟨σ, H, I, h⟩, rfl⟩⟩
theorem pssg_cons {st : Stmt} {rest : List Stmt} {t u : TS} (h1 : PSg X st t) (h2 : PSsg X rest u) : PSsg X (st :: rest) (tSeq t u) := by
  refine ⟨fun pins s σ H D I h => ?_⟩
  refine wpAny_execs_cons (thn (h1.run pins s σ H { D with nx := u D } I h) fun f s1 ⟨q, g1⟩ => ?_)
  cases f with
  | next =>
    obtain ⟨σ', H', I', q⟩ := q
    exact thn (h2.run pins s1 σ' H' D I' q) fun f s2 ⟨q, g⟩ => ⟨q, g.trans g1⟩
  | ret v => exact ⟨q, g1⟩
  | brk => exact ⟨q, g1⟩
  | cont => exact ⟨q, g1⟩
/-! ### targets -/
theorem pgg_name {i : Nat} {x : Str} (hN : X.N.Nodup) (hi : X.N[i]? = some x) (hx : X.env.scope.names.lookup x = some .local) : PGg X (.Name x pos) (gName i) := by
  refine ⟨fun pins s σ H v u Q I r h => wpAny_assign_Name ?_⟩
  obtain ⟨m, hn, hl⟩ := id I.loc
  have hcls : (X.env.scope.kind == .class || (X.env.scope.kind == .module && X.env.locals != X.env.globals)) = false := by rw [I.ok.kind]; rfl
  have hiσ : i < σ.length := by rw [I.len]; exact (List.getElem?_eq_some_iff.mp hi).1
  have cne := I.cne
  have low : ∀ b o, X.s_0.heap.get? b = some o → b ≠ X.env.locals := fun b o e => Nat.ne_of_lt (Nat.lt_of_lt_of_le (Heap.lt_size e) I.ok.above)
  refine wpAny_storeName_local hx hn (fun h' hn' hs => ⟨⟨_, H, ?_, h⟩, rfl⟩) hcls
  refine ⟨I.ok, I.os, I.bare, ⟨fun b o e n hb hx' => ?_, fun b o e n hb hx' => ?_, I.base.free, fun b o e hx' => ?_, I.base.tups, I.base.frzs, I.base.tbls⟩, ⟨_, hn', fun j y v' e1 e2 e3 => ?_⟩, fun y c e => ?_, I.free, I.freeC, fun p hp => ?_, fun b ob e => ?_, by simpa using I.len⟩
  · rw [hs.2 b (low b o e)]
    exact I.base.keep b o e n hb hx'
  · obtain ⟨sl, e1⟩ := I.base.slot b o e n hb hx'
    exact ⟨sl, by rw [hs.2 b (low b o e)]; exact e1⟩
  · obtain ⟨o', e1⟩ := I.base.there b o e hx'
    exact ⟨o', by rw [hs.2 b (low b o e)]; exact e1⟩
  · by_cases hj : j = i
    · subst hj
      rw [hi] at e1
      cases e1
      rw [List.getElem?_set_self hiσ] at e2
      cases e2
      exact ⟨u, r, .inl ⟨hx, by simp⟩⟩
    · rw [List.getElem?_set_ne (Ne.symm hj)] at e2
      obtain ⟨u', r', q⟩ := hl j y v' e1 e2 e3
      refine ⟨u', r', ?_⟩
      rcases q with ⟨k, e⟩ | ⟨k, c, e, z⟩
      · have ne : y ≠ x := fun e => hj (nodup_ix hN e1 (by rw [e]; exact hi))
        exact .inl ⟨k, by simp [ne, e]⟩
      · exact .inr ⟨k, c, e, z.sameBut hs (cne y c e)⟩
  · obtain ⟨w', z⟩ := I.cell y c e
    exact ⟨w', z.sameBut hs (cne y c e)⟩
  · obtain ⟨e, n, ne, nf, d⟩ := I.pin p hp
    exact ⟨by rw [hs.2 p.1 ne]; exact e, n, ne, nf, d⟩
  · refine (I.hok b ob e).stay (fun c w' hc q => ?_) (fun _ q => q) fun _ _ q => q
    rw [hs.2 c ?_]
    · exact q
    · intro z
      rcases hc with hc | hc
      · rw [← hc, z, I.free] at e
        cases e
      · rw [z, I.free] at hc
        cases hc
theorem pgsg_nil : PGsg X [] gNil := by
  refine ⟨fun pins s σ H vs us Q I r h => ?_⟩
  obtain ⟨rfl, h⟩ := h
  cases r
  exact assignInOrder_nil ⟨⟨σ, H, I, h⟩, rfl⟩
theorem pgsg_cons {e : Expr} {es : List Expr} {t : TG} {u : TGs} (h1 : PGg X e t) (h2 : PGsg X es u)
    (hs : (assignEach (e :: es) X.env).map (·.2) = assign e X.env :: (assignEach es X.env).map (·.2) := by rfl) : PGsg X (e :: es) (gCons t u) := by
  refine ⟨fun pins s σ H vs us Q I r h => ?_⟩
  obtain ⟨v, vr, rfl, h⟩ := h
  cases r with
  | cons r rr =>
    rw [hs]
    refine assignInOrder_cons (thn (h1.run pins s σ H _ _ _ I r h) fun _ s1 ⟨⟨σ1, H1, I1, q1⟩, g1⟩ => ?_)
    exact thn (h2.run pins s1 σ1 H1 _ _ Q I1 rr q1) fun _ s2 ⟨q, g⟩ => ⟨q, g.trans g1⟩
theorem pgg_tup {es : List Expr} {k : Nat} {t : TGs} {n : Nat} (hc : X.calm = true) (h : PGsg X es t)
    (hn : (assignEach es X.env).length = n := by rfl) (hst : (assignEach es X.env).findIdx? (·.1) = none := by rfl) : PGg X (.Tuple es k pos) (gTup X.K n t) := by
  refine ⟨fun pins s σ H v u Q I r hw => ?_⟩
  obtain ⟨a, xs, rfl, hq, hl, hw⟩ := hw
  cases r
  obtain ⟨its, rv, ht, hz⟩ := I.tuple hq
  refine assign_Tuple_tuple (I.ok.hd hc) ht (by simp [hn, ← hl, rv.length]) hst fun h' hx => ?_
  have I1 : Inv X pins σ H { s with heap := h' } := I.kept (t' := s.toks) fun b o e => hx b o (Nat.ne_of_lt (Heap.lt_size e)) e
  exact thn (h.run pins _ σ H xs _ Q I1 (by simpa using rv) hw) fun _ s2 ⟨q, g⟩ => ⟨q, g⟩
end
end Gk
/-! A generator def's promise to a caller that goes on between its items. -/
namespace Gk
open PySem PySem.Spec PyProof.Rows L2 GenW
/-- arguments, heap, how many items at most, what the caller keeps, what is wanted at the end, what is wanted of an item -/
abbrev SpY := List V → Hp → Nat → L2.St → (L2.St → Hp → Prop) → (L2.St → V → Hp → (L2.St → Hp → Prop) → Prop) → Prop
def YRE (X : Cx) (Lk : LK) (dn : L2.St → Hp → Prop) : GenEnd := fun n s₀ r s1 =>
  ((r = .ok (.ret .none) ∨ r = .ok .next) ∧ ∃ γ H₀ pe H, Lk γ H₀ s₀ pe ∧ Went X pe H₀ s₀ H s1 ∧ dn γ H) ∨ ∃ e, r = .error e ∧ False
structure GenX (P : Program) (w : World) (base : Heap) (outer : List Env) (n0 : Nat) (X : Cx) : Prop where
  prog : X.prog = P
  w : X.w = w
  base : X.base = base
  outer : X.outer = outer
  loc : X.env.locals = n0
def YMade (P : Program) (w : World) (base : Heap) (k : Nat) (outer : List Env) (H : Hp) (s : Shared) (n : Nat) (γ : L2.St) (dn : L2.St → Hp → Prop) (yl : L2.St → V → Hp → (L2.St → Hp → Prop) → Prop) (u : Value) (s' : Shared) : Prop :=
  ∃ (a : Addr) (g : Nat) (c : Code) (go : Obj), u = .ref a ∧ s.heap.objs.size < a ∧ s'.heap.get? a = some go ∧ go.cls = .type "generator" ∧ (∃ nm qn, go.data = .fields #[.int g 0, nm, qn]) ∧ go.slots = #[] ∧ s'.gens[g]? = some (.fresh c) ∧ s'.os = s.os ∧ AllBare s'.gens ∧ s'.heap.NoLimit ∧ (∀ b o, s.heap.get? b = some o → s'.heap.get? b = some o) ∧
    ∀ (A : Around), Room k A → A.frames = some outer → ∃ X, GenX P w base outer s.heap.objs.size X ∧ ∀ (Lk : LK) (Ad : List Addr) (s2 : Shared) (pe : List (Addr × Obj)), (∀ b o, s'.heap.get? b = some o → s2.heap.get? b = some o) → Lk γ H s2 pe → On X s2 H → PeOk X Ad pe H s2 →
      Seg (model P w) A (YRE X Lk dn) (YP X Lk Ad yl) n s2 c ((model P w).den c) [] s2
structure GenYd (P : Program) (w : World) (K : PySem.W.Frag) (mg : Str → Option Value) (base : Heap) (k : Nat) (f : Addr) (fd : FuncData) (ps : List Str) (sp : SpY) : Prop where
  len : ∀ vs H n γ dn yl, sp vs H n γ dn yl → vs.length = ps.length
  run : ∀ (A : Around) (outer : List Env) (s : Shared) (H : Hp) (args : Args) (us : List Value) (vs : List V) (n : Nat) (γ : L2.St) (dn : L2.St → Hp → Prop) (yl : L2.St → V → Hp → (L2.St → Hp → Prop) → Prop), Room k A → Env0 P w K mg base A outer s H → BindsTo s fd args (ps.zip us) → Vals vs us → sp vs H n γ dn yl →
    codeAny (model P w) A (.call (.ref f) args) (fun r s' => match r with | .ok (.ret u) => YMade P w base k outer H s n γ dn yl u s' | _ => False) s
/-- the generator as it is made sleeps -/
theorem sleep0 {X : Cx} {H : Hp} {s : Shared} {σ : L2.St} (g : GCx X) (I : Inv X [] σ H s) : ∃ oL, s.heap.get? X.env.locals = some oL ∧ H X.env.locals = none ∧ Slept X [] σ oL := by
  obtain ⟨m, hn, hl⟩ := I.loc
  obtain ⟨o, es, ep, ho, r⟩ := hn
  have hd : o.data = .dict es ep := r.1
  refine ⟨o, ho, I.free, ⟨fun h e => ⟨m, ⟨o, es, ep, e, r⟩, fun i x v a b c => ?_⟩, fun p hp => (by cases hp), fun v z => ?_, ?_, I.len⟩⟩
  · obtain ⟨u, ru, l⟩ := hl i x v a b c
    refine ⟨u, ru, ?_⟩
    rcases l with l | ⟨_, c', e', _⟩
    · exact .inl l
    · rw [g.cells x] at e'
      cases e'
  · rw [hd] at z
    cases z
  · intro hb
    obtain ⟨_, o', e', _⟩ := I.ok.funs.mem hb
    have h1 := Heap.lt_size e'
    rw [g.n0] at h1
    exact absurd h1 (Nat.lt_irrefl _)
theorem gy_of {P : Program} {w : World} {K : PySem.W.Frag} {mg : Str → Option Value} {base : Heap} {k : Nat} {f : Addr} {name qual : Str} {params : Arguments} {body : List Stmt} {scope : Scope} {dV kV doc pm cdv ct oc : Value} {an od : Option Addr}
    {osl : Array (Option Value)} {N ps : List Str} {sp : SpY} (lk : K.lookup f = some ⟨oc, od, .func (PySem.W.fnOf name qual params body scope dV kV doc pm an cdv ct), osl⟩) (hcd : PySem.W.codeIn K cdv qual = true) (S : GScope N ps scope)
    (hcell : ∀ m x, (cellsFrom m scope.names []).lookup x = none)
    (len : ∀ vs H n γ dn yl, sp vs H n γ dn yl → vs.length = ps.length)
    (hbody : ∀ (A : Around) (outer : List Env) (s : Shared) (H : Hp) (vs : List V) (n : Nat) (γ : L2.St) (dn : L2.St → Hp → Prop) (yl : L2.St → V → Hp → (L2.St → Hp → Prop) → Prop), Room k (A.deeper (envOfC qual scope s.heap.objs.size f cdv)) → sp vs H n γ dn yl →
      ∃ t, YSs (fcx P w K mg base N qual scope f cdv A outer s H []) body t ∧ t { nx := fun _ γ _ H' => dn γ H', rt := fun _ γ v H' => v = .non ∧ dn γ H', yl := yl } n γ (start N vs) H) :
    GenYd P w K mg base (k + 1) f (PySem.W.fnOf name qual params body scope dV kV doc pm an cdv ct) ps sp := by
  refine ⟨len, fun A outer s H args us vs n γ dn yl hr e0 hb r hsp => ?_⟩
  have hl := len _ _ _ _ _ _ hsp
  have KX : K.In s.heap := e0.mod.kin.keeps fun b o e => (e0.bs b o e).1
  have lim : s.heap.NoLimit := e0.mod.nolimit.keeps fun b o e => (e0.bs b o e).1
  have hkind : ∀ y ∈ ps.zip us, scope.names.lookup y.1 = some .local ∨ (scope.names.lookup y.1 = some .cell ∧ ((cellsFrom (s.heap.objs.size + 1) scope.names []).lookup y.1).isSome = true) := fun ⟨n, v⟩ hy => by
    rcases S.par n (List.of_mem_zip hy).1 with q | q
    · exact .inl q
    · exact .inr ⟨q, PySem.W.cellsFrom_some _ _ _ (.inl q)⟩
  refine codeAny_call_generator hr.depth (KX _ _ lk) rfl S.co S.gen rfl (PySem.W.codeRec_of KX hcd) (hb _ _ _ _ ?_)
  refine wpAny_newFunctionEnv_cells S.kind hkind fun env he s1 x => ?_
  subst he
  have lim1 : s1.heap.NoLimit := lim.keeps x.toInCall.keep
  refine ⟨lim1, ?_⟩
  obtain ⟨h1, tk, es1, hk1⟩ := x.done
  have os1 : s1.os = s.os := by rw [es1]
  have gen1 : s1.gens = s.gens := by rw [es1]
  have lt1 : s.heap.objs.size < s1.heap.objs.size := x.toInCall.ns.lt
  have kp1 : ∀ b o, s.heap.get? b = some o → s1.heap.get? b = some o := x.toInCall.keep
  have main : ∀ (go : Obj) (nm qn : Value) (tk2 : Nat), go.cls = .type "generator" → go.data = .fields #[.int s1.gens.size 0, nm, qn] → go.slots = #[] → (∀ h : Heap, (h.push go).get? h.objs.size = some go) →
      YMade P w base (k + 1) outer H s n γ dn yl (.ref s1.heap.objs.size) { s1 with gens := s1.gens.push (.fresh (.func body (envOfC qual scope s.heap.objs.size f cdv))), toks := tk2, heap := s1.heap.push go } := by
    intro go nm qn tk2 hgc hgd0 hgs hgp
    refine ⟨s1.heap.objs.size, s1.gens.size, _, go, rfl, lt1, hgp _, hgc, ⟨nm, qn, hgd0⟩, hgs, Array.getElem?_push_size .., os1, AllBare.push (by rw [gen1]; exact e0.bare) rfl, lim1.keeps fun b o e => Heap.get?_push_of_some _ e, fun b o e => Heap.get?_push_of_some _ (kp1 b o e), ?_⟩
    intro Aw hrw hfr
    have g : GCx (fcx P w K mg base N qual scope f cdv Aw outer s H []) := ⟨rfl, rfl, rfl, rfl, fun x => hcell _ x, fun _ _ z => z⟩
    have e0w : Env0 P w K mg base Aw outer s H := ⟨hfr, e0.mod, e0.bs, e0.bsz, e0.funs, e0.frf, e0.hok, e0.bare⟩
    have I1 : Inv (gcxOf P w K mg base N qual scope f cdv Aw outer s H L2.E0 []) [] (start N vs) H s1 := inv_startG S hrw.hd e0w hl r x
    have G1 : Inv (fcx P w K mg base N qual scope f cdv Aw outer s H []) [] (start N vs) H s1 := Inv.wish (X := gcxOf P w K mg base N qual scope f cdv Aw outer s H L2.E0 []) I1 _
    obtain ⟨oL, hL, nL, SL⟩ := sleep0 g G1
    refine ⟨fcx P w K mg base N qual scope f cdv Aw outer s H [], ⟨rfl, rfl, rfl, rfl, rfl⟩, fun Lk Ad s2 pe hk2 lk2 on po => ?_⟩
    obtain ⟨t, ht, hq⟩ := hbody Aw outer s H vs n γ dn yl (hrw.deeper _) hsp
    have hL2 := hk2 _ _ (Heap.get?_push_of_some go hL)
    have I2 := waked g G1.ok on SL hL2 nL (fun p hp => (by cases hp)) po.2
    have yc : YC (fcx P w K mg base N qual scope f cdv Aw outer s H []) Ad [] Aw (.func body (envOfC qual scope s.heap.objs.size f cdv)) [] id := { toFC := ⟨over_func, rfl, rfl, rfl, fun _ _ z => z⟩, g := g, ok := G1.ok, ip := fun p hp => (by cases hp) }
    refine seg_func ?_
    refine ht.run Aw Lk Ad [] _ n γ s2 _ [] _ _ id id s2 (start N vs) H _ yc ⟨fun n' γ' s₀ s' fl H₀ pe' lk' ea' hn' hs => ?_⟩ ⟨H, pe, lk2, po.1, Nat.le_of_lt (Heap.lt_size hL2), I2⟩ hq
    have back : ∀ {σ' : L2.St} {H' : Hp}, Inv (re (fcx P w K mg base N qual scope f cdv Aw outer s H []) s₀ H₀) (pe' ++ []) σ' H' s' → Went (fcx P w K mg base N qual scope f cdv Aw outer s H []) pe' H₀ s₀ H' s' := fun {σ' H'} J =>
      ⟨J.os, J.bare, J.base, J.hok, fun p hp => let ⟨a, b, _⟩ := J.pin p (List.mem_append_right _ (List.mem_append_left _ hp)); ⟨a, b⟩⟩
    cases fl with
    | next =>
      obtain ⟨σ', H', J, hQ⟩ := hs
      exact seg_end (.ok (.ret .none)) (.inl ⟨.inl rfl, γ', H₀, pe', H', lk', back J, hQ⟩)
    | brk => obtain ⟨_, _, _, q⟩ := hs; exact False.elim q
    | cont => obtain ⟨_, _, _, q⟩ := hs; exact False.elim q
    | ret u =>
      obtain ⟨v, σ', H', J, rv, ev, hQ⟩ := hs
      subst ev
      have eu : u = Value.none := rv
      subst eu
      exact seg_end (.ok (.ret .none)) (.inl ⟨.inl rfl, γ', H₀, pe', H', lk', back J, hQ⟩)
  exact main _ _ _ _ rfl rfl rfl fun h => Heap.get?_push_size _ rfl
theorem gY_ok {P : Program} {w : World} {K : PySem.W.Frag} {mg : Str → Option Value} {base : Heap} {x qual : Str} {st : Stmt} {f : Addr} {fd : FuncData} {N ps : List Str} {k : Nat} {sp : SpY} (F : L2.Fun K x qual st f fd) (S : GScope N ps (defScope st))
    (hcell : ∀ m x, (cellsFrom m (defScope st).names []).lookup x = none) (len : ∀ vs H n γ dn yl, sp vs H n γ dn yl → vs.length = ps.length)
    (hbody : ∀ (cdv : Value) (A : Around) (outer : List Env) (s : Shared) (H : Hp) (vs : List V) (n : Nat) (γ : L2.St) (dn : L2.St → Hp → Prop) (yl : L2.St → V → Hp → (L2.St → Hp → Prop) → Prop), Room k (A.deeper (envOfC qual (defScope st) s.heap.objs.size f cdv)) → sp vs H n γ dn yl →
      ∃ t, YSs (fcx P w K mg base N qual (defScope st) f cdv A outer s H []) (defBody st) t ∧ t { nx := fun _ γ _ H' => dn γ H', rt := fun _ γ v H' => v = .non ∧ dn γ H', yl := yl } n γ (start N vs) H) :
    GenYd P w K mg base (k + 1) f fd ps sp := by
  obtain ⟨oc, od, kV, doc, pm, an, cdv, ct, osl, rfl, lk, hcd⟩ := F.ex
  exact gy_of lk hcd S hcell len fun A outer s H vs n γ dn yl hr h => hbody cdv A outer s H vs n γ dn yl hr h
structure Dgy (P : Program) (w : World) (K : PySem.W.Frag) (mg : Str → Option Value) (base : Heap) (k : Nat) (x : Str) (ps : List Str) (sp : SpY) : Prop where
  ex : ∃ (f : Addr) (fd : FuncData), GenYd P w K mg base k f fd ps sp ∧ mg x = some (.ref f) ∧ PySem.W.keepIn K (.ref f) = true ∧ Binds K fd ps []
end Gk
/-! for x in f(..): .., the generator going on turn by turn. -/
namespace Gk
open PySem PySem.Spec PyProof.Rows L2 GenW
section
variable {X X' : Cx} {pins pe : List (Addr × Obj)} {γ : L2.St} {H H₀ : Hp} {s s₀ : Shared} {n0 : Nat}
/-- the caller behind a turn of the generator -/
theorem turn_back (I : Inv X pins γ H₀ s₀) (gx : GenX X.prog X.w X.base X.stack n0 X') (hlow : X.env.locals < n0) (hcells : ∀ x c, X.env.cells.lookup x = some c → c < n0) (hpins : ∀ p ∈ X.pn ++ pins, p.1 < n0) (W : Went X' pe H₀ s₀ H s)
    {s' : Shared} (es : s'.heap = s.heap) (eo : s'.os = s.os) (eg : AllBare s'.gens) : Inv X pins γ H s' := by
  have hfs : X'.fs = frs X.stack := by
    show frs X'.outer = _
    rw [gx.outer]
  have un := W.un
  rw [hfs, gx.loc] at un
  have low : ∀ {b : Addr} {o : Obj}, s₀.heap.get? b = some o → b ∉ (List.range s₀.heap.objs.size).filter (fun b => decide (n0 ≤ b)) → (cut s₀.heap n0).get? b = some o := fun {b o} e hb => by
    refine cut_of ?_ e
    rcases Nat.lt_or_ge b n0 with z | z
    · exact z
    · exact absurd (List.mem_filter.mpr ⟨List.mem_range.mpr (Heap.lt_size e), decide_eq_true z⟩) hb
  have hok : HOk X.prog X.w H s'.heap := by
    have := W.hok
    rw [gx.prog, gx.w] at this
    rw [es]
    exact this
  refine I.call' (ch := (List.range s₀.heap.objs.size).filter (fun b => decide (n0 ≤ b))) (eo.trans W.os) ?_ hok eg fun b hb => ?_
  · rw [es]
    exact ⟨fun b o e n hb hc => un.keep b o (low e hc) n hb (by simp), fun b o e n hb hc => un.slot b o (low e hc) n hb (by simp), fun b o e n hc => un.free b o (low e hc) n (by simp), fun b o e hc => un.there b o (low e hc) (by simp), un.tups, un.frzs, un.tbls⟩
  · have hge : n0 ≤ b := of_decide_eq_true (List.mem_filter.mp hb).2
    refine ⟨.inr (Nat.le_trans I.ok.above (Nat.le_trans (Nat.le_of_lt hlow) hge)), fun z => ?_, fun x c e z => ?_, fun p hp z => ?_⟩
    · rw [z] at hge
      exact absurd hlow (Nat.not_lt.mpr hge)
    · have := hcells x c e
      rw [z] at this
      exact absurd this (Nat.not_lt.mpr hge)
    · have := hpins p hp
      rw [z] at this
      exact absurd this (Nat.not_lt.mpr hge)
theorem on_of (I : Inv X pins γ H s) (gx : GenX X.prog X.w X.base X.stack n0 X') : On X' s H := by
  have e := I.env0
  have hfs : X'.fs = frs X.stack := by
    show frs X'.outer = _
    rw [gx.outer]
  refine ⟨fun b o h => e.bs b o (by rw [← gx.base]; exact h), by rw [gx.base]; exact e.bsz, by rw [gx.base, gx.outer]; exact e.funs, fun b hb => e.frf b (by rw [← hfs]; exact hb), by rw [gx.prog, gx.w]; exact e.hok, e.bare⟩
theorem inv_gens {s' : Shared} (I : Inv X pins γ H s) (eh : s'.heap = s.heap) (eo : s'.os = s.os) (eg : AllBare s'.gens) : Inv X pins γ H s' :=
  I.call' (ch := []) eo (by rw [eh]; exact Un.refl) (by rw [eh]; exact I.hok) eg fun b z => by cases z
end
section
variable {X : Cx} {k : Nat} {f : Addr} {fd : FuncData} {ps : List Str} {sp : SpY} {x : Str} {p pos fpos : Pos} {e : Expr} {es : List Expr} {t : TA} {tg : Expr} {g : TG} {tb : TS} {body : List Stmt}
def tForY (sp : SpY) (t : TA) (g : TG) (tb : TS) : TS := fun D σ H => t σ H fun vs H1 => ∃ n, sp vs H1 n σ (fun γ H2 => D.nx γ H2) (fun γ v H2 k => g v γ H2 fun σ3 H3 => tb { D with nx := k, ct := k, bk := D.nx } σ3 H3)
theorem ps_forY (F : GenYd X.prog X.w X.K X.mg X.base k f fd ps sp) (hr : Room (k + 3) X.A) (hx : Gl X x) (hm : X.mg x = some (.ref f)) (hk : PySem.W.keepIn X.K (.ref f) = true) (hbn : Binds X.K fd ps [])
    (ha : PA X (e :: es) t) (hp : PassesOwn (model X.prog X.w) X.A X.env X.xe) (hc : X.calm = true) (hg : PGg X tg g) (hb : PSsg X body tb)
    (hdb : (x == ("__debug__" : Str)) = false := by decide) (he : starEach (e :: es) X.env = (false, eval e X.env) :: starEach es X.env := by rfl) (hpl : (backTo pos (starEach es X.env)).any (·.1) = false := by rfl)
    (hs : ∀ v, foldedSetIterable (.Call (.Name x p) (e :: es) [] pos) X.env v = pure v := by intro _; rfl) :
    PS X (.For tg (.Call (.Name x p) (e :: es) [] pos) body [] fpos) (tForY sp t g tb) := by
  refine ⟨fun pins s σ H D I h => ?_⟩
  refine wpAny_For ?_ hs
  refine wpAny_Call_Name_kw (ld_glob I hx hm ?_ hdb)
  refine PySem.W.callWith_K (h₀ := X.base) I.ok.mod.kin hk (thn (ha.run pos pins s σ H _ I h) fun us s1 ⟨vs, H1, I1, r1, n, q1⟩ => ⟨I1.kIn, ?_⟩) he hpl
  have hl : (us ++ []).length = ps.length := by rw [List.append_nil, ← r1.length]; exact F.len _ _ _ _ _ _ q1
  have b := hbn s1 us I1.kIn hl
  rw [List.append_nil] at b
  refine wpAny_call (codeAny_mono (F.run X.A X.stack s1 H1 ⟨us, []⟩ us vs n σ _ _ (hr.mono (by omega)) I1.env0 b r1 q1) fun res s2 hq => ?_)
  cases res with
  | error er => exact False.elim hq
  | ok fl =>
    cases fl with
    | brk => exact False.elim hq
    | cont => exact False.elim hq
    | next => exact False.elim hq
    | ret u =>
      obtain ⟨a, gi, c, go, rfl, ha1, hgo, hgc, ⟨nm, qn, hgd⟩, hgs, hfr, hos, hbare, hlim, hkp, wake⟩ := hq
      have isg : ∀ h : Heap, h.get? a = some go → h.IsGen a gi := fun h e => ⟨go, nm, qn, e, hgc, hgd, hgs⟩
      refine wpAny_pyIter_gen (isg _ hgo) ?_
      have rm : Room k X.A.in1 := ⟨hr.hd, by have := hr.dp; show X.A.depth + 3 * k + 5 < _; omega, by have := hr.un; show X.A.units + 1 + 16 * k + 200 < _; omega⟩
      have dep : X.A.depth < recursionLimit := by have := hr.dp; omega
      obtain ⟨X', gx, seg⟩ := wake X.A.in1 rm I1.ok.frames
      have hlow : X.env.locals < s1.heap.objs.size := I1.lt
      have hcells : ∀ y c, X.env.cells.lookup y = some c → c < s1.heap.objs.size := fun y c e => by
        obtain ⟨v, z⟩ := I1.cell y c e
        exact z.lt
      have hpins : ∀ q ∈ X.pn ++ pins, q.1 < s1.heap.objs.size := fun q hq => Heap.lt_size (I1.pin q hq).1
      have hfsl : ∀ z ∈ X.fs, z < s1.heap.objs.size := fun z hz => by
        obtain ⟨_, o, ho, _⟩ := I1.ok.funs.mem hz
        exact Nat.lt_of_lt_of_le (Heap.lt_size ho) I1.sz
      have hfs' : X'.fs = frs X.stack := by
        show frs X'.outer = _
        rw [gx.outer]
      have hstk : ∀ z ∈ frs X.stack, z < s1.heap.objs.size := fun z hz => by
        rcases List.mem_cons.mp (I1.stkSub z hz) with q | q
        · rw [q]; exact hlow
        · exact hfsl z q
      have nocell : ∀ v, go.data ≠ .cell v := fun v z => by rw [hgd] at z; cases z
      have na1 : H1 a = none := I1.hok.fresh (Nat.le_of_lt ha1)
      have I2 : Inv X pins σ H1 s2 := I1.call' (ch := []) hos (Un.kept hkp) (I1.hok.kept hkp) hbare fun b z => by cases z
      -- what links the two
      have peOk : ∀ {H' : Hp} {s' : Shared}, s'.heap.get? a = some go → H' a = none → PeOk X' [a] [(a, go)] H' s' := fun {H' s'} e n => ⟨rfl, fun q hq => by
        rw [List.mem_singleton.mp hq]
        refine ⟨e, n, ?_, ?_, nocell⟩
        · rw [gx.loc]
          exact Nat.ne_of_gt ha1
        · rw [hfs']
          exact fun z => absurd (hstk a z) (Nat.not_lt.mpr (Nat.le_of_lt ha1))⟩
      refine codeAny_forLoop_any (fun m s' => ∃ γ H' gs, Inv X pins γ H' s' ∧ s'.heap.get? a = some go ∧ H' a = none ∧ s'.gens[gi]? = some gs ∧
        gs.Goes (model X.prog X.w) X.A.in1 (YRE X' (fun γ H s pe => Inv X pins γ H s ∧ pe = [(a, go)]) (fun γ H2 => D.nx γ H2)) (YP X' (fun γ H s pe => Inv X pins γ H s ∧ pe = [(a, go)]) [a] (fun γ v H2 k => g v γ H2 fun σ3 H3 => tb { D with nx := k, ct := k, bk := D.nx } σ3 H3)) m (.send .none) (s'.setGen gi .running)) ?_ n ?_
      · rintro m s3 ⟨γ, H3, gs, I3, hgo3, na3, hg3, goes⟩
        have hgl : gi < s3.gens.size := (Array.getElem?_eq_some_iff.mp hg3).1
        refine wpAny_passesOwn hp (wpAny_gsz (n := gi + 1) hgl (next_genG (F := fun _ s₀ s₁ => ∃ γ H₀ pe H, (Inv X pins γ H₀ s₀ ∧ pe = [(a, go)]) ∧ Went X' pe H₀ s₀ H s₁ ∧ D.nx γ H) (Er := fun _ _ => False) (I3.ok.hd hc) I3.nolimit dep (isg _ hgo3) hg3 goes (fun v s₁ gs' hbg hv => ?_) (fun s₁ hf h' hk' => ?_) fun e s₁ z => z.elim))
        · intro hsz
          obtain ⟨γ1, H₀, H4, pe, hl, y, kk, ⟨J0, epe⟩, rv, W, hhl, q, kap⟩ := hv
          subst epe
          have J : Inv X pins γ1 H4 (s₁.setGen gi gs') := turn_back J0 gx hlow hcells hpins W rfl rfl (allBare_setGen W.bare hbg)
          obtain ⟨hgo4, na4⟩ := W.pe (a, go) (List.mem_singleton.mpr rfl)
          have hgi : gi < s₁.gens.size := by
            have q : (s₁.setGen gi gs').gens.size = s₁.gens.size := setGen_size _ _ _
            have : gi + 1 ≤ (s₁.setGen gi gs').gens.size := hsz
            omega
          have pinsOk : ∀ q ∈ pins ++ ((a, go) :: hl), (s₁.setGen gi gs').heap.get? q.1 = some q.2 ∧ H4 q.1 = none ∧ q.1 ≠ X.env.locals ∧ q.1 ∉ X.fs ∧ ∀ v, q.2.data ≠ .cell v := fun q hq => by
            have big : s1.heap.objs.size ≤ q.1 → q.1 ≠ X.env.locals ∧ q.1 ∉ X.fs := fun z => ⟨fun w => absurd hlow (Nat.not_lt.mpr (by rw [← w]; exact z)), fun w => absurd (hfsl _ w) (Nat.not_lt.mpr z)⟩
            rcases List.mem_append.mp hq with hq | hq
            · exact J.pin q (List.mem_append_right _ hq)
            · rcases List.mem_cons.mp hq with rfl | hq
              · exact ⟨hgo4, na4, (big (Nat.le_of_lt ha1)).1, (big (Nat.le_of_lt ha1)).2, nocell⟩
              · obtain ⟨h1, h2, h3, _, h4⟩ := hhl q hq
                rw [gx.loc] at h3
                exact ⟨h1, h2, (big h3).1, (big h3).2, h4⟩
          have J' : Inv X (pins ++ ((a, go) :: hl)) γ1 H4 (s₁.setGen gi gs') := J.pins_of pinsOk
          refine go_of (s := s₁.setGen gi gs') (o := go) (n := "generator") hgo4 hgc hgd (by decide) ?_
          refine wpAny_passesOwn hp (thn (hg.run _ _ γ1 H4 y v _ J' rv q) fun _ s6 ⟨⟨σ6, H6, I6, q6⟩, g6⟩ => ?_)
          refine wpAny_passesOwn hp (thn (hb.run _ s6 σ6 H6 _ I6 q6) fun f s7 ⟨q7, g7⟩ => ?_)
          have eg : s7.gens[gi]? = some gs' := by
            rw [g7, g6]
            exact setGen_at hgi
          have unp : ∀ {σ' : L2.St} {H' : Hp}, Inv X (pins ++ ((a, go) :: hl)) σ' H' s7 → Inv X pins σ' H' s7 := fun {σ' H'} K7 => K7.pins_of fun q hq => K7.pin q (List.mem_append_right _ (List.mem_append_left _ hq))
          have again : ∀ {σ' : L2.St} {H' : Hp}, Inv X (pins ++ ((a, go) :: hl)) σ' H' s7 → kk σ' H' → ∃ m', m' < m ∧ ∃ γ H' gs, Inv X pins γ H' s7 ∧ s7.heap.get? a = some go ∧ H' a = none ∧ s7.gens[gi]? = some gs ∧
              gs.Goes (model X.prog X.w) X.A.in1 (YRE X' (fun γ H s pe => Inv X pins γ H s ∧ pe = [(a, go)]) (fun γ H2 => D.nx γ H2)) (YP X' (fun γ H s pe => Inv X pins γ H s ∧ pe = [(a, go)]) [a] (fun γ v H2 k => g v γ H2 fun σ3 H3 => tb { D with nx := k, ct := k, bk := D.nx } σ3 H3)) m' (.send .none) (s7.setGen gi .running) := fun {σ' H'} K7 hkk => by
            obtain ⟨b1, b2, _⟩ := K7.pin (a, go) (List.mem_append_right _ (List.mem_append_right _ List.mem_cons_self))
            have K8 : Inv X pins σ' H' (s7.setGen gi .running) := inv_gens (unp K7) rfl rfl (allBare_setGen K7.bare rfl)
            have z := kap σ' H' (s7.setGen gi .running) [(a, go)] hkk ⟨K8, rfl⟩ (on_of K8 gx) (peOk b1 b2) fun q hq => by
              obtain ⟨c1, c2, _⟩ := K7.pin q (List.mem_append_right _ (List.mem_append_right _ (List.mem_cons_of_mem _ hq)))
              exact ⟨c1, c2⟩
            cases m with
            | zero => exact z.elim
            | succ m => exact ⟨m, Nat.lt_succ_self m, σ', H', gs', unp K7, b1, b2, eg, z⟩
          cases f with
          | next => obtain ⟨σ', H', K7, z⟩ := q7; exact again K7 z
          | cont => obtain ⟨σ', H', K7, z⟩ := q7; exact again K7 z
          | brk => obtain ⟨σ', H', K7, z⟩ := q7; exact ⟨σ', H', unp K7, z⟩
          | ret v => obtain ⟨v', σ', H', K7, rv', z⟩ := q7; exact ⟨v', σ', H', unp K7, rv', z⟩
        · intro _
          obtain ⟨γ1, H₀, pe, H4, ⟨J0, epe⟩, W, q⟩ := hf
          have J1 : Inv X pins γ1 H4 (s₁.setGen gi .finished) := turn_back J0 gx hlow hcells hpins W rfl rfl (allBare_setGen W.bare rfl)
          have J : Inv X pins γ1 H4 { s₁.setGen gi .finished with heap := h' } := J1.kept (t' := s₁.toks) hk'
          exact wpAny_execs_nil ⟨γ1, H4, J, q⟩
      · have I3 : Inv X pins σ H1 (s2.setGen gi .running) := inv_gens I2 rfl rfl (allBare_setGen hbare rfl)
        exact ⟨σ, H1, _, I2, hgo, na1, hfr, rfl, seg _ [a] (s2.setGen gi .running) [(a, go)] (fun _ _ z => z) ⟨I3, rfl⟩ (on_of I3 gx) (peOk hgo na1)⟩
end
end Gk
/-! A for over a range within a generator that goes on; for over such a def. -/
namespace Gk
open PySem PySem.Spec PyProof.Rows L2 GenW
theorem for_rangeY {lo : Int} {n : Nat} {g : TG} {tb : TY} {D : YEnds} {m : Nat} {γ σ : L2.St} {H : Hp} (Pv : Nat → Nat → L2.St → L2.St → Hp → Prop) (h0 : Pv 0 m γ σ H)
    (hs : ∀ i m γ σ H, i < n → Pv i m γ σ H → g (.int (lo + i)) σ H fun σ2 H2 => tb { D with nx := Pv (i + 1), ct := Pv (i + 1), bk := D.nx } m γ σ2 H2) (hd : ∀ m γ σ H, Pv n m γ σ H → D.nx m γ σ H) :
    ∃ W : Nat → Nat → Nat → L2.St → L2.St → Hp → Prop, (∃ e, W 0 e m γ σ H) ∧ ∀ i e m γ σ H, W i e m γ σ H →
      ((Itr lo n).stop i H ∧ D.nx m γ σ H) ∨ ((Itr lo n).go i H ∧ ∃ N : Nat → L2.St → L2.St → Hp → Prop, (∀ m' γ' σ' H', N m' γ' σ' H' → ∃ e', e' < e ∧ W (i + 1) e' m' γ' σ' H') ∧ ∀ x H', (Itr lo n).yld i H x H' → g x σ H' fun σ2 H2 => tb { D with nx := N, ct := N, bk := D.nx } m γ σ2 H2) := by
  refine ⟨fun i e m γ σ H => e = n - i ∧ i ≤ n ∧ Pv i m γ σ H, ⟨n, rfl, Nat.zero_le _, h0⟩, fun i e m γ σ H ⟨h1, h2, p⟩ => ?_⟩
  subst h1
  rcases Nat.lt_or_ge i n with c | c
  · exact .inr ⟨c, Pv (i + 1), fun m' γ' σ' H' p' => ⟨n - (i + 1), by omega, rfl, c, p'⟩, fun x H' ⟨e1, e2⟩ => by subst e1 e2; exact hs i m γ σ _ c p⟩
  · obtain rfl : i = n := by omega
    exact .inl ⟨Nat.le_refl _, hd m γ σ H p⟩
section
variable {X : Cx} {k : Nat} {ps : List Str} {sp : SpY} {x : Str} {p pos fpos : Pos} {e : Expr} {es : List Expr} {t : TA} {tg : Expr} {g : TG} {tb : TS} {body : List Stmt}
theorem ps_forYD (D : Dgy X.prog X.w X.K X.mg X.base k x ps sp) (hr : Room (k + 3) X.A) (hx : Gl X x) (ha : PA X (e :: es) t) (hp : PassesOwn (model X.prog X.w) X.A X.env X.xe) (hc : X.calm = true) (hg : PGg X tg g) (hb : PSsg X body tb)
    (hdb : (x == ("__debug__" : Str)) = false := by decide) (he : starEach (e :: es) X.env = (false, eval e X.env) :: starEach es X.env := by rfl) (hpl : (backTo pos (starEach es X.env)).any (·.1) = false := by rfl)
    (hs : ∀ v, foldedSetIterable (.Call (.Name x p) (e :: es) [] pos) X.env v = pure v := by intro _; rfl) :
    PS X (.For tg (.Call (.Name x p) (e :: es) [] pos) body [] fpos) (tForY sp t g tb) := by
  obtain ⟨f, fd, F, hm, hk, hbn⟩ := D.ex
  exact ps_forY F hr hx hm hk hbn ha hp hc hg hb hdb he hpl hs
end
/-- what stands as a tuple stays, a list being written -/
theorem keep_wr {K : PySem.W.Frag} {H : Hp} {D : Addr} {as bs : List V} (h : H D = some (.lst as)) : Keep K H (upd H D (.lst bs)) := fun a xs q => by
  have ne : ∀ {o : HO}, H a = some o → (∀ zs, o ≠ .lst zs) → upd H D (.lst bs) a = some o := fun {o} e n => by
    rw [upd_ne]
    · exact e
    · rintro rfl
      rw [h] at e
      exact n as (Option.some.inj e).symm
  rcases q with (q | ⟨u, q⟩) | q
  · exact .inl (.inl (ne q fun zs z => by cases z))
  · exact .inl (.inr ⟨u, ne q fun zs z => by cases z⟩)
  · exact .inr q
end Gk
/-! enumerate over a generator: its making, its next. -/
namespace Gk
open PySem PySem.Spec PyProof.Rows L2 GenW
section
variable {P : Program} {w : World} {A : Around} {E : Value → Shared → Prop} {s : Shared}
/-- next(generator), as what asks for the items of another iterator does it -/
theorem nextOf_genG {a : Addr} {g n : Nat} {gs : GenState} {F : Nat → Shared → Shared → Prop} {Y : Protocol} {Q : Value → Shared → Prop} (hh : A.handled = none)
    (hl : s.heap.NoLimit) (hroom : A.depth < recursionLimit) (hg : s.heap.IsGen a g) (hgs : s.gens[g]? = some gs)
    (hgo : gs.Goes (model P w) A.in1 (fun n s₀ r s₁ => ((r = .ok (.ret .none) ∨ r = .ok .next) ∧ F n s₀ s₁) ∨ ∃ e, r = .error e ∧ False) Y n (.send .none) (s.setGen g .running))
    (hY : ∀ v s₁ gs', gs'.bare = true → Y (n - 1) (s.setGen g .running) v s₁ (fun r' s'' => match n with
        | 0 => False
        | m + 1 => gs'.Goes (model P w) A.in1 (fun n s₀ r s₁ => ((r = .ok (.ret .none) ∨ r = .ok .next) ∧ F n s₀ s₁) ∨ ∃ e, r = .error e ∧ False) Y m r' s'') → Q v (s₁.setGen g gs'))
    (hP : ∀ s₁, F n (s.setGen g .running) s₁ → ∀ h' ex o, (∀ b o, s₁.heap.get? b = some o → h'.get? b = some o) → h'.get? ex = some o → o.cls = .type "StopIteration" → E (.ref ex) { s₁.setGen g .finished with heap := h' }) :
    wpAny (model P w) A (Builtin.SmallTypes.nextOf (.ref a)) Q E s := by
  unfold Builtin.SmallTypes.nextOf
  refine wpAny_bind (wpAny_callSpecial?_slot (name := Str.ofString "__next__") hg.typeIs slot_gen_next
    (wpAny_call_entry slot_gen_next hg.typeIs entry_gen_next ?_ (args_gen_next _)))
  show wpAny _ A.in1 (Builtin.Generator.genWake (.ref a) (.send .none)) _ _ s
  unfold Builtin.Generator.genWake
  refine wpAny_bind (wpAny_holding (wpAny_genNumber hg (wpAny_bind (wpAny_genState hgs ?_))))
  cases gs with
  | running => exact hgo.elim
  | finished => exact hgo.elim
  | _ =>
    refine wpAny_bind (wpAny_roomToWake hl hroom ?_)
    show wpAny _ A.in1 (.resume g (.send .none) [] _) _ _ s
    refine wpAny_resumeQ hgs hgo (fun x s₁ hx => ?_) (fun v s₁ gs' hb hv => ?_)
    · rcases hx with ⟨hr, hp⟩ | ⟨e, rfl, he⟩
      · have hres : End.result (.ret x) = .returned .none := by
          rcases hr with hr | hr <;> rw [hr] <;> rfl
        first | rw [hres] | simp only [hres]
        show wpAny _ A.in1 (newExc (.type "StopIteration") [] >>= _) _ _ _
        refine wpAny_bind ?_
        simp only [newExc, newTuple]
        refine wpAny_bind (wpAny_newObj_type ?_ (by size_fits))
        refine wpAny_bind (m := firstArgMember _ _) (wpAny_of_eq (a := Value.none) (by first | rfl | (simp only [firstArgMember]; rfl)) ?_)
        refine wpAny_newObj_type ?_ (by size_fits)
        simp only [raiseNew]
        refine wpAny_bind (wpAny_bind (wpAny_handled ?_))
        first | rw [show A.in1.handled = none from hh] | rw [hh]
        refine wpAny_throw ?_
        exact hP s₁ hp _ _ _ (fun b o hb => Heap.get?_push_of_some _ (Heap.get?_push_of_some _ hb)) (Heap.get?_push_size _ rfl) rfl
      · exact he.elim
    · exact wpAny_pure ⟨v, rfl, wpAny_pure (hY v s₁ gs' hb hv)⟩
end
open AutoSeq1 (wpAny_loadPart') in
theorem meets_enumerate_newG (a : Addr) (g : Nat) (o : Obj) :
    Meets (Builtin.«enumerate.__new__» ⟨[.type "enumerate", .ref a], []⟩) (fun _ R s => s.heap.get? a = some o ∧ s.heap.IsGen a g ∧
      R (.ok (.ret (.ref s.heap.objs.size))) { s with heap := s.heap.push { cls := .type "enumerate", data := .fields #[.none, .bool false, .ref a, rawInt 0, .none, .none] } }) :=
  .of_wp fun prog w A R s h => by
    obtain ⟨hp, g0, d, tk, os⟩ := s
    obtain ⟨hl, hG, h⟩ := h
    have hsub := sub_enumerate
    have hG : Heap.IsGen (Shared.heap ⟨hp, g0, d, tk, os⟩) a g := hG
    wp_walk using wpAny_loadPart' hl
    refine wpAny_stack_any fun st => wpAny_pure ?_
    split
    · rename_i c _ _ _ _ _
      cases (c == Value.type "enumerate")
      · wp_walk using wpAny_loadPart' hl, wpAny_pyIter_gen hG
        exact ⟨_, rfl, h⟩
      · wp_walk using wpAny_loadPart' hl, wpAny_pyIter_gen hG
        exact ⟨_, rfl, h⟩
    · wp_walk using wpAny_loadPart' hl, wpAny_pyIter_gen hG
      exact ⟨_, rfl, h⟩
section
variable {P : Program} {w : World} {A : Around} {E : Value → Shared → Prop} {s : Shared}
theorem call_enumerate_gen {a : Addr} {g : Nat} {Q : Value → Shared → Prop} (hG : s.heap.IsGen a g)
    (h : ∀ h', IsEnum h' s.heap.objs.size a 0 .none → h'.objs.size = s.heap.objs.size + 1 → (∀ b o, s.heap.get? b = some o → h'.get? b = some o) → Q (.ref s.heap.objs.size) { s with heap := h' }) :
    wpAny (model P w) A (call (.type "enumerate") [.ref a]) Q E s := by
  obtain ⟨o, nm, qn, ho, hc, hd, hs⟩ := id hG
  refine callType_new F.called_enumerate (by decide) (F.typeCall_enumerate_1 _) (F.newCall_enumerate_1 _) (fun obj => F.args_object_init_2 obj _) F.entry_enumerate_new
    (meets_enumerate_newG a g o) ⟨ho, hG, ?_⟩
  have he : IsEnum (s.heap.push { cls := .type "enumerate", data := .fields #[.none, .bool false, .ref a, rawInt 0, .none, .none] }) s.heap.objs.size a 0 .none := Heap.get?_push_size _ rfl
  exact ⟨⟨_, he, rfl⟩, h _ he (Heap.size_push ..) fun b o x => Heap.get?_push_of_some _ x⟩
/-- next(enumerate(generator)) -/
theorem next_enumG {e a : Addr} {g n i : Nat} {old : Value} {gs : GenState} {F : Nat → Shared → Shared → Prop} {Y : Protocol} {Q : Option Value → Shared → Prop} (hh : A.handled = none)
    (he : IsEnum s.heap e a i old) (hl : s.heap.NoLimit) (hroom : A.depth < recursionLimit) (hg : s.heap.IsGen a g) (hgs : s.gens[g]? = some gs)
    (hgo : gs.Goes (model P w) A.in1.in1 (fun n s₀ r s₁ => ((r = .ok (.ret .none) ∨ r = .ok .next) ∧ F n s₀ s₁) ∨ ∃ e, r = .error e ∧ False) Y n (.send .none) (s.setGen g .running))
    (hY : ∀ v s₁ gs', gs'.bare = true → Y (n - 1) (s.setGen g .running) v s₁ (fun r' s'' => match n with
        | 0 => False
        | m + 1 => gs'.Goes (model P w) A.in1.in1 (fun n s₀ r s₁ => ((r = .ok (.ret .none) ∨ r = .ok .next) ∧ F n s₀ s₁) ∨ ∃ e, r = .error e ∧ False) Y m r' s'') →
      IsEnum s₁.heap e a i old ∧ ∀ h' tk, IsEnumOut h' e a ((i : Int) + 1) v s₁.heap.objs.size → h'.get? s₁.heap.objs.size = some { cls := .type "tuple", data := .seq #[.int i s₁.toks, v] } → h'.objs.size = s₁.heap.objs.size + 1 →
        (∀ b o, b ≠ e → s₁.heap.get? b = some o → h'.get? b = some o) → Q (some (.ref s₁.heap.objs.size)) { s₁.setGen g gs' with heap := h', toks := tk })
    (hP : ∀ s₁, F n (s.setGen g .running) s₁ → ∀ h', (∀ b o, s₁.heap.get? b = some o → h'.get? b = some o) → Q none { s₁.setGen g .finished with heap := h' }) :
    wpAny (model P w) A (pyNext (.ref e)) Q E s := by
  have hT : s.TypeIs (.ref e) "enumerate" := ⟨_, he, rfl⟩
  unfold pyNext
  refine wpAny_bind (wpAny_attempt (wpAny_callSpecial?_slot (name := Str.ofString "__next__") hT PySem.F.slot_enumerate_next
    (wpAny_call_entry PySem.F.slot_enumerate_next hT PySem.F.entry_enumerate_next ?_ (PySem.F.args_enumerate_next_1 _))))
  show wpAny _ _ (field (.ref e) 2 >>= _) _ _ _
  refine wpAny_bind (wpAny_field he rfl (x := .ref a) rfl ?_)
  refine wpAny_bind (nextOf_genG (A := A.in1) (F := F) (Y := Y) hh hl hroom hg hgs hgo (fun v s₁ gs' hb hv => ?_) fun s₁ hf h' ex o k1 ho hc => ?_)
  · obtain ⟨he₁, fin⟩ := hY v s₁ gs' hb hv
    have hel : e < s₁.heap.objs.size := Heap.lt_size he₁
    obtain ⟨hp, gg, d, tk, os⟩ := s₁
    have he₁ : IsEnum hp e a i old := he₁
    have hel : e < hp.objs.size := hel
    show wpAny _ _ (field (.ref e) 3 >>= _) _ _ (Shared.setGen ⟨hp, gg, d, tk, os⟩ g gs')
    generalize hgen : (Shared.setGen ⟨hp, gg, d, tk, os⟩ g gs').gens = gens'
    have eS : Shared.setGen ⟨hp, gg, d, tk, os⟩ g gs' = ⟨hp, gens', d, tk, os⟩ := by rw [← hgen]; rfl
    rw [eS]
    refine wpAny_bind (wpAny_field he₁ rfl (x := rawInt i) rfl (wpAny_bind (wpAny_field he₁ rfl (x := .none) rfl ?_)))
    show wpAny _ _ (mkInt i >>= _) _ _ ⟨hp, gens', d, tk, os⟩
    refine wpAny_bind (wpAny_mkInt (wpAny_bind (wpAny_setField_rec he₁ (by simp) fun h2 he2 sb2 => ?_)))
    have sb2 : Heap.SameBut e hp h2 := sb2
    have he2 : IsEnum h2 e a ((i : Int) + 1) old := he2
    refine wpAny_bind (wpAny_setField_rec he2 (by simp) fun h3 he3 sb3 => ?_)
    have sb3 : Heap.SameBut e h2 h3 := sb3
    have he3 : IsEnum h3 e a ((i : Int) + 1) old := he3
    show wpAny _ _ (newTuple [.int i tk, v] >>= _) _ _ ⟨h3, gens', d, tk + 1, os⟩
    refine wpAny_bind (wpAny_newTuple ?_)
    have sz3 : h3.objs.size = hp.objs.size := by rw [sb3.1, sb2.1]
    have he4 : IsEnum (h3.push { cls := .type "tuple", data := .seq #[.int i tk, v] }) e a ((i : Int) + 1) old := Heap.get?_push_of_some _ he3
    have tup4 : (h3.push { cls := .type "tuple", data := .seq #[.int i tk, v] }).get? hp.objs.size = some { cls := .type "tuple", data := .seq #[.int i tk, v] } := by rw [← sz3]; exact Heap.get?_push_size _ rfl
    have size4 : (h3.push { cls := .type "tuple", data := .seq #[.int i tk, v] }).objs.size = hp.objs.size + 1 := by rw [Heap.size_push, sz3]
    have keep4 : ∀ b o, b ≠ e → hp.get? b = some o → (h3.push { cls := .type "tuple", data := .seq #[.int i tk, v] }).get? b = some o := fun b o nb z => Heap.get?_push_of_some _ ((sb3.2 b nb).trans ((sb2.2 b nb).trans z))
    show wpAny _ _ (Builtin.SmallTypes.ownedTupleIsFree (.ref e) >>= _) _ _ ⟨h3.push { cls := .type "tuple", data := .seq #[.int i tk, v] }, gens', d, tk + 1, os⟩
    rw [sz3]
    generalize h3.push { cls := .type "tuple", data := .seq #[.int i tk, v] } = h4 at he4 tup4 size4 keep4
    refine wpAny_bind ?_
    unfold Builtin.SmallTypes.ownedTupleIsFree
    refine wpAny_bind (wpAny_field he4 rfl (x := .none) rfl (wpAny_pure ?_))
    simp only [if_true]
    refine wpAny_bind (wpAny_rule (wpAny_bind (wpAny_field he4 rfl (x := old) rfl (wpAny_bind (wpAny_setField_rec he4 (by simp) fun h5 he5 sb5 => ?_)))))
    have sb5 : Heap.SameBut e h4 h5 := sb5
    have he5 : IsEnum h5 e a ((i : Int) + 1) v := he5
    show wpAny _ _ (Builtin.SmallTypes.ownedTupleHandOut (.ref e) (.ref hp.objs.size) >>= _) _ _ ⟨h5, gens', d, tk + 1, os⟩
    refine wpAny_bind ?_
    unfold Builtin.SmallTypes.ownedTupleHandOut
    refine wpAny_bind (wpAny_setField_rec he5 (by simp) fun h6 he6 sb6 => ?_)
    have sb6 : Heap.SameBut e h5 h6 := sb6
    have he6 : IsEnumOut h6 e a ((i : Int) + 1) v hp.objs.size := he6
    refine wpAny_setField_rec he6 (by simp) fun h7 he7 sb7 => ?_
    have sb7 : Heap.SameBut e h6 h7 := sb7
    have ne : hp.objs.size ≠ e := Nat.ne_of_gt hel
    refine wpAny_bind (wpAny_letGo (wpAny_pure ⟨_, rfl, wpAny_pure ?_⟩))
    have q := fin h7 (tk + 1) he7 ((sb7.2 _ ne).trans ((sb6.2 _ ne).trans ((sb5.2 _ ne).trans tup4))) (by rw [sb7.1, sb6.1, sb5.1, size4]) fun b o nb z => (sb7.2 b nb).trans ((sb6.2 b nb).trans ((sb5.2 b nb).trans (keep4 b o nb z)))
    rw [eS] at q
    exact q
  · refine wpAny_bind (wpAny_isInstance (T := "StopIteration") (b := true) ⟨o, ho, hc⟩ isSubtype_stop ?_)
    exact wpAny_pure (hP s₁ hf h' k1)
end
end Gk
/-! for (i, x) in enumerate(f(..)): .., the generator going on turn by turn. -/
namespace Gk
open PySem PySem.Spec PyProof.Rows L2 GenW
section
variable {X : Cx} {k : Nat} {f : Addr} {fd : FuncData} {ps : List Str} {sp : SpY} {x : Str} {p pos fpos p2 epos tpos : Pos} {e : Expr} {es elts : List Expr} {kk0 : Nat} {t : TA} {g : TG} {tb : TS} {body : List Stmt}
/-- the index stands at the head of what the caller keeps -/
def tForYE (sp : SpY) (t : TA) (g : TG) (tb : TS) : TS := fun D σ H => t σ H fun vs H1 => ∃ n, sp vs H1 n (some (.int 0) :: σ) (fun γ H2 => D.nx γ.tail H2)
  (fun γ v H2 k => ∃ i : Nat, γ.head? = some (some (.int (i : Int))) ∧ ∀ T, H2 T = none → g (.ref T) γ.tail (upd H2 T (.tup [.int (i : Int), v])) fun σ3 H3 => tb { D with nx := fun σ4 H4 => k (some (.int ((i : Int) + 1)) :: σ4) H4, ct := fun σ4 H4 => k (some (.int ((i : Int) + 1)) :: σ4) H4, bk := D.nx } σ3 H3)
theorem ps_forYE (F : GenYd X.prog X.w X.K X.mg X.base k f fd ps sp) (hr : Room (k + 4) X.A) (hx : Gl X x) (hm : X.mg x = some (.ref f)) (hk : PySem.W.keepIn X.K (.ref f) = true) (hbn : Binds X.K fd ps []) (hge : Gl X "enumerate") (hme : X.mg "enumerate" = none)
    (ha : PA X (e :: es) t) (hp : PassesOwn (model X.prog X.w) X.A X.env X.xe) (hc : X.calm = true) (hg : PGg X (.Tuple elts kk0 tpos) g) (hb : PSsg X body tb)
    (hdb : (x == ("__debug__" : Str)) = false := by decide) (he : starEach (e :: es) X.env = (false, eval e X.env) :: starEach es X.env := by rfl) (hpl : (backTo pos (starEach es X.env)).any (·.1) = false := by rfl)
    (na : starEach [.Call (.Name x p) (e :: es) [] pos] X.env = (false, eval (.Call (.Name x p) (e :: es) [] pos) X.env) :: starEach [] X.env := by rfl)
    (hs : ∀ v, foldedSetIterable (.Call (.Name "enumerate" p2) [.Call (.Name x p) (e :: es) [] pos] [] epos) X.env v = pure v := by intro _; rfl) :
    PS X (.For (.Tuple elts kk0 tpos) (.Call (.Name "enumerate" p2) [.Call (.Name x p) (e :: es) [] pos] [] epos) body [] fpos) (tForYE sp t g tb) := by
  refine ⟨fun pins s σ H D I h => ?_⟩
  refine wpAny_For ?_ hs
  refine Call_ (ld_blt I hge hme boot_enumerate (PyProof.Rows.callWith_type1 (args_cons ?_ na) na))
  refine wpAny_Call_Name_kw (ld_glob I hx hm ?_ hdb)
  refine PySem.W.callWith_K (h₀ := X.base) I.ok.mod.kin hk (thn (ha.run pos pins s σ H _ I h) fun us s1 ⟨vs, H1, I1, r1, n, q1⟩ => ⟨I1.kIn, ?_⟩) he hpl
  have hl : (us ++ []).length = ps.length := by rw [List.append_nil, ← r1.length]; exact F.len _ _ _ _ _ _ q1
  have b := hbn s1 us I1.kIn hl
  rw [List.append_nil] at b
  refine wpAny_call (codeAny_mono (F.run X.A X.stack s1 H1 ⟨us, []⟩ us vs n (some (.int 0) :: σ) _ _ (hr.mono (by omega)) I1.env0 b r1 q1) fun res s2 hq => ?_)
  cases res with
  | error er => exact False.elim hq
  | ok fl =>
    cases fl with
    | brk => exact False.elim hq
    | cont => exact False.elim hq
    | next => exact False.elim hq
    | ret u =>
      obtain ⟨a, gi, c, go, rfl, ha1, hgo, hgc, ⟨nm, qn, hgd⟩, hgs, hfr, hos, hbare, hlim, hkp, wake⟩ := hq
      have isg : ∀ h : Heap, h.get? a = some go → h.IsGen a gi := fun h e => ⟨go, nm, qn, e, hgc, hgd, hgs⟩
      refine args_nil (call_enumerate_gen (isg _ hgo) fun h5 hen hsz hk5 => ?_)
      refine wpAny_pyIter_enum hen ?_
      generalize hS : s2.heap.objs.size = en at hen hsz
      have hea : a < en := by rw [← hS]; exact Heap.lt_size hgo
      have rm : Room k X.A.in1.in1 := ⟨hr.hd, by have := hr.dp; show X.A.depth + 3 * k + 5 < _; omega, by have := hr.un; show X.A.units + 1 + 1 + 16 * k + 200 < _; omega⟩
      have dep : X.A.depth < recursionLimit := by have := hr.dp; omega
      obtain ⟨X', gx, seg⟩ := wake X.A.in1.in1 rm I1.ok.frames
      have hlow : X.env.locals < s1.heap.objs.size := I1.lt
      have hcells : ∀ y c, X.env.cells.lookup y = some c → c < s1.heap.objs.size := fun y c e => by
        obtain ⟨v, z⟩ := I1.cell y c e
        exact z.lt
      have hpins : ∀ q ∈ X.pn ++ pins, q.1 < s1.heap.objs.size := fun q hq => Heap.lt_size (I1.pin q hq).1
      have hfsl : ∀ z ∈ X.fs, z < s1.heap.objs.size := fun z hz => by
        obtain ⟨_, o, ho, _⟩ := I1.ok.funs.mem hz
        exact Nat.lt_of_lt_of_le (Heap.lt_size ho) I1.sz
      have hfs' : X'.fs = frs X.stack := by
        show frs X'.outer = _
        rw [gx.outer]
      have hstk : ∀ z ∈ frs X.stack, z < s1.heap.objs.size := fun z hz => by
        rcases List.mem_cons.mp (I1.stkSub z hz) with q | q
        · rw [q]; exact hlow
        · exact hfsl z q
      have nocell : ∀ v, go.data ≠ .cell v := fun v z => by rw [hgd] at z; cases z
      have na1 : H1 a = none := I1.hok.fresh (Nat.le_of_lt ha1)
      have nen : s1.heap.objs.size ≤ en := Nat.le_of_lt (Nat.lt_trans ha1 hea)
      have ne1 : H1 en = none := I1.hok.fresh nen
      have hgo5 : h5.get? a = some go := hk5 _ _ hgo
      have I2 : Inv X pins σ H1 { s2 with heap := h5 } := I1.call' (ch := []) hos (Un.kept fun b o z => hk5 _ _ (hkp b o z)) (I1.hok.kept fun b o z => hk5 _ _ (hkp b o z)) hbare fun b z => by cases z
      have eno : ∀ {h : Heap} {i : Int} {old : Value}, IsEnum h en a i old → ∃ eo, h.get? en = some eo ∧ ∀ v, eo.data ≠ .cell v := fun z => ⟨_, z, fun v y => by cases y⟩
      have peOk : ∀ {H' : Hp} {s' : Shared} {eo : Obj}, s'.heap.get? a = some go → H' a = none → s'.heap.get? en = some eo → (∀ v, eo.data ≠ .cell v) → H' en = none → PeOk X' [a, en] [(a, go), (en, eo)] H' s' := fun {H' s' eo} e n e2 d2 n2 => ⟨rfl, fun q hq => by
        rcases List.mem_cons.mp hq with rfl | hq
        · refine ⟨e, n, ?_, ?_, nocell⟩
          · rw [gx.loc]
            exact Nat.ne_of_gt ha1
          · rw [hfs']
            exact fun z => absurd (hstk a z) (Nat.not_lt.mpr (Nat.le_of_lt ha1))
        · rw [List.mem_singleton.mp hq]
          refine ⟨e2, n2, ?_, ?_, d2⟩
          · rw [gx.loc]
            exact Nat.ne_of_gt (Nat.lt_trans ha1 hea)
          · rw [hfs']
            exact fun z => absurd (hstk en z) (Nat.not_lt.mpr nen)⟩
      refine codeAny_forLoop_any (fun m s' => ∃ (i : Nat) (γ : L2.St) (H' : Hp) (gs : GenState) (old : Value), Inv X pins γ H' s' ∧ s'.heap.get? a = some go ∧ H' a = none ∧ IsEnum s'.heap en a (i : Int) old ∧ H' en = none ∧ s'.gens[gi]? = some gs ∧
        gs.Goes (model X.prog X.w) X.A.in1.in1 (YRE X' (fun γ H s pe => ∃ (i : Nat) (γ' : L2.St) (old : Value) (eo : Obj), γ = some (.int (i : Int)) :: γ' ∧ Inv X pins γ' H s ∧ IsEnum s.heap en a (i : Int) old ∧ s.heap.get? en = some eo ∧ pe = [(a, go), (en, eo)]) (fun γ H2 => D.nx γ.tail H2))
          (YP X' (fun γ H s pe => ∃ (i : Nat) (γ' : L2.St) (old : Value) (eo : Obj), γ = some (.int (i : Int)) :: γ' ∧ Inv X pins γ' H s ∧ IsEnum s.heap en a (i : Int) old ∧ s.heap.get? en = some eo ∧ pe = [(a, go), (en, eo)]) [a, en]
            (fun γ v H2 k => ∃ i : Nat, γ.head? = some (some (.int (i : Int))) ∧ ∀ T, H2 T = none → g (.ref T) γ.tail (upd H2 T (.tup [.int (i : Int), v])) fun σ3 H3 => tb { D with nx := fun σ4 H4 => k (some (.int ((i : Int) + 1)) :: σ4) H4, ct := fun σ4 H4 => k (some (.int ((i : Int) + 1)) :: σ4) H4, bk := D.nx } σ3 H3)) m (.send .none) (s'.setGen gi .running)) ?_ n ?_
      · rintro m s3 ⟨i, γ, H3, gs, old, I3, hgo3, na3, hen3, nen3, hg3, goes⟩
        have hgl : gi < s3.gens.size := (Array.getElem?_eq_some_iff.mp hg3).1
        refine wpAny_passesOwn hp (wpAny_gsz (n := gi + 1) hgl (next_enumG (F := fun _ s₀ s₁ => ∃ γ H₀ pe H, (∃ (i : Nat) (γ' : L2.St) (old : Value) (eo : Obj), γ = some (.int (i : Int)) :: γ' ∧ Inv X pins γ' H₀ s₀ ∧ IsEnum s₀.heap en a (i : Int) old ∧ s₀.heap.get? en = some eo ∧ pe = [(a, go), (en, eo)]) ∧ Went X' pe H₀ s₀ H s₁ ∧ D.nx γ.tail H)
          (I3.ok.hd hc) hen3 I3.nolimit dep (isg _ hgo3) hg3 goes (fun v s₁ gs' hbg hv => ?_) (fun s₁ hf h' hk' => ?_)))
        · obtain ⟨γ1, H₀, H4, pe, hl, y, kk, ⟨i1, γ', old1, eo, eγ, J0, hen0, heo0, epe⟩, rv, W, hhl, ⟨i2, hi2, q⟩, kap⟩ := hv
          subst epe eγ
          have hen0 : IsEnum s3.heap en a (i1 : Int) old1 := hen0
          have heo0 : s3.heap.get? en = some eo := heo0
          have e1 : (i1 : Int) = (i : Int) := by
            have z := Option.some.inj (hen0.symm.trans hen3)
            simp [rawInt] at z
            omega
          have e2 : (i2 : Int) = (i1 : Int) := by
            have z := Option.some.inj (Option.some.inj hi2)
            injection z with z
            exact z.symm
          have e3 : i2 = i := by omega
          subst e3
          obtain ⟨hgo4, na4⟩ := W.pe (a, go) List.mem_cons_self
          obtain ⟨hen4, nen4⟩ := W.pe (en, eo) (List.mem_cons_of_mem _ List.mem_cons_self)
          have hen₁ : IsEnum s₁.heap en a (i2 : Int) old := by
            rw [show eo = _ from Option.some.inj (heo0.symm.trans hen3)] at hen4
            exact hen4
          have J : Inv X pins γ' H4 (s₁.setGen gi gs') := turn_back J0 gx hlow hcells hpins W rfl rfl (allBare_setGen W.bare hbg)
          refine ⟨hen₁, fun h6 tk6 hout htup hsz6 hk6 hszg => ?_⟩
          have hgi : gi < s₁.gens.size := by
            have q : (s₁.setGen gi gs').gens.size = s₁.gens.size := setGen_size _ _ _
            have : gi + 1 ≤ (s₁.setGen gi gs').gens.size := hszg
            omega
          refine wpAny_letOwnedTupleGo_enum (s := { s₁.setGen gi gs' with heap := h6, toks := tk6 }) hout fun h7 hen7 sb7 => ?_
          have neT : s₁.heap.objs.size ≠ en := Nat.ne_of_gt (Heap.lt_size hen4)
          have htup7 : h7.get? s₁.heap.objs.size = some { cls := .type "tuple", data := .seq #[.int (i2 : Int) s₁.toks, v] } := (sb7.2 _ neT).trans htup
          have k17 : ∀ b o, b ∉ [en] → s₁.heap.get? b = some o → h7.get? b = some o := fun b o nb z => by
            have nb : b ≠ en := fun w => nb (by rw [w]; exact List.mem_singleton.mpr rfl)
            exact (sb7.2 b nb).trans (hk6 b o nb z)
          have big : ∀ {z : Addr}, s1.heap.objs.size ≤ z → z ≠ X.env.locals ∧ z ∉ X.fs := fun {z} hz => ⟨fun w => absurd hlow (Nat.not_lt.mpr (by rw [← w]; exact hz)), fun w => absurd (hfsl _ w) (Nat.not_lt.mpr hz)⟩
          have fen : FpOk X pins H4 en := by
            refine ⟨nen4, (big nen).1, (big nen).2, .inr (Nat.le_trans I1.sz nen), fun y c0 e0 w0 => ?_, fun q0 hq0 w0 => ?_⟩
            · have := hcells y c0 e0
              rw [w0] at this
              exact absurd this (Nat.not_lt.mpr nen)
            · have := hpins q0 hq0
              rw [w0] at this
              exact absurd this (Nat.not_lt.mpr nen)
          have nT : H4 s₁.heap.objs.size = none := J.hok.fresh (Nat.le_refl _)
          have J5 : Inv X pins γ' (upd H4 s₁.heap.objs.size (.tup [.int (i2 : Int), y])) { s₁.setGen gi gs' with heap := h7, toks := tk6 } :=
            Inv.turnedNew (t' := tk6) (T := s₁.heap.objs.size) (ob := .tup [.int (i2 : Int), y]) (ch := [en]) J k17 (fun b hb => by rw [List.mem_singleton.mp hb]; exact fen) (Nat.le_refl _)
              ⟨by show 2 ≤ sizeLine; decide, [.int (i2 : Int) s₁.toks, v], .cons ⟨_, rfl⟩ (.cons rv .nil), ⟨_, htup7, rfl, _, rfl⟩⟩
          have qT := q s₁.heap.objs.size nT
          have hgo7 : h7.get? a = some go := k17 _ _ (fun z => Nat.ne_of_lt hea (List.mem_singleton.mp z)) hgo4
          have upT : ∀ {b : Addr} {ob : Obj}, s₁.heap.get? b = some ob → H4 b = none → (upd H4 s₁.heap.objs.size (.tup [.int (i2 : Int), y])) b = none := fun {b ob} z n => by
            rw [upd_ne (Nat.ne_of_lt (Heap.lt_size z))]
            exact n
          obtain ⟨eo7, heo7, hed7⟩ := eno hen7
          have enIs : ∀ {h : Heap}, h.get? en = some eo7 → IsEnum h en a ((i2 : Int) + 1) v := fun {h} z => z.trans (heo7.symm.trans hen7)
          have pinsOk : ∀ q ∈ pins ++ ((a, go) :: (en, eo7) :: hl), h7.get? q.1 = some q.2 ∧ (upd H4 s₁.heap.objs.size (.tup [.int (i2 : Int), y])) q.1 = none ∧ q.1 ≠ X.env.locals ∧ q.1 ∉ X.fs ∧ ∀ v, q.2.data ≠ .cell v := fun q hq => by
            rcases List.mem_append.mp hq with hq | hq
            · exact J5.pin q (List.mem_append_right _ hq)
            · rcases List.mem_cons.mp hq with rfl | hq
              · exact ⟨hgo7, upT hgo4 na4, (big (Nat.le_of_lt ha1)).1, (big (Nat.le_of_lt ha1)).2, nocell⟩
              · rcases List.mem_cons.mp hq with rfl | hq
                · exact ⟨heo7, upT hen4 nen4, (big nen).1, (big nen).2, hed7⟩
                · obtain ⟨h1, h2, h3, hA, h4⟩ := hhl q hq
                  rw [gx.loc] at h3
                  exact ⟨k17 _ _ (fun z => hA (by rw [List.mem_singleton.mp z]; exact List.mem_cons_of_mem _ List.mem_cons_self)) h1, upT h1 h2, (big h3).1, (big h3).2, h4⟩
          have J' : Inv X (pins ++ ((a, go) :: (en, eo7) :: hl)) γ' (upd H4 s₁.heap.objs.size (.tup [.int (i2 : Int), y])) { s₁.setGen gi gs' with heap := h7, toks := tk6 } := J5.pins_of pinsOk
          refine wpAny_passesOwn hp (thn (hg.run _ _ γ' _ (.ref s₁.heap.objs.size) (.ref s₁.heap.objs.size) _ J' rfl qT) fun _ s6 ⟨⟨σ6, H6, I6, q6⟩, g6⟩ => ?_)
          refine wpAny_passesOwn hp (thn (hb.run _ s6 σ6 H6 _ I6 q6) fun f s7 ⟨q7, g7⟩ => ?_)
          have eg : s7.gens[gi]? = some gs' := by
            rw [g7, g6]
            exact setGen_at hgi
          have unp : ∀ {σ' : L2.St} {H' : Hp}, Inv X (pins ++ ((a, go) :: (en, eo7) :: hl)) σ' H' s7 → Inv X pins σ' H' s7 := fun {σ' H'} K7 => K7.pins_of fun q hq => K7.pin q (List.mem_append_right _ (List.mem_append_left _ hq))
          have again : ∀ {σ' : L2.St} {H' : Hp}, Inv X (pins ++ ((a, go) :: (en, eo7) :: hl)) σ' H' s7 → kk (some (.int ((i2 : Int) + 1)) :: σ') H' → ∃ m', m' < m ∧ ∃ (i : Nat) (γ : L2.St) (H' : Hp) (gs : GenState) (old : Value), Inv X pins γ H' s7 ∧ s7.heap.get? a = some go ∧ H' a = none ∧ IsEnum s7.heap en a (i : Int) old ∧ H' en = none ∧ s7.gens[gi]? = some gs ∧
              gs.Goes (model X.prog X.w) X.A.in1.in1 (YRE X' (fun γ H s pe => ∃ (i : Nat) (γ' : L2.St) (old : Value) (eo : Obj), γ = some (.int (i : Int)) :: γ' ∧ Inv X pins γ' H s ∧ IsEnum s.heap en a (i : Int) old ∧ s.heap.get? en = some eo ∧ pe = [(a, go), (en, eo)]) (fun γ H2 => D.nx γ.tail H2))
                  (YP X' (fun γ H s pe => ∃ (i : Nat) (γ' : L2.St) (old : Value) (eo : Obj), γ = some (.int (i : Int)) :: γ' ∧ Inv X pins γ' H s ∧ IsEnum s.heap en a (i : Int) old ∧ s.heap.get? en = some eo ∧ pe = [(a, go), (en, eo)]) [a, en]
                    (fun γ v H2 k => ∃ i : Nat, γ.head? = some (some (.int (i : Int))) ∧ ∀ T, H2 T = none → g (.ref T) γ.tail (upd H2 T (.tup [.int (i : Int), v])) fun σ3 H3 => tb { D with nx := fun σ4 H4 => k (some (.int ((i : Int) + 1)) :: σ4) H4, ct := fun σ4 H4 => k (some (.int ((i : Int) + 1)) :: σ4) H4, bk := D.nx } σ3 H3)) m' (.send .none) (s7.setGen gi .running) := fun {σ' H'} K7 hkk => by
            obtain ⟨b1, b2, _⟩ := K7.pin (a, go) (List.mem_append_right _ (List.mem_append_right _ List.mem_cons_self))
            obtain ⟨d1, d2, _⟩ := K7.pin (en, eo7) (List.mem_append_right _ (List.mem_append_right _ (List.mem_cons_of_mem _ List.mem_cons_self)))
            have K8 : Inv X pins σ' H' (s7.setGen gi .running) := inv_gens (unp K7) rfl rfl (allBare_setGen K7.bare rfl)
            have z := kap (some (.int ((i2 : Int) + 1)) :: σ') H' (s7.setGen gi .running) [(a, go), (en, eo7)] hkk ⟨i2 + 1, σ', v, eo7, rfl, K8, enIs d1, d1, rfl⟩ (on_of K8 gx) (peOk b1 b2 d1 hed7 d2) fun q hq => by
              obtain ⟨c1, c2, _⟩ := K7.pin q (List.mem_append_right _ (List.mem_append_right _ (List.mem_cons_of_mem _ (List.mem_cons_of_mem _ hq))))
              exact ⟨c1, c2⟩
            cases m with
            | zero => exact z.elim
            | succ m => exact ⟨m, Nat.lt_succ_self m, i2 + 1, σ', H', gs', v, unp K7, b1, b2, enIs d1, d2, eg, z⟩
          cases f with
          | next => obtain ⟨σ', H', K7, z⟩ := q7; exact again K7 z
          | cont => obtain ⟨σ', H', K7, z⟩ := q7; exact again K7 z
          | brk => obtain ⟨σ', H', K7, z⟩ := q7; exact ⟨σ', H', unp K7, z⟩
          | ret v => obtain ⟨v', σ', H', K7, rv', z⟩ := q7; exact ⟨v', σ', H', unp K7, rv', z⟩
        · intro _
          obtain ⟨γ1, H₀, pe, H4, ⟨i1, γ', old1, eo, eγ, J0, hen0, heo0, epe⟩, W, q⟩ := hf
          subst eγ
          have J1 : Inv X pins γ' H4 (s₁.setGen gi .finished) := turn_back J0 gx hlow hcells hpins W rfl rfl (allBare_setGen W.bare rfl)
          have J : Inv X pins γ' H4 { s₁.setGen gi .finished with heap := h' } := J1.kept (t' := s₁.toks) hk'
          exact wpAny_execs_nil ⟨γ', H4, J, q⟩
      · obtain ⟨eo, heo, hed⟩ := eno hen
        have I3 : Inv X pins σ H1 (Shared.setGen { s2 with heap := h5 } gi .running) := inv_gens I2 rfl rfl (allBare_setGen hbare rfl)
        exact ⟨0, σ, H1, _, .none, I2, hgo5, na1, hen, ne1, hfr, rfl, seg _ [a, en] (Shared.setGen { s2 with heap := h5 } gi .running) [(a, go), (en, eo)] (fun b o z => hk5 b o z) ⟨0, σ, .none, eo, rfl, I3, hen, heo, rfl⟩ (on_of I3 gx) (peOk hgo5 na1 heo hed ne1)⟩
theorem ps_forYED (D : Dgy X.prog X.w X.K X.mg X.base k x ps sp) (hr : Room (k + 4) X.A) (hx : Gl X x) (hge : Gl X "enumerate") (hme : X.mg "enumerate" = none)
    (ha : PA X (e :: es) t) (hp : PassesOwn (model X.prog X.w) X.A X.env X.xe) (hc : X.calm = true) (hg : PGg X (.Tuple elts kk0 tpos) g) (hb : PSsg X body tb)
    (hdb : (x == ("__debug__" : Str)) = false := by decide) (he : starEach (e :: es) X.env = (false, eval e X.env) :: starEach es X.env := by rfl) (hpl : (backTo pos (starEach es X.env)).any (·.1) = false := by rfl)
    (na : starEach [.Call (.Name x p) (e :: es) [] pos] X.env = (false, eval (.Call (.Name x p) (e :: es) [] pos) X.env) :: starEach [] X.env := by rfl)
    (hs : ∀ v, foldedSetIterable (.Call (.Name "enumerate" p2) [.Call (.Name x p) (e :: es) [] pos] [] epos) X.env v = pure v := by intro _; rfl) :
    PS X (.For (.Tuple elts kk0 tpos) (.Call (.Name "enumerate" p2) [.Call (.Name x p) (e :: es) [] pos] [] epos) body [] fpos) (tForYE sp t g tb) := by
  obtain ⟨f, fd, F, hm, hk, hbn⟩ := D.ex
  exact ps_forYE F hr hx hm hk hbn hge hme ha hp hc hg hb hdb he hpl na hs
end
end Gk
/-! Dicts whose keys are cells: whole numbers, texts, or tuples of those. -/
namespace Gk
open PySem PySem.Spec PyProof.Rows L2
/-- two rules of one expression -/
theorem pe_either {X : Cx} {e : Expr} {t t' : TE} (a : PE X e t) (b : PE X e t') : PE X e (fun σ H Q => t σ H Q ∨ t' σ H Q) :=
  ⟨fun pins s σ H Q I h => h.elim (a.run pins s σ H Q I) (b.run pins s σ H Q I)⟩
/-- two rules of one function -/
theorem CallR.either {X : Cx} {v : Value} {r r' : List V → Hp → VK → Prop} (a : CallR X v r) (b : CallR X v r') : CallR X v (fun xs H Q => r xs H Q ∨ r' xs H Q) := by
  intro pins s σ H xs us Q I rs h
  rcases h with h | h
  · exact a pins s σ H xs us Q I rs h
  · exact b pins s σ H xs us Q I rs h
/-- two rules of one method -/
theorem MtR.either {X : Cx} {id : String} {r r' : V → List V → Hp → VK → Prop} (a : MtR X id r) (b : MtR X id r') : MtR X id (fun x xs H Q => r x xs H Q ∨ r' x xs H Q) := by
  intro pins s σ H x xs v us Q I rx rxs h
  rcases h with h | h
  · exact a pins s σ H x xs v us Q I rx rxs h
  · exact b pins s σ H x xs v us Q I rx rxs h
def rSetdK : V → List V → Hp → VK → Prop := fun x xs H Q => ∃ (a : Addr) (kvs : List (L2.Key × V)) (k : L2.Key) (d : V), x = .ref a ∧ xs = [kV k, d] ∧ H a = some (.dK kvs) ∧ kvs.length < sizeLine ∧
  (∀ v, valV kvs k = some v → Q v H) ∧ (valV kvs k = none → Q d (upd H a (.dK (putK kvs k d))))
theorem mt_setdK {X : Cx} : MtR X "dict.setdefault" rSetdK := by
  intro pins s σ H x xs v us Q I rx rxs h
  obtain ⟨a, kvs, k, d, rfl, rfl, ha, hl, q1, q2⟩ := h
  cases rx
  obtain ⟨u1, u2, rfl, r1, r2⟩ := vals2 rxs
  exact d_setd I ha r1 r2 hl (fun v hv w' s4 I4 rw' => ⟨v, _, I4, rw', q1 v hv⟩) fun hn w' s4 I4 rw' => ⟨d, _, I4, rw', q2 hn⟩
def rSetdT : V → List V → Hp → VK → Prop := fun x xs H Q => ∃ (a : Addr) (kvs : List (List L2.Key × V)) (k : List L2.Key) (b : Addr) (d : V), x = .ref a ∧ xs = [.ref b, d] ∧ H a = some (.dT kvs) ∧ H b = some (.tup (k.map kV)) ∧ kvs.length < sizeLine ∧
  (∀ v, valV kvs k = some v → Q v H) ∧ (valV kvs k = none → Q d (upd H a (.dT (putK kvs k d))))
theorem mt_setdT {X : Cx} (hu : X.A.units + 1 < cLine) : MtR X "dict.setdefault" rSetdT := by
  intro pins s σ H x xs v us Q I rx rxs h
  obtain ⟨a, kvs, k, b, d, rfl, rfl, ha, hb, hl, q1, q2⟩ := h
  cases rx
  obtain ⟨u1, u2, rfl, r1, r2⟩ := vals2 rxs
  cases r1
  obtain ⟨z, hd, ys, rel, dd⟩ := dt_of I.hok ha
  have val := rel.val k
  refine call_setdefault_heap (knd := tupleKind (mixKind X.prog X.w)) (k := k) (tupleKind_room_in1 hu) (key_of I.hok hb) hd dd (fun p hp => ?_) (fun hn h' dd' hs => ?_) (by rw [← Paired.length rel]; exact z)
  · rw [hp] at val
    obtain ⟨w0, ev, rv⟩ : ∃ w0, valV kvs k = some w0 ∧ RelV w0 p.2 := by
      rcases ev : valV kvs k with _ | w0
      · rw [ev] at val
        exact False.elim val
      · rw [ev] at val
        exact ⟨w0, rfl, val⟩
    exact ⟨w0, H, I.tok _, rv, q1 w0 ev⟩
  · rw [hn] at val
    have ev : valV kvs k = none := by
      rcases ev : valV kvs k with _ | w0
      · rfl
      · rw [ev] at val
        exact False.elim val
    have n2 : (putK kvs k d).length ≤ sizeLine := by
      have := length_putK kvs k d
      omega
    obtain ⟨o, es, ep, e1, e2⟩ := dd'
    have keep : ∀ c ts, H c = some (.tup ts) → (upd H a (.dT (putK kvs k d))) c = some (.tup ts) := fun c ts e => by
      rw [upd_ne (fun w => by rw [w, ha] at e; cases e)]
      exact e
    have new : ObjOk X.prog X.w (upd H a (.dT (putK kvs k d))) h' a (.dT (putK kvs k d)) := ⟨n2, hd, _, (rel.put k hb r2).keeps keep, o, es, ep, e1, e2.1, e2.2.1, e2.2.2.1, e2.2.2.2.2⟩
    exact ⟨d, _, d_write I (by rw [ha]; exact True.intro) hs ⟨o, e1⟩ new, r2, q2 ev⟩
end Gk
/-! Dicts whose keys are None or whole numbers. -/
namespace Gk
open PySem PySem.Spec PyProof.Rows L2
def ownIs : Option Int → Value → Bool
  | none, v => v == .none
  | some i, v => keyIs (.inl i) v
def oKey : Option Int → V
  | none => .non
  | some i => .int i
def ownH (w : World) : Option Int → Int
  | none => reduceHash 0xFCA86420
  | some i => hashInt i
theorem ownIs_shape : ∀ {k : Option Int} {v : Value}, ownIs k v = true → (k = none ∧ v = .none) ∨ ∃ i t, k = some i ∧ v = Value.int i t
  | none, v, h => .inl ⟨rfl, by cases v <;> first | rfl | exact absurd h Bool.false_ne_true⟩
  | some i, v, h => by
    rcases keyIs_shape (k := .inl i) h with ⟨j, t, e, rfl⟩ | ⟨x, t, e, _⟩
    · obtain rfl := Sum.inl.inj e
      exact .inr ⟨i, t, rfl, rfl⟩
    · cases e
theorem hash_none {prog : Program} {w : World} {A : Around} {E : Value → Shared → Prop} {s : Shared} {Q : Int → Shared → Prop} (h : Q (reduceHash 0xFCA86420) { s with toks := s.toks + 1 }) : wpAny (model prog w) A (PySem.pyHash .none) Q E s :=
  PySem.W.pyHash_slot (T := "NoneType") rfl PySem.F.slot_NoneType_hash PySem.F.entry_NoneType_hash (PySem.F.args_NoneType_hash_1 _) (by rfl) (.inl rfl) (wpAny_bind (wpAny_pure (wpAny_bind (wpAny_mkInt (wpAny_pure ⟨_, _, rfl, h⟩)))))
def ownKind (prog : Program) (w : World) : PySem.KeyKind prog w (Option Int) where
  is := ownIs
  hash := ownH w
  inj := fun v a b ha hb => by
    rcases ownIs_shape ha with ⟨rfl, rfl⟩ | ⟨i, t, rfl, rfl⟩
    · rcases ownIs_shape hb with ⟨rfl, _⟩ | ⟨i, t, rfl, e⟩
      · rfl
      · cases e
    · rcases ownIs_shape hb with ⟨rfl, e⟩ | ⟨j, u, rfl, e⟩
      · cases e
      · injection e with e1 _
        rw [e1]
  byValue := fun k v h => by
    rcases ownIs_shape h with ⟨rfl, rfl⟩ | ⟨i, t, rfl, rfl⟩ <;> rfl
  pyHash := fun hv h => by
    rcases ownIs_shape hv with ⟨rfl, rfl⟩ | ⟨i, t, rfl, rfl⟩
    · exact hash_none h
    · exact wpAny_pyHash_int h
  eqBool := fun hu hv h => by
    rcases ownIs_shape hu with ⟨rfl, rfl⟩ | ⟨i, t, rfl, rfl⟩
    · rcases ownIs_shape hv with ⟨rfl, rfl⟩ | ⟨j, u, rfl, rfl⟩
      · exact SeqAt.EqAt.same _ _ _ _ _ (by simpa using h)
      · exact SeqAt.EqAt.none_int j u _ _ _ _ (by simpa using h)
    · rcases ownIs_shape hv with ⟨rfl, rfl⟩ | ⟨j, u, rfl, rfl⟩
      · exact SeqAt.EqAt.int_none i t _ _ _ _ (by simpa using h)
      · refine wpAny_eqBool_int ?_
        have e : (i == j) = decide (some i = some j) := by
          rw [Bool.eq_iff_iff]
          simp
        rw [e]
        exact h
  «strs» := fun k x t v h => by
    rcases ownIs_shape h with ⟨rfl, e⟩ | ⟨i, u, rfl, e⟩ <;> cases e
end Gk
namespace Gk
open PySem PySem.Spec PyProof.Rows L2
/-- a dict whose keys are None or whole numbers -/
def dN (P : Program) (w : World) (a : Addr) (kvs : List (Option Int × V)) : HO := .ext fun h => kvs.length ≤ sizeLine ∧ (a == sysModules) = false ∧ ∃ vs, KV kvs vs ∧ h.DictOf (ownKind P w) a vs
section
variable {P : Program} {w : World} {H : Hp} {h : Heap} {a : Addr} {kvs : List (Option Int × V)}
theorem dn_ok {vs : List (Option Int × Value)} (z : kvs.length ≤ sizeLine) (hd : (a == sysModules) = false) (rel : KV kvs vs) (dd : h.DictOf (ownKind P w) a vs) : ObjOk P w H h a (dN P w a kvs) := by
  refine ⟨⟨z, hd, vs, rel, dd⟩, ?_, ?_⟩
  · obtain ⟨o, _, _, e, _⟩ := dd
    exact ⟨o, e⟩
  · rintro h1 h2 ⟨z1, hd1, vs1, rel1, o, es, ep, e, r⟩ k
    exact ⟨z1, hd1, vs1, rel1, o, es, ep, k _ e, r⟩
theorem dn_at (ok : HOk P w H h) (e : H a = some (dN P w a kvs)) : kvs.length ≤ sizeLine ∧ (a == sysModules) = false ∧ ∃ vs, KV kvs vs ∧ h.DictOf (ownKind P w) a vs := by
  obtain ⟨x, _, _⟩ := (show ObjOk P w H h a (dN P w a kvs) from ok a _ e)
  exact x
theorem oKey_is {k : Option Int} {u : Value} (r : RelV (oKey k) u) : (ownKind P w).is k u = true := by
  cases k with
  | none => cases r; rfl
  | some i => obtain ⟨t, rfl⟩ := r; exact keyIs_int i t
end
section
variable {X : Cx} {pins : List (Addr × Obj)} {σ : L2.St} {H : Hp} {s : Shared} {a : Addr} {kvs : List (Option Int × V)} {k : Option Int} {d y v : V} {u r : Value} {A : Around} {E : Value → Shared → Prop}
theorem n_get2 {Q : Value → Shared → Prop} (I : Inv X pins σ H s) (e : H a = some (dN X.prog X.w a kvs)) (ry : RelV (oKey k) u) (rd : RelV d r) (h : ∀ w' s', Inv X pins σ H s' → RelV ((valV kvs k).getD d) w' → Q w' s') :
    wpAny (model X.prog X.w) A (call (.builtin "dict.get") [.ref a, u, r]) Q E s := by
  obtain ⟨z, hd, vs, rel, dd⟩ := dn_at I.hok e
  exact call_meetsIn PySem.F.slot_dict_get dd.typeIs PySem.F.entry_dict_get (PySem.F.args_dict_get_3 _ _ _) (meets_dict_get_default (ownKind X.prog X.w) a (oKey_is ry) hd r) ⟨_, dd.mapOf, h _ _ (I.tok _) ((rel.val k).getD rd)⟩
theorem n_set {Q : Unit → Shared → Prop} (I : Inv X pins σ H s) (e : H a = some (dN X.prog X.w a kvs)) (hl : kvs.length < sizeLine) (ry : RelV (oKey k) u) (rv : RelV v r) (h : ∀ s', Inv X pins σ (upd H a (dN X.prog X.w a (putK kvs k v))) s' → Q () s') :
    wpAny (model X.prog X.w) A (setItem (.ref a) u r) Q E s := by
  obtain ⟨z, hd, vs, rel, dd⟩ := dn_at I.hok e
  have hz : vs.length ≤ sizeLine := by rw [← rel.length]; exact z
  have hl : (putK kvs k v).length ≤ sizeLine := by have := length_putK kvs k v; omega
  refine wpAny_setItem_pairs (hsz := hz) (oKey_is ry) dd fun h' dd' hs => h _ ?_
  have he : ∃ q, h'.get? a = some q := let ⟨q, _, _, hq, _⟩ := dd'; ⟨q, hq⟩
  exact d_write I (by rw [e]; exact True.intro) hs he (dn_ok hl hd (rel.put k rv) dd')
end
section
variable {X : Cx} {o e f : Expr} {apos cpos pos : Pos} {td ty tx : TE}
/-- d.get(y, x) -/
def tNGet (P : Program) (w : World) (td ty tx : TE) : TE := fun σ H Q => td σ H fun x H1 => ∃ a, x = .ref a ∧ (∃ kvs, H1 a = some (dN P w a kvs)) ∧ ty σ H1 fun y H2 => tx σ H2 fun z H3 => ∃ kvs k, H3 a = some (dN P w a kvs) ∧ y = oKey k ∧ Q ((valV kvs k).getD z) H3
theorem pe_nget (ho : PE X o td) (he : PE X e ty) (hf : PE X f tx) (m : M2 X o "get" apos e f cpos) : PE X (.Call (.Attribute o "get" apos) [e, f] [] cpos) (tNGet X.prog X.w td ty tx) := by
  refine ⟨fun pins s σ H Q I h => ?_⟩
  refine wpAny_Call_method m.base m.few m.line PySem.F.plainAttrs_dict PySem.F.slot_dict_get PySem.F.type_dict_get (thn (ho.run pins s σ H _ I h) fun u s1 ⟨x, H1, I1, rx, a, ex, ⟨kv1, d1⟩, q1⟩ => ?_)
  subst ex
  obtain rfl : u = Value.ref a := rx
  obtain ⟨z, hd, vs, rel, dd⟩ := dn_at I1.hok d1
  refine ⟨dd.typeIs, fun b q => ?_, ?_⟩
  · cases q
    obtain ⟨ob, _, _, h1, h2, _⟩ := dd
    exact ⟨ob, h1, h2.2.1⟩
  rw [m.trees]
  refine Calls.callWith_builtin rfl (Calls.evalArgs_plain (Calls.spliced_cons (thn (he.run pins s1 σ H1 _ I1 q1) fun iv s2 ⟨y, H2, I2, ry, q2⟩ =>
    Calls.spliced_cons (thn (hf.run pins s2 σ H2 _ I2 q2) fun fv s3 ⟨z, H3, I3, rz, kvs, k, e3, ey, q3⟩ => Calls.spliced_nil ?_))))
  subst ey
  exact n_get2 I3 e3 ry rz fun w' s4 I4 rw' => ⟨_, H3, I4, rw', q3⟩
end
end Gk
namespace Gk
open PySem PySem.Spec PyProof.Rows L2
section
variable {X : Cx} {o e f : Expr} {apos cpos pos : Pos} {td ty tx : TE}
/-- {}, to be such a dict -/
def tNNew (P : Program) (w : World) : TE := fun _ H Q => ∀ p, H p = none → Q (.ref p) (upd H p (dN P w p []))
theorem pe_dnewN (P : Program) (w : World) (h1 : X.prog = P := by rfl) (h2 : X.w = w := by rfl) : PE X (.Dict [] [] pos) (tNNew P w) := by
  subst h1 h2
  exact ⟨fun pins s σ H Q I h => wpAny_Dict_empty ⟨.ref s.heap.objs.size, _, I.laid (a := s.heap.objs.size) (o := dN X.prog X.w s.heap.objs.size []) (t' := s.toks) (fun _ _ q => Heap.get?_push_of_some _ q) (Nat.le_refl _)
    (dn_ok (Nat.zero_le _) (not_modules I) .nil (Heap.DictOf.new s.heap)), rfl, h _ (I.hok.fresh (Nat.le_refl _))⟩⟩
theorem pe_ngetP (P : Program) (w : World) (ho : PE X o td) (he : PE X e ty) (hf : PE X f tx) (m : M2 X o "get" apos e f cpos) (h1 : X.prog = P := by rfl) (h2 : X.w = w := by rfl) : PE X (.Call (.Attribute o "get" apos) [e, f] [] cpos) (tNGet P w td ty tx) := by
  subst h1 h2
  exact pe_nget ho he hf m
/-- d[k] = v -/
def rSetN (P : Program) (w : World) : TSet := fun o i v H Q => ∃ a kvs k, o = .ref a ∧ i = oKey k ∧ H a = some (dN P w a kvs) ∧ kvs.length < sizeLine ∧ Q (upd H a (dN P w a (putK kvs k v)))
theorem set_dN (P : Program) (w : World) (h1 : X.prog = P := by rfl) (h2 : X.w = w := by rfl) : PSet X (rSetN P w) := by
  subst h1 h2
  intro pins s σ H o i v ov iv u Q I ro ri rv h
  obtain ⟨a, kvs, k, rfl, rfl, e, hl, q⟩ := h
  cases (show ov = Value.ref a from ro)
  exact n_set I e hl ri rv fun s' I' => ⟨_, I', q⟩
/-- {}, to be a dict of cells: of whole numbers or texts, or of tuples of those -/
theorem pe_dnewC : PE X (.Dict [] [] pos) (fun σ H Q => tDNewK σ H Q ∨ tDNewT σ H Q) := pe_either pe_dnewK pe_dnewT
end
end Gk
namespace Gk
open PySem PySem.Spec PyProof.Rows L2 HT
/-! ### a tuple from behind -/
section
variable {prog : Program} {w : World} {A : Around} {E : Value → Shared → Prop} {s : Shared}
theorem adjust_rev (n : Nat) : Builtin.Slice.sliceAdjust none none (-1) (n : Int) = ((n : Int) - 1, -1) := by
  have h1 : ((-1 : Int) < 0) := by decide
  unfold Builtin.Slice.sliceAdjust
  simp only [h1, if_true]
theorem places_rev (n : Nat) : Builtin.Slice.slicePlaces ((n : Int) - 1) (-1) (-1) = n := by
  unfold Builtin.Slice.slicePlaces
  have h1 : ¬ ((-1 : Int) > 0) := by decide
  have h2 : (-(-1) : Int) = 1 := by decide
  simp only [h1, if_false, h2, Int.ediv_one]
  split <;> omega
theorem applied_rev {sl : Addr} {vs : Value} {n : Nat} {Q : Int × Int × Nat → Shared → Prop} (hs : s.heap.IsSliceOf sl .none .none vs) (ps : IsPart vs (some (-1)))
    (h : Q ((n : Int) - 1, -1, n) s) : wpAny (model prog w) A (Builtin.Slice.sliceApplied (.ref sl) (pure (n : Int))) Q E s := by
  obtain ⟨os, hos, hcs, hds⟩ := id hs
  unfold Builtin.Slice.sliceApplied Builtin.Slice.sliceFields
  refine wpAny_bind (wpAny_bind (wpAny_field hos hds (x := .none) rfl (wpAny_bind (wpAny_field hos hds (x := .none) rfl (wpAny_bind (wpAny_field hos hds (x := vs) rfl (wpAny_pure ?_)))))))
  refine wpAny_bind (slicePart_ ps ?_)
  show wpAny _ _ (if ((-1 : Int) == 0) = true then _ else _) _ _ s
  rw [if_neg (by decide)]
  refine wpAny_bind (slicePart_none (wpAny_bind (slicePart_none (wpAny_bind (wpAny_pure ?_)))))
  show wpAny _ _ (match Builtin.Slice.sliceAdjust none none (-1) (n : Int) with | (lo, hi) => pure (lo, (-1 : Int), Builtin.Slice.slicePlaces lo hi (-1))) _ _ s
  rw [adjust_rev n]
  show wpAny _ _ (pure ((n : Int) - 1, (-1 : Int), Builtin.Slice.slicePlaces ((n : Int) - 1) (-1) (-1))) _ _ s
  rw [places_rev]
  exact wpAny_pure h
theorem fm_congr {α β : Type} {f g : α → Option β} : ∀ l : List α, (∀ m ∈ l, f m = g m) → l.filterMap f = l.filterMap g
  | [], _ => rfl
  | a :: l, h => by
    rw [List.filterMap_cons, List.filterMap_cons, h a List.mem_cons_self, fm_congr l fun m hm => h m (List.mem_cons_of_mem _ hm)]
theorem pick_rev (xs : Array Value) : ((List.range xs.size).filterMap fun (m : Nat) => xs[(((xs.size : Int) - 1) + (m : Int) * (-1)).toNat]?).toArray = xs.toList.reverse.toArray := by
  have e : ((List.range xs.size).filterMap fun (m : Nat) => xs[(((xs.size : Int) - 1) + (m : Int) * (-1)).toNat]?) = ((List.range xs.size).map fun k => xs.size - 1 - k).filterMap (xs[·]?) := by
    rw [List.filterMap_map]
    refine fm_congr _ fun m hm => ?_
    have hm := List.mem_range.mp hm
    show xs[(((xs.size : Int) - 1) + (m : Int) * (-1)).toNat]? = xs[xs.size - 1 - m]?
    have : (((xs.size : Int) - 1) + (m : Int) * (-1)).toNat = xs.size - 1 - m := by omega
    rw [this]
  rw [e, PySem.W.krv_range, List.filterMap_reverse, PySem.W.krv_all]
theorem getItem_tuple_rev {t sl : Addr} {items : Array Value} {vs : Value} {Q : Value → Shared → Prop} (ht : IsTup s.heap t items) (hs : s.heap.IsSliceOf sl .none .none vs) (ps : IsPart vs (some (-1)))
    (h : Q (.ref s.heap.objs.size) { s with heap := s.heap.push { cls := .type "tuple", data := .seq items.toList.reverse.toArray } })
    (hsz : items.size ≤ sizeLine) : wpAny (model prog w) A (getItem (.ref t) (.ref sl)) Q E s := by
  have htake : sizeOk (.seq items.toList.reverse.toArray) := by
    show items.toList.reverse.toArray.size ≤ sizeLine
    rw [List.size_toArray, List.length_reverse, Array.length_toList]
    exact hsz
  obtain ⟨os, hos, hcs, hds⟩ := id hs
  have hTs : s.TypeIs (.ref sl) "slice" := ⟨os, hos, hcs⟩
  unfold getItem
  try with_reducible refine wpAny_holding ?_
  first | refine wpAny_bind (wpAny_pure ?_) | skip
  refine wpAny_bind (wpAny_sequenceKey ht.typeIs (by decide) ?_)
  refine wpAny_bind (wpAny_callSpecial?_slot (name := Str.ofString "__getitem__") ht.typeIs PyProof.Rows.slot_tuple_getitem
    (wpAny_call_entry PyProof.Rows.slot_tuple_getitem ht.typeIs entry_tuple_getitem ?_ (args_tuple_getitem _ _)))
  show wpAny _ _ (Builtin.Tuple.tupleItemsOf (.ref t) >>= _) _ _ s
  refine wpAny_bind (tupleItemsOf_ ht ?_)
  refine wpAny_bind (wpAny_typeOf hTs ?_)
  rw [if_pos (by decide)]
  refine wpAny_bind (applied_rev hs ps ?_)
  have hno : ¬ (((((items.size : Int) - 1) : Int) == 0 && (-1 : Int) == 1 && items.size == items.size) = true) := by simp
  show wpAny _ _ (if ((((items.size : Int) - 1) : Int) == 0 && (-1 : Int) == 1 && items.size == items.size) = true then _ else _) _ _ s
  rw [if_neg hno, pick_rev]
  first
    | exact wpAny_bind (m := Builtin.Tuple.tupleExact _) (wpAny_newObj_type (wpAny_pure ⟨_, rfl, wpAny_pure h⟩) htake)
    | exact wpAny_bind (m := Builtin.Tuple.tupleExact _) (wpAny_newObj_type (wpAny_bind (wpAny_pure (wpAny_pure ⟨_, rfl, wpAny_pure h⟩))) htake)
    | exact wpAny_bind (wpAny_bind (m := Builtin.Tuple.tupleExact _) (wpAny_newObj_type (wpAny_pure (wpAny_pure ⟨_, rfl, wpAny_pure h⟩)) htake))
    | exact wpAny_bind (wpAny_bind (m := Builtin.Tuple.tupleExact _) (wpAny_newObj_type (wpAny_pure ⟨_, rfl, wpAny_pure h⟩) htake))
end
def tRevU (K : PySem.W.Frag) (te : TE) : TE := fun σ H Q => te σ H fun x H1 => ∃ a xs, x = .ref a ∧ SqT K H1 a xs ∧ ∀ p, H1 p = none → Q (.ref p) (upd H1 p (.tup xs.reverse))
theorem pe_revU {X : Cx} {e : Expr} {te : TE} {k : Nat} {p1 p2 p3 pos : Pos} (he : PE X e te) : PE X (.Subscript e (.Slice none none (some (.UnaryOp .USub (.Constant (.int 1) k p1) p2)) p3) pos) (tRevU X.K te) := by
  refine ⟨fun pins s σ H Q I h => ?_⟩
  refine Subscript_ (thn (he.run pins s σ H _ I h) fun v s1 ⟨x, H1, I1, r1, q1⟩ => ?_)
  obtain ⟨a, xs, ex, hx, q⟩ := q1
  subst ex
  cases r1
  have hst : PO X (some (.UnaryOp .USub (.Constant (.int 1) k p1) p2)) (tPart (tUn (rU fun i => .int (-i)) (tC (.int 1)))) := po_some (pe_un un_neg pe_int)
  refine wpAny_Slice (thn (po_none.run pins s1 σ H1 (fun o H2 => o = none ∧ H2 = H1) I1 ⟨rfl, rfl⟩) fun vl s2 ⟨l, H2, I2, pl, el, e2⟩ => ?_)
  subst el e2
  refine thn (po_none.run pins s2 σ H2 (fun o H3 => o = none ∧ H3 = H2) I2 ⟨rfl, rfl⟩) fun vu s3 ⟨u, H3, I3, pu, eu, e3⟩ => ?_
  subst eu e3
  refine thn (hst.run pins s3 σ H3 (fun o H4 => o = some (-1) ∧ H4 = H3) I3 ⟨1, rfl, -1, rfl, rfl, rfl⟩) fun vs s4 ⟨o, H4, I4, ps, eo, e4⟩ => ?_
  subst eo e4
  cases pl
  cases pu
  have I5 : Inv X pins σ H4 { s4 with heap := s4.heap.push { cls := .type "slice", data := .fields #[.none, .none, vs] } } := I4.kept (t' := s4.toks) fun b ob q => Heap.get?_push_of_some _ q
  obtain ⟨its, r, ht, hz⟩ := I5.tuple hx
  have hlen := r.length
  refine tail_any (ops := [.ref a, .ref s4.heap.objs.size]) ht.typeIs (PyProof.Rows.slot_tuple_getitem.lookup) ?_ (by with_unfolding_all rfl)
  refine getItem_tuple_rev ht (Heap.IsSliceOf.new _ .none .none vs) ps ?_ (by rw [List.size_toArray]; omega)
  refine ⟨.ref _, _, I5.laid (t' := s4.toks) (o := .tup xs.reverse) (fun b ob q => Heap.get?_push_of_some _ q) (Nat.le_refl _) ?_, rfl, q _ (I5.hok.fresh (Nat.le_refl _))⟩
  exact ⟨by rw [List.length_reverse]; exact hz, _, r.reverse, IsTup.new _ _⟩
/-! ### whether a tuple is not () -/
def rNe0 (K : PySem.W.Frag) : R2 := fun x y H Q => ∃ a b xs, x = .ref a ∧ y = .ref b ∧ SqT K H a xs ∧ SqT K H b [] ∧ Q (.bl (!decide (xs = []))) H
theorem op_ne0 {X : Cx} (hu : X.A.units < cLine) : OpR X (compareOp .NotEq) (rNe0 X.K) := by
  intro pins s σ H x y v u Q I rx ry h
  obtain ⟨a, b, xs, rfl, rfl, ha, hb, q⟩ := h
  cases rx
  cases ry
  obtain ⟨its, r1, p1, _⟩ := I.tuple ha
  obtain ⟨its2, r2, p2, _⟩ := I.tuple hb
  cases r2
  have t1 : s.heap.IsTuple a its.toArray := by
    obtain ⟨o, ho, hc, n, hd⟩ := p1
    exact ⟨o, ho, hc, n, hd⟩
  have t2 : s.heap.IsTuple b ([] : List Value).toArray := by
    obtain ⟨o, ho, hc, n, hd⟩ := p2
    exact ⟨o, ho, hc, n, hd⟩
  refine SeqAt.RcNeAt.tuples (e := fun _ => true) t1 t2 hu (fun j h1 h2 => absurd h2 (Nat.not_lt_zero _)) X.prog X.w X.xe (EP X pins σ Q) ⟨.bl _, H, I, ?_, q⟩
  have hl := r1.length
  show Value.bool _ = Value.bool _
  congr 1
  cases xs with
  | nil =>
    cases r1
    rfl
  | cons x xs =>
    cases r1
    simp
end Gk
namespace Gk
open PySem PySem.Spec PyProof.Rows L2
/-! ### math.lcm; small things for any law -/
def rLcm : List V → Hp → VK → Prop := fun vs H Q => ∃ a b : Int, vs = [.int a, .int b] ∧ a.natAbs < 2 ^ 64 ∧ b.natAbs < 2 ^ 64 ∧ Q (.int ((a.natAbs.lcm b.natAbs : Nat) : Int)) H
theorem cr_lcm {X : Cx} : CallR X (.builtin "math.lcm") rLcm := by
  intro pins s σ H vs us Q I r h
  obtain ⟨a, b, rfl, ha, hb, q⟩ := h
  obtain ⟨t, u, rfl⟩ := Vals.int2 r
  exact PySem.W.mc_lcm ha hb fun _ => ⟨.int _, H, I.tok _, ⟨_, rfl⟩, q⟩
theorem Same.seqLL {K : PySem.W.Frag} {H H' : Hp} {a : Addr} {xs : List V} (e : Same H H') (h : SqL K H a xs) : SqL K H' a xs := by
  rcases h with (h | ⟨o, h⟩) | h
  · exact .inl (.inl (e _ _ h))
  · exact .inl (.inr ⟨o, e _ _ h⟩)
  · exact .inr h
theorem tame2 {a b : Int} (ha : a.natAbs < 10 ^ 20) (hb : b.natAbs < 10 ^ 20) : Gk.tame (.tuple [.int a, .int b]) = true := by
  simp only [Gk.tame, tameAll, ha, hb, decide_true, Bool.and_self]
theorem depth2 {a b : Int} : (PyData.tuple [.int a, .int b]).depth ≤ 40 := by
  simp only [PyData.depth, PyData.depthAll]
  omega
theorem fine2 {a b : Int} (ha : a.natAbs < 10 ^ 20) (hb : b.natAbs < 10 ^ 20) : Fine (.tuple [.int a, .int b]) :=
  Fine.tame (tame2 ha hb) depth2 (by simp only [Gk.cost, costAll]; omega)
theorem dp2 {K : PySem.W.Frag} {H : Hp} {p : Addr} {a b : Int} (h : SqT K H p [.int a, .int b]) : Dp K H (.ref p) (.tuple [.int a, .int b]) := .tup h (.cons (.int a) (.cons (.int b) .nil))
theorem flatLen {α : Type} (n : Nat) (l : List α) : ((List.replicate n l).flatten).length = n * l.length := by
  induction n with
  | zero => simp
  | succ n ih => rw [List.replicate_succ, List.flatten_cons, List.length_append, ih, Nat.succ_mul, Nat.add_comm]
theorem pairs_sq {K : PySem.W.Frag} {H : Hp} {p : Addr} {l : List (Int × Int)} (h : PairsAt K H p l) : ∃ xs, SqT K H p xs ∧ xs.length = l.length ∧ DpAll K H xs (l.map pd) := by
  cases h with
  | tup h1 h2 => exact ⟨_, h1, lc_len h2, h2⟩
theorem keepSeqL {K : PySem.W.Frag} {H1 H' : Hp} {a b : Addr} {o : HO} {xs : List V} (hS : SqL K H1 a xs) (nb : H1 b = none) (e : But b (upd H1 b o) H') : SqL K H' a xs := by
  rcases hS with (h | ⟨u, h⟩) | h
  · exact .inl (.inl (e _ _ (ne_of_none h nb) (same_new nb _ _ h)))
  · exact .inl (.inr ⟨u, e _ _ (ne_of_none h nb) (same_new nb _ _ h)⟩)
  · exact .inr h
theorem butLocal {b D : Addr} {H H1 H2 : Hp} (nD : H D = none) (h : But b H H1) (g : ∀ a o, a ≠ b → a ≠ D → H1 a = some o → H2 a = some o) : But b H H2 := fun a o n e => g a o n (fun z => by rw [z, nD] at e; cases e) (h a o n e)
theorem pt_mid {X : Cx} {e : Expr} {t : TT} (h : PT X e t) : PT X e (tMidT t) :=
  ⟨fun pins s σ H Q I ⟨M, h1, h2⟩ => thn (h.run pins s σ H M I h1) fun b s1 ⟨H1, I1, q⟩ => ⟨H1, I1, h2 b H1 q⟩⟩
end Gk
namespace Gk
open PySem PySem.Spec PyProof.Rows L2 RZ
/-! ### texts of signs 0 and 1 -/
def sgn (b : Bool) : Nat := if b then 49 else 48
def txt (l : List Bool) : Str := ⟨(l.map sgn).toArray⟩
theorem txt_size (l : List Bool) : (txt l).cps.size = l.length := by
  show (l.map sgn).toArray.size = _
  rw [List.size_toArray, List.length_map]
theorem txt_at {l : List Bool} {i c : Nat} (h : (txt l).cps[i]? = some c) : ∃ b, l[i]? = some b ∧ c = sgn b := by
  have h' : (l.map sgn).toArray[i]? = some c := h
  rw [List.getElem?_toArray, List.getElem?_map] at h'
  cases e : l[i]? with
  | none => rw [e] at h'; cases h'
  | some b => rw [e] at h'; exact ⟨b, rfl, (Option.some.inj h').symm⟩
theorem txt_app (a b : List Bool) : txt a ++ txt b = txt (a ++ b) := by
  show (⟨(a.map sgn).toArray ++ (b.map sgn).toArray⟩ : Str) = ⟨((a ++ b).map sgn).toArray⟩
  rw [List.map_append]
  simp
theorem txt_length (l : List Bool) : (txt l).length = l.length := txt_size l
theorem fold_rep (l : List Nat) : ∀ (n : Nat) (acc : List Nat), (List.replicate n l.toArray).foldl (· ++ ·) acc.toArray = (acc ++ (List.replicate n l).flatten).toArray
  | 0, acc => by simp
  | n + 1, acc => by
    rw [List.replicate_succ, List.foldl_cons, show acc.toArray ++ l.toArray = (acc ++ l).toArray by simp, fold_rep l n, List.replicate_succ, List.flatten_cons, List.append_assoc]
theorem txt_mul (l : List Bool) (n : Nat) : Txt.mul (txt l) (n : Int) = txt (List.replicate n l).flatten := by
  unfold Txt.mul
  by_cases h0 : (n : Int) < 1
  · have : n = 0 := by omega
    subst this
    rw [if_pos h0]
    rfl
  · rw [if_neg h0]
    by_cases h1 : n = 1
    · subst h1
      rw [if_pos (by simp)]
      simp
    · by_cases h2 : l = []
      · subst h2
        rw [if_pos (by rw [txt_length]; simp)]
        have : (List.replicate n ([] : List Bool)).flatten = [] := by
          rw [List.flatten_eq_nil_iff]
          intro x hx
          exact (List.mem_replicate.mp hx).2
        rw [this]
      · have h3 : ¬ (((n : Int) == 1 || (txt l).length == 0) = true) := by
          rw [txt_length]
          simp only [Bool.or_eq_true, beq_iff_eq, not_or]
          exact ⟨by omega, fun z => h2 (List.length_eq_zero_iff.mp z)⟩
        rw [if_neg h3]
        have := fold_rep (l.map sgn) n []
        show (⟨(List.replicate (n : Int).toNat (l.map sgn).toArray).foldl (· ++ ·) #[]⟩ : Str) = _
        rw [Int.toNat_natCast]
        refine congrArg Str.mk (this.trans ?_)
        rw [List.nil_append]
        congr 1
        rw [List.map_flatten, List.map_replicate]
theorem mulOk_txt {l : List Bool} {n : Nat} (hl : l.length ≤ 100) (hn : n ≤ 1000) : MulOk (txt l) (n : Int) := by
  refine ⟨by simp; omega, fun h0 _ => ?_, fun _ _ => ?_⟩
  · rw [txt_length]
    have h1 : (0 : Int) < n := by omega
    have : (1000 : Int) ≤ (2 ^ 63 - 1) / n := by
      refine Int.le_ediv_of_mul_le h1 ?_
      omega
    omega
  · rw [txt_length]
    show decide (_ > sizeLine) = false
    refine decide_eq_false ?_
    rw [sizeLine_eq, Int.toNat_natCast]
    have := Nat.mul_le_mul hl hn
    omega
theorem txt_cut (l : List Bool) (a b : Nat) (h : a ≤ b) (hb : b ≤ l.length) : cutS (txt l) (some (a : Int)) (some (b : Int)) = txt ((l.drop a).take (b - a)) := by
  unfold cutS
  rw [HT.sIx_nat, HT.sIx_nat, txt_length, Nat.min_eq_left (show a ≤ l.length by omega), Nat.min_eq_left (show b ≤ l.length from hb)]
  show (⟨((((l.map sgn).toArray).toList.drop a).take (b - a)).toArray⟩ : Str) = ⟨(((l.drop a).take (b - a)).map sgn).toArray⟩
  rw [List.map_take, List.map_drop]
theorem glue_txt : ∀ (bs acc : List Bool), (bs.map fun b => txt [b]).foldl (fun (z : Array Nat) (p : Str) => z ++ (Str.empty).cps ++ p.cps) (txt acc).cps = (txt (acc ++ bs)).cps
  | [], acc => by simp
  | b :: bs, acc => by
    rw [List.map_cons, List.foldl_cons]
    have : (txt acc).cps ++ (Str.empty).cps ++ (txt [b]).cps = (txt (acc ++ [b])).cps := by
      have := congrArg Str.cps (txt_app acc [b])
      rw [← this]
      show (txt acc).cps ++ #[] ++ (txt [b]).cps = (txt acc).cps ++ (txt [b]).cps
      simp
    rw [this, glue_txt bs (acc ++ [b]), List.append_assoc]
    rfl
theorem join_txt (bs : List Bool) : Txt.join ("" : Str) (bs.map fun b => txt [b]) = txt bs := by
  show Builtin.Str.glued ("" : Str) (bs.map fun b => txt [b]) = _
  unfold Builtin.Str.glued
  cases bs with
  | nil => rfl
  | cons b bs =>
    have := glue_txt bs [b]
    exact congrArg Str.mk this
theorem str_bit (b : Bool) : (Str.ofString (toString (if b then (1 : Int) else 0))) = txt [b] := by cases b <;> decide +kernel
theorem int_at {os : List Int} {i : Nat} {x : V} (hx : (os.map V.int)[i]? = some x) : ∃ o, os[i]? = some o ∧ x = .int o := by
  rw [List.getElem?_map] at hx
  cases e : os[i]? with
  | none => rw [e] at hx; cases hx
  | some o =>
    rw [e] at hx
    exact ⟨o, rfl, (Option.some.inj hx).symm⟩
/-- outcomes as digits -/
def bo (os : List Int) : List Bool := os.map fun o => decide (o = 1)
theorem bo_len (os : List Int) : (bo os).length = os.length := List.length_map ..
/-- so many digits from a place on, round and round -/
def run (bs : List Bool) (a k : Nat) : List Bool := (List.range k).map fun j => bs.getD ((a + j) % bs.length) false
/-- the last digits of so many that passed, zeros ahead -/
def past (bs : List Bool) (p L : Nat) : List Bool := List.replicate (L - min p L) false ++ run bs (p - min p L) (min p L)
theorem run_len (bs : List Bool) (a k : Nat) : (run bs a k).length = k := by
  unfold run
  rw [List.length_map, List.length_range]
theorem past_len (bs : List Bool) (p L : Nat) : (past bs p L).length = L := by
  unfold past
  rw [List.length_append, List.length_replicate, run_len]
  omega
theorem rep_at {α : Type} (l : List α) (h : 0 < l.length) : ∀ (m i : Nat), i < m * l.length → ((List.replicate m l).flatten)[i]? = l[i % l.length]?
  | 0, i, hi => by simp at hi
  | m + 1, i, hi => by
    rw [List.replicate_succ, List.flatten_cons]
    by_cases g : i < l.length
    · rw [List.getElem?_append_left g, Nat.mod_eq_of_lt g]
    · rw [List.getElem?_append_right (by omega), rep_at l h m (i - l.length) (by rw [Nat.succ_mul] at hi; omega)]
      congr 1
      exact (Nat.mod_eq_sub_mod (by omega)).symm
theorem run_cut {bs : List Bool} (h : 0 < bs.length) (a k m : Nat) (hm : a % bs.length + k ≤ m * bs.length) : (((List.replicate m bs).flatten).drop (a % bs.length)).take k = run bs a k := by
  refine List.ext_getElem? fun i => ?_
  by_cases hi : i < k
  · rw [List.getElem?_take_of_lt hi, List.getElem?_drop, rep_at bs h m _ (by omega)]
    unfold run
    rw [List.getElem?_map, List.getElem?_range hi]
    have hlt : (a + i) % bs.length < bs.length := Nat.mod_lt _ h
    have e : (a % bs.length + i) % bs.length = (a + i) % bs.length := by rw [Nat.mod_add_mod]
    rw [e, List.getElem?_eq_getElem hlt]
    show _ = some (bs.getD ((a + i) % bs.length) false)
    rw [List.getD_eq_getElem?_getD, List.getElem?_eq_getElem hlt]
    rfl
  · rw [List.getElem?_eq_none (by rw [List.length_take]; omega), List.getElem?_eq_none (by rw [run_len]; omega)]
theorem rep_length (n : Nat) (l : List Bool) : ((List.replicate n l).flatten).length = n * l.length := by
  induction n with
  | zero => simp
  | succ n ih => rw [List.replicate_succ, List.flatten_cons, List.length_append, ih, Nat.succ_mul, Nat.add_comm]
theorem enough (n k a : Nat) (h : 0 < n) : a % n + k ≤ (k / n + 2) * n := by
  have h1 := Nat.div_add_mod k n
  have h2 := Nat.mod_lt k h
  have h3 := Nat.mod_lt a h
  rw [Nat.add_mul, Nat.mul_comm (k / n) n]
  omega
theorem sgn_inj {a b : Bool} (h : sgn a = sgn b) : a = b := by
  revert h
  cases a <;> cases b <;> decide
theorem sgns_inj : ∀ {a b : List Bool}, a.map sgn = b.map sgn → a = b
  | [], [], _ => rfl
  | x :: xs, y :: ys, h => by
    rw [List.map_cons, List.map_cons] at h
    injection h with h1 h2
    rw [sgn_inj h1, sgns_inj h2]
  | [], _ :: _, h => by simp at h
  | _ :: _, [], h => by simp at h
theorem txt_inj {a b : List Bool} (h : txt a = txt b) : a = b := by
  have h1 : (a.map sgn).toArray = (b.map sgn).toArray := congrArg Str.cps h
  exact sgns_inj (by simpa using h1)
theorem txt_tail (l : List Bool) : cutS (txt l) (some 1) none = txt (l.drop 1) := by
  unfold cutS
  rw [show (some (1 : Int)) = some ((1 : Nat) : Int) from rfl, HT.sIx_none, HT.sIx_nat, txt_length]
  show (⟨((((l.map sgn).toArray).toList.drop (min 1 l.length)).take (l.length - min 1 l.length)).toArray⟩ : Str) = ⟨((l.drop 1).map sgn).toArray⟩
  congr 2
  rw [List.map_drop]
  cases l with
  | nil => rfl
  | cons b r =>
    rw [show min 1 (b :: r).length = 1 by rw [List.length_cons]; omega]
    refine List.take_of_length_le ?_
    rw [List.length_drop]
    simp
theorem walk_zipT {K : PySem.W.Frag} {a b : Addr} {xs ys : List V} (hl : xs.length = ys.length) : Walk (ItzT K a b) xs.length (fun H => SqT K H a xs ∧ SqT K H b ys) (fun i H v H' => ∃ T x y, v = .ref T ∧ H T = none ∧ xs[i]? = some x ∧ ys[i]? = some y ∧ H' = upd H T (.tup [x, y])) :=
  ⟨fun i _ hi q => ⟨xs, ys, xs[i], ys[i]'(by omega), q.1, q.2, List.getElem?_eq_getElem hi, List.getElem?_eq_getElem (by omega)⟩, fun _ q => ⟨xs, ys, q.1, q.2, .inl (Nat.le_refl _)⟩, fun i H v H' _ q y => by
    obtain ⟨T, x, z, h1, h2, h3, h4, h5⟩ := y
    exact ⟨T, x, z, h1, h2, h4 xs q.1, h5 ys q.2, h3⟩⟩

theorem bit_txt (b : Bool) : (.str (Str.ofString (toString (((if b then 1 else 0 : Nat) : Int)))) : V) = .str (txt [b]) := by
  cases b <;> decide +kernel
theorem op_inK {X : Cx} (K : PySem.W.Frag) (h : X.K = K := by rfl) : OpR X (compareOp .In) (rIn K false) := by
  subst h
  exact op_in_seq
/-! ### whether a tuple is () -/
def rEq0 (K : PySem.W.Frag) : R2 := fun x y H Q => ∃ a b xs, x = .ref a ∧ y = .ref b ∧ SqT K H a xs ∧ SqT K H b [] ∧ Q (.bl (decide (xs = []))) H
theorem op_eq0 {X : Cx} (hu : X.A.units < cLine) : OpR X (compareOp .Eq) (rEq0 X.K) := by
  intro pins s σ H x y v u Q I rx ry h
  obtain ⟨a, b, xs, rfl, rfl, ha, hb, q⟩ := h
  cases rx
  cases ry
  obtain ⟨its, r1, ⟨o1, e1, c1, n1, d1⟩, _⟩ := I.tuple ha
  obtain ⟨its2, r2, ⟨o2, e2, c2, n2, d2⟩, _⟩ := I.tuple hb
  cases r2
  refine SeqAt.RcAt.tuples (e := fun _ => true) (items := its.toArray) (items2 := ([] : List Value).toArray) ⟨o1, e1, c1, n1, d1⟩ ⟨o2, e2, c2, n2, d2⟩ hu (fun j h1 h2 => absurd h2 (Nat.not_lt_zero _)) X.prog X.w X.xe (EP X pins σ Q) ⟨.bl _, H, I, ?_, q⟩
  show Value.bool _ = Value.bool _
  congr 1
  cases xs with
  | nil => cases r1; rfl
  | cons x xs => cases r1; simp
theorem txt_init (l : List Bool) : cutS (txt l) none (some (-1)) = txt l.dropLast := by
  unfold cutS
  have e : HT.sIx (txt l).length (txt l).length (some (-1)) = l.length - 1 := by
    rw [txt_length]
    unfold HT.sIx
    first
      | (simp only []; omega)
      | (simp; omega)
      | (split <;> omega)
  rw [HT.sIx_none, e]
  show (⟨((((l.map sgn).toArray).toList.drop 0).take (l.length - 1 - 0)).toArray⟩ : Str) = ⟨(l.dropLast.map sgn).toArray⟩
  rw [List.drop_zero, Nat.sub_zero, List.dropLast_eq_take, List.map_take]
end Gk
namespace Gk
open PySem PySem.Spec PyProof.Rows L2
/-! ### a list from a tuple, its place told apart from the table of modules -/
def rLstN (K : PySem.W.Frag) : List V → Hp → VK → Prop := fun xs H Q => ∃ p ys, xs = [.ref p] ∧ SqT K H p ys ∧ ∀ l, H l = none → (l == sysModules) = false → Q (.ref l) (upd H l (.lst ys))
theorem call_listN {X : Cx} : CallR X (.type "list") (rLstN X.K) := by
  intro pins s σ H xs us Q I r h
  obtain ⟨p, ys, rfl, hq, q⟩ := h
  obtain ⟨u, rfl, rx⟩ := vals1 r
  cases rx
  obtain ⟨its, r', pl, hz⟩ := I.tuple hq
  have hlen := r'.length
  obtain ⟨o, ho, hc, n, hd⟩ := pl
  refine call_list_seq p (.inr rfl) ho hc hd (fun h' c' kp e => ?_) (by simp only [List.size_toArray] <;> omega)
  exact ⟨.ref s.heap.objs.size, _, I.laid (t' := s.toks) kp (Nat.le_refl _) (show ObjOk X.prog X.w _ h' _ (.lst ys) from ⟨hz, its, c', r', e⟩), rfl, q _ (I.hok.fresh (Nat.le_refl _)) (not_modules I)⟩
/-! ### readings, taken apart -/
theorem go_op {r : R2} {ta tb : TE} {σ : L2.St} {H : Hp} {Q : VK} (h : ta σ H fun x H1 => tb σ H1 fun y H2 => r x y H2 Q) : tOp r ta tb σ H Q := h
theorem go_ret {te : TE} {D : Ends} {σ : L2.St} {H : Hp} (h : te σ H D.rt) : tRet te D σ H := h
theorem go_asg {te : TE} {g : TG} {u : TS} {D : Ends} {σ : L2.St} {H : Hp} (h : te σ H fun v H' => g v σ H' (u D)) : tSeq (tAsg te g) u D σ H := h
theorem go_as {te : TE} {g : TG} {D : Ends} {σ : L2.St} {H : Hp} (h : te σ H fun v H' => g v σ H' D.nx) : tAsg te g D σ H := h
theorem go_name {i : Nat} {v : V} {σ : L2.St} {H : Hp} {Q : L2.St → Hp → Prop} (h : Q (σ.set i (some v)) H) : gName i v σ H Q := h
section
variable {M : Addr → Prop} {K : PySem.W.Frag} {σ : L2.St} {H H0 : Hp}
theorem tup_of {v : V} {ds : List PyData} (h : Dv M K H v (.tuple ds)) : ∃ a xs, v = .ref a ∧ SqT K H a xs ∧ (∀ H', Off M H H' → SqT K H' a xs) ∧ DvAll M K H xs ds := by
  cases h with
  | tup h n r => exact ⟨_, _, rfl, .inl h, fun H' k => .inl (k.rd n h), r⟩
  | tupK h r => exact ⟨_, _, rfl, .inr h, fun _ _ => .inr h, r⟩
theorem sq_tup {a : Addr} {xs : List V} (h : H a = some (.tup xs)) : SqT K H a xs := .inl (.inl h)
/-- a tuple that other rules made, as data -/
theorem dv_sq {a : Addr} {xs : List V} {ds : List PyData} (h : SqT K H a xs) (n : ¬ M a) (r : DvAll M K H xs ds) : Dv M K H (.ref a) (.tuple ds) := h.elim (fun h => .tup h n r) fun h => .tupK h r
/-- two tuples joined -/
theorem cat_go {x y : V} {ds es : List PyData} {Q : VK} (hx : Dv M K H x (.tuple ds)) (hy : Dv M K H y (.tuple es)) (l : ds.length + es.length ≤ 1000000) (z : Stands M H)
    (q : ∀ v H', Same H H' → Dv M K H' v (.tuple (ds ++ es)) → Q v H') : rCatA K x y H Q := by
  obtain ⟨a, xs, rfl, ha, na, da⟩ := tup_of hx
  obtain ⟨b, ys, rfl, hb, nb, db⟩ := tup_of hy
  have l1 := da.len
  have l2 := db.len
  refine ⟨a, b, xs, ys, rfl, rfl, ha, hb, by rw [sizeLine_eq]; omega, fun e => ?_, fun _ e => ?_, fun _ _ p n => q _ _ (same_new n) (.tup (.inl upd_same) (z.new n) ((da.app db).off (Off.same (same_new n))))⟩
  · subst e
    cases da
    exact q _ _ (Same.refl _) hy
  · subst e
    cases db
    rw [List.append_nil] at q
    exact q _ _ (Same.refl _) hx
theorem mk_cat {t u : TE} {ds es : List PyData} (h : Mk M K t σ H0 (.tuple ds)) (g : Mk M K u σ H0 (.tuple es)) (l : ds.length + es.length ≤ 1000000) : Mk M K (tOp (rCatA K) t u) σ H0 (.tuple (ds ++ es)) := fun H M' Q s u' w z q =>
  h H M' _ s u' w z fun v1 H1 s1 d1 => g H1 M' _ (s.trans s1) u' w (z.same s1) fun v2 H2 s2 d2 => cat_go (d1.off (Off.same s2)) d2 l ((z.same s1).same s2) fun v H' s3 d3 => q _ _ ((s1.trans s2).trans s3) d3
/-- a bound that is read -/
def Pt (tl : TO) (σ : L2.St) (o : Option Int) : Prop := ∀ H Q, Q o H → tl σ H Q
theorem pt_none : Pt tNoPart σ none := fun _ _ q => q
theorem pt_v {i : Nat} {n : Int} (e : σ[i]? = some (some (.int n))) : Pt (tPart (tVar i)) σ (some n) := fun _ _ q => ⟨_, e, n, rfl, q⟩
theorem pt_v1 {i : Nat} {n : Int} (e : σ[i]? = some (some (.int n))) : Pt (tPart (tOp (rI0 fun i j => .int (i + j)) (tVar i) (tC (.int 1)))) σ (some (n + 1)) := fun _ _ q => ⟨_, e, n, 1, rfl, rfl, _, rfl, q⟩
def cutD {α : Type} (xs : List α) (lo hi : Option Int) : List α := (xs.drop (HT.sIx xs.length 0 lo)).take (HT.sIx xs.length xs.length hi - HT.sIx xs.length 0 lo)
theorem cutD_to {α : Type} {xs : List α} (n : Nat) : cutD xs none (some (n : Int)) = xs.take n := by
  unfold cutD
  rw [HT.sIx_none, HT.sIx_nat]
  show ((xs.drop 0).take (min n xs.length - 0)) = _
  rw [List.drop_zero, Nat.sub_zero, Nat.min_comm, List.take_eq_take_iff]
  omega
theorem cutD_from {α : Type} {xs : List α} (n : Nat) : cutD xs (some (n : Int)) none = xs.drop n := by
  unfold cutD
  rw [HT.sIx_none, HT.sIx_nat]
  by_cases h : n ≤ xs.length
  · rw [Nat.min_eq_left h, List.take_of_length_le (by rw [List.length_drop]; exact Nat.le_refl _)]
  · rw [Nat.min_eq_right (by omega), List.drop_eq_nil_of_le (Nat.le_refl _), List.drop_eq_nil_of_le (by omega)]
    exact List.take_nil
theorem mk_cut {t : TE} {tl th : TO} {lo hi : Option Int} {ds : List PyData} (h : Mk M K t σ H0 (.tuple ds)) (pl : Pt tl σ lo) (ph : Pt th σ hi) : Mk M K (tSl (rSlA K) t tl th) σ H0 (.tuple (cutD ds lo hi)) := fun H M' Q s u w z q =>
  h H M' _ s u w z fun v1 H1 s1 d1 => pl _ _ (ph _ _ (by
    obtain ⟨a, xs, rfl, ha, na, da⟩ := tup_of d1
    have l1 := da.len
    refine ⟨a, xs, rfl, ha, fun e => ?_, fun _ p n => q _ _ (s1.trans (same_new n)) (.tup (.inl upd_same) ((z.same s1).new n) ?_)⟩
    · have : cutD ds lo hi = ds := by
        unfold cutD
        rw [← l1, e.1, e.2, List.drop_zero, Nat.sub_zero]
        exact List.take_of_length_le (Nat.le_of_eq l1.symm)
      rw [this] at q
      exact q _ _ s1 d1
    · refine DvAll.off ?_ (Off.same (same_new n))
      unfold cutV cutD
      rw [l1]
      exact (da.drop _).take _))
theorem mk_to {t : TE} {tl th : TO} {n : Nat} {ds : List PyData} (h : Mk M K t σ H0 (.tuple ds)) (pl : Pt tl σ none) (ph : Pt th σ (some (n : Int))) : Mk M K (tSl (rSlA K) t tl th) σ H0 (.tuple (ds.take n)) := by
  have := mk_cut h pl ph
  rwa [cutD_to] at this
theorem mk_from {t : TE} {tl th : TO} {n : Nat} {ds : List PyData} (h : Mk M K t σ H0 (.tuple ds)) (pl : Pt tl σ (some (n : Int))) (ph : Pt th σ none) : Mk M K (tSl (rSlA K) t tl th) σ H0 (.tuple (ds.drop n)) := by
  have := mk_cut h pl ph
  rwa [cutD_from] at this
theorem mk_rev {t : TE} {ds : List PyData} (h : Mk M K t σ H0 (.tuple ds)) : Mk M K (tRevU K t) σ H0 (.tuple ds.reverse) := fun H M' Q s u w z q =>
  h H M' _ s u w z fun v1 H1 s1 d1 => by
    obtain ⟨a, xs, rfl, ha, na, da⟩ := tup_of d1
    exact ⟨a, xs, rfl, ha, fun p n => q _ _ (s1.trans (same_new n)) (.tup (.inl upd_same) ((z.same s1).new n) (da.rev.off (Off.same (same_new n))))⟩
theorem mk_list {t : TE} {ds : List PyData} (h : Mk M K t σ H0 (.tuple ds)) : Mk M K (tCB (rLstN K) (tCons t tNil)) σ H0 (.list ds) := fun H M' Q s u w z q =>
  h H M' _ s u w z fun v1 H1 s1 d1 => by
    obtain ⟨a, xs, rfl, ha, na, da⟩ := tup_of d1
    exact ⟨a, xs, rfl, ha, fun p n y => q _ _ (s1.trans (same_new n)) (.lst upd_same ((z.same s1).new n) y (da.off (Off.same (same_new n))))⟩
/-- a plain value that is read -/
theorem mk_gv {t : TE} {v : V} {d : PyData} (g : ∀ H Q, Q v H → t σ H Q) (h : ∀ M H, Dv M K H v d) : Mk M K t σ H0 d := fun H M' Q s u w z q => g _ _ (q _ _ (Same.refl _) (h M' H))
end
/-! ### sizes -/
theorem int_cps (i : Int) : fin (.str (Str.ofString (toString i))) 0 = true := by
  simp only [fin, Array.all_eq_true', decide_eq_true_eq]
  intro c hc
  refine Nat.lt_of_not_le fun h => int_text_free' c ⟨by omega, .inr (by omega)⟩ i ?_
  exact Array.mem_toList_iff.mpr hc
mutual
theorem fin_mono {B C : Nat} (h : B ≤ C) : ∀ d : PyData, fin d B = true → fin d C = true
  | .none, _ => rfl
  | .bool _, _ => rfl
  | .int i, g => by
    simp only [fin, decide_eq_true_eq] at g ⊢
    omega
  | .str x, g => by simpa only [fin] using g
  | .list xs, g => by
    simp only [fin] at g ⊢
    exact fin_monoAll h xs g
  | .tuple xs, g => by
    simp only [fin] at g ⊢
    exact fin_monoAll h xs g
  | .dict kvs, g => by
    simp only [fin] at g ⊢
    exact fin_monoKv h kvs g
theorem fin_monoAll {B C : Nat} (h : B ≤ C) : ∀ ds : List PyData, finAll ds B = true → finAll ds C = true
  | [], _ => rfl
  | x :: xs, g => by
    simp only [finAll, Bool.and_eq_true] at g ⊢
    exact ⟨fin_mono h x g.1, fin_monoAll h xs g.2⟩
theorem fin_monoKv {B C : Nat} (h : B ≤ C) : ∀ kvs : List (PyData × PyData), finKv kvs B = true → finKv kvs C = true
  | [], _ => rfl
  | (k, v) :: r, g => by
    simp only [finKv, Bool.and_eq_true] at g ⊢
    exact ⟨⟨fin_mono h k g.1.1, fin_mono h v g.1.2⟩, fin_monoKv h r g.2⟩
end
theorem finAll_iff {B : Nat} : ∀ {ds : List PyData}, finAll ds B = true ↔ ∀ d ∈ ds, fin d B = true
  | [] => by simp [finAll]
  | x :: xs => by
    simp only [finAll, Bool.and_eq_true, List.mem_cons, forall_eq_or_imp]
    rw [finAll_iff]
theorem bigAll_app : ∀ ds es : List PyData, bigAll (ds ++ es) + 1 = bigAll ds + bigAll es
  | [], es => by simp only [List.nil_append, bigAll]; omega
  | d :: ds, es => by
    have := bigAll_app ds es
    simp only [List.cons_append, bigAll]
    omega
theorem bigAll_rev : ∀ ds : List PyData, bigAll ds.reverse = bigAll ds
  | [] => rfl
  | d :: ds => by
    have := bigAll_app ds.reverse [d]
    have h := bigAll_rev ds
    rw [List.reverse_cons]
    simp only [bigAll] at this ⊢
    omega
theorem bigAll_len : ∀ ds : List PyData, ds.length + 1 ≤ bigAll ds
  | [] => Nat.le_refl _
  | d :: ds => by
    have := bigAll_len ds
    simp only [List.length_cons, bigAll]
    omega
theorem bigAll_split (ds : List PyData) (n : Nat) : bigAll (ds.take n) + bigAll (ds.drop n) = bigAll ds + 1 := by
  have := bigAll_app (ds.take n) (ds.drop n)
  rw [List.take_append_drop] at this
  omega
theorem depthAll_iff {n : Nat} : ∀ {ds : List PyData}, PyData.depthAll ds ≤ n ↔ ∀ d ∈ ds, d.depth ≤ n
  | [] => by simp [PyData.depthAll]
  | x :: xs => by
    simp only [PyData.depthAll, List.mem_cons, forall_eq_or_imp]
    rw [← depthAll_iff (ds := xs)]
    omega
end Gk
namespace Pf
open PySem PySem.Spec PyProof.Rows L2 Gk Fold
abbrev sOwner : Stmt := topS 29
theorem scOwner : FnScope ["scheme", "branch"] ["scheme", "branch"] (defScope sOwner) := ⟨rfl, rfl, rfl, by decide +kernel, rfl, by decide +kernel, by decide +kernel⟩
abbrev sPushed : Stmt := topS 30
theorem scPushed : FnScope ["history", "outcome"] ["history", "outcome"] (defScope sPushed) := ⟨rfl, rfl, rfl, by decide +kernel, rfl, by decide +kernel, by decide +kernel⟩
theorem txt_gk (l : List Bool) : txt l = Gk.txt l := rfl
theorem str_of_bit {o : Int} (h : o = 0 ∨ o = 1) : (Str.ofString (toString o)) = Gk.txt [decide (o = 1)] := by
  rcases h with rfl | rfl <;> decide +kernel
abbrev nPreds : List Str := ["trace", "scheme", "counter", "rounds", "bits", "first", "histories", "values", "moment", "branch", "outcome", "owner", "history", "cell", "value"]
section
variable {P : Program} {w : World} {K : PySem.W.Frag} {mg : Str → Option Value} {base : Heap}
def spOwner (K : PySem.W.Frag) : Sp := fun vs H Q _ => ∃ (c : Addr) (k : Str) (z : Int) (x : Option Int) (b : Int), vs = [.ref c, .int b] ∧ SqT K H c (planV k z x) ∧ Q (oKey (ownO k b)) H
theorem ok_owner {f : Addr} {fd : FuncData} {k : Nat} (F : L2.Fun K "owner_of" "owner_of" sOwner f fd) : FnOk P w K mg base L2.CX0 (k + 1) f fd ["scheme", "branch"] (spOwner K) := by
  refine F.ok scOwner (fun vs H Q E h => ?_) (fun cdv A outer s H vs Q E hr h => ?_)
  · obtain ⟨c, k, z, x, b, rfl, _⟩ := h
    rfl
  · obtain ⟨c, k, z, x, b, rfl, hc, q⟩ := h
    refine ⟨_, pss_one (ps_ret (pe_ifExp (pt_cmpR op_eq (pe_ix ix_tup (pv 0) pe_int (fun _ _ => rfl)) pe_str (nomark _)) (pv 1) pe_non)), ?_⟩
    refine ⟨.ref c, rfl, c, _, 0, .str k, rfl, rfl, hc, planV0 _ _ _, rfl, _, rfl, ite2 (fun e => ?_) (fun e => ?_)⟩
    · have e1 : V.str k = V.str "own" := of_decide_eq_true e
      injection e1 with e1
      unfold ownO at q
      rw [if_pos e1] at q
      exact ⟨.int b, rfl, q⟩
    · have ne : k ≠ "own" := fun z => e (decide_eq_true (by rw [z]))
      unfold ownO at q
      rw [if_neg ne] at q
      exact q
/-- an outcome pushed onto a history -/
def spPushed : Sp := fun vs H Q _ => ∃ (h : List Bool) (o : Int), vs = [.str (txt h), .int o] ∧ (o = 0 ∨ o = 1) ∧ h.length ≤ 1000 ∧ Q (.str (txt ((h ++ [decide (o = 1)]).drop 1))) H
theorem ok_pushed {f : Addr} {fd : FuncData} {k : Nat} (ms : mg "str" = none) (F : L2.Fun K "pushed" "pushed" sPushed f fd) : FnOk P w K mg base L2.CX0 (k + 1) f fd ["history", "outcome"] spPushed := by
  refine F.ok scPushed (fun vs H Q E h => ?_) (fun cdv A outer s H vs Q E hr h => ?_)
  · obtain ⟨h, o, rfl, _⟩ := h
    rfl
  · obtain ⟨h, o, rfl, ho, h2, q⟩ := h
    refine ⟨_, pss_one (ps_ret (pe_slice sl_str (pe_op op_add_str (pv 0) (pe_callTy call_str_int (by rfl) ms (by decide +kernel) (pa_cons (pv 1) pa_nil))) (po_some pe_int) po_none)), ?_⟩
    have es := str_of_bit ho
    refine ⟨_, rfl, .int o, rfl, o, rfl, ?_, _, _, rfl, rfl, ?_, 1, rfl, _, rfl, ?_, ?_⟩
    · rcases ho with rfl | rfl <;> decide
    · rw [es, txt_gk, Gk.txt_length, Gk.txt_length, sizeLine_eq]
      show h.length + 1 ≤ 16777216
      omega
    · rw [es, txt_gk, Gk.txt_app, Gk.txt_length, List.length_append, sizeLine_eq]
      show h.length + 1 ≤ 16777216
      omega
    · rw [es, txt_gk, Gk.txt_app, Gk.txt_tail]
      exact q
/-- all that is told of so many rounds, the caller going on between the triples -/
theorem new_cells {k : Str} {σ : L2.St} {H : Hp} {Q : VK} (h : ∀ vd, H vd = none → ∀ H', (∀ z, z ≠ vd → H' z = H z) → VD H' vd k (fun _ => none) 0 → Q (.ref vd) H') : tDNewK σ H Q ∨ tDNewT σ H Q := by
  cases t : tupK k with
  | false => exact .inl fun vd n => h vd n _ (fun z hz => upd_ne hz) (.inl ⟨t, [], upd_same, Nat.le_refl _, fun _ => rfl⟩)
  | true => exact .inr fun vd n => h vd n _ (fun z hz => upd_ne hz) (.inr ⟨t, [], upd_same, Nat.le_refl _, fun _ => rfl⟩)
theorem VD.same {H H' : Hp} {a : Addr} {k : Str} {f : CK → Option V} {n : Nat} (d : VD H a k f n) (e : ∀ o, H a = some o → H' a = some o) : VD H' a k f n := by
  rcases d with ⟨t, kvs, h, r⟩ | ⟨t, kvs, h, r⟩
  · exact .inl ⟨t, kvs, e _ h, r⟩
  · exact .inr ⟨t, kvs, e _ h, r⟩
theorem VD.isD {H : Hp} {a : Addr} {k : Str} {f : CK → Option V} {n : Nat} (d : VD H a k f n) : IsD H a := by
  rcases d with ⟨t, kvs, h, r⟩ | ⟨t, kvs, h, r⟩
  · exact .inl ⟨kvs, .inl h⟩
  · exact .inr ⟨kvs, .inl h⟩
theorem getD_int (o : Option Int) (d : Int) : (o.map V.int).getD (.int d) = .int (o.getD d) := by cases o <;> rfl
theorem keep_but {K : PySem.W.Frag} {H H' : Hp} {v : Addr} {o : HO} (e : H v = some o) (n1 : ∀ ts, o ≠ .tup ts) (n2 : ∀ a u, o ≠ .frz a u) (ne : ∀ z, z ≠ v → H' z = H z) : Keep K H H' := fun a xs h => by
  rcases h with (h | ⟨u, h⟩) | h
  · exact .inl (.inl (by rw [ne a (fun z => by rw [z, e] at h; exact n1 _ (Option.some.inj h))]; exact h))
  · exact .inl (.inr ⟨u, by rw [ne a (fun z => by rw [z, e] at h; exact n2 _ _ (Option.some.inj h))]; exact h⟩)
  · exact .inr h
theorem VD.keep {K : PySem.W.Frag} {H H' : Hp} {a : Addr} {k : Str} {f : CK → Option V} {n : Nat} (d : VD H a k f n) (ne : ∀ z, z ≠ a → H' z = H z) : Keep K H H' := by
  rcases d with ⟨t, kvs, h, r⟩ | ⟨t, kvs, h, r⟩
  · exact keep_but h (fun ts z => by cases z) (fun _ _ z => by cases z) ne
  · exact keep_but h (fun ts z => by cases z) (fun _ _ z => by cases z) ne
theorem VD.there {H : Hp} {a : Addr} {k : Str} {f : CK → Option V} {n : Nat} (d : VD H a k f n) : ∃ o, H a = some o ∧ ∀ ts, o ≠ .tup ts := by
  rcases d with ⟨t, kvs, h, r⟩ | ⟨t, kvs, h, r⟩
  · exact ⟨_, h, fun ts z => by cases z⟩
  · exact ⟨_, h, fun ts z => by cases z⟩
theorem pg_tupK {X : Cx} {es : List Expr} {k n : Nat} {t : TGs} {pos : Pos} (K : PySem.W.Frag) (hc : X.calm = true) (h : PGs X es t) (hK : X.K = K := by rfl)
    (hn : (assignEach es X.env).length = n := by rfl) (hst : (assignEach es X.env).findIdx? (·.1) = none := by rfl) : PG X (.Tuple es k pos) (gTup K n t) := by
  subst hK
  exact pg_tup hc h hn hst
def spPredsY (K : PySem.W.Frag) : SpY := fun vs H n γ dn yl => ∃ (t c g : Addr) (l : List (Int × Int)) (k : Str) (z : Int) (x : Option Int) (w v0 : Int) (r : Nat) (J : Nat → L2.St → Hp → Prop), vs = [.ref t, .ref c, .ref g, .int (r : Int)] ∧ PairsAt K H t l ∧ Fair l ∧ 1 ≤ l.length ∧ l.length ≤ 64 ∧ SqT K H c (planV k z x) ∧ PlanOk k z x ∧
  SqT K H g [.int w, .int v0] ∧ 1 ≤ w ∧ w ≤ 64 ∧ 0 ≤ v0 ∧ v0 ≤ top w ∧ r ≤ 1000 ∧ n = r * l.length ∧ J 0 γ H ∧
  (∀ i γ H1 H2, J i γ H1 → (∀ b o' o, H b = some o' → H1 b = some o → H2 b = some o) → Keep K H1 H2 → J i γ H2) ∧
  (∀ i γ H1 T kk, i < r * l.length → J i γ H1 → SqT K H1 T [.int (brAt l i), .int (pM l k x z.toNat w v0 i), .int (outM l i)] → (∀ γ' H2, J (i + 1) γ' H2 → (∀ b o, H b = none → H1 b = some o → H2 b = some o) → (∀ b ts, H1 b = some (.tup ts) → H2 b = some (.tup ts)) → Keep K H1 H2 → kk γ' H2) → yl γ (.ref T) H1 kk) ∧
  ∀ γ H1, J (r * l.length) γ H1 → dn γ H1
end
end Pf
/-! readings with the fragment given: within comprehensions, and comprehensions within them -/
namespace Gk
open PySem PySem.Spec PyProof.Rows L2
theorem mt_lcountK {X : Cx} (K : PySem.W.Frag) (h : X.K = K := by rfl) : MtR X "list.count" (rCntI K) := by
  subst h
  exact mt_lcount
theorem pi_listK {X : Cx} {tg l : Expr} {tl : TE} (K : PySem.W.Frag) (hl : PE X l tl) (h : X.K = K := by rfl) : PI X tg l (iList K tl) := by
  subst h
  exact pi_list hl
theorem pi_tupK {X : Cx} {tg l : Expr} {tl : TE} (K : PySem.W.Frag) (hl : PE X l tl) (h : X.K = K := by rfl) : PI X tg l (iTup K tl) := by
  subst h
  exact pi_tup hl
section
variable {X : Cx} {o e : Expr} {es : List Expr} {to : TE} {t : TA} {name : Str} {apos cpos : Pos} {T id : String} {r : V → List V → Hp → VK → Prop}
theorem pe_bmK (K : PySem.W.Frag) (pa : PlainAttrs T) (slot : Slot T name id) (hty : typeOf (.builtin id) = pure (.type "method_descriptor")) (hm : MtR X id r) (ho : PE X o to) (ha : PA X (e :: es) t) (h : X.K = K := by rfl)
    (hbase : attributeBase o name X.env (eval o X.env) = eval o X.env := by rfl)
    (hfew : ((backTo cpos (starEach (e :: es) X.env)).all (fun x => !x.1) && (backToKw cpos (keywordEach [] X.env)).all (fun x => x.1.isSome)
      && decide ((e :: es).length + ([] : List Keyword).length + (if ([] : List Keyword).isEmpty then 0 else 1) < 30)) = true := by rfl)
    (hline : (apos.endLine == cpos.line) = true := by rfl) (hs : starEach (e :: es) X.env = (false, eval e X.env) :: starEach es X.env := by rfl) (hplain : (backTo cpos (starEach es X.env)).any (·.1) = false := by rfl) :
    PE X (.Call (.Attribute o name apos) (e :: es) [] cpos) (tBM K T r to t) := by
  subst h
  exact pe_bm pa slot hty hm ho ha hbase hfew hline hs hplain
end
end Gk
/-! sorted of a dict whose keys are tuples of a whole number and a text. -/
namespace Gk
open PySem PySem.Spec PyProof.Rows L2
/-- the place that a value names -/
def adr : Value → Addr
  | .ref a => a
  | _ => 0
def pairSh : Nat → Bool := fun i => i == 1
/-- y's tuple does not come after y''s -/
def TupLe (H : Hp) (y y' : Addr) : Prop := ∀ (b : Int) (t : Str) (b' : Int) (t' : Str), H y = some (.tup [.int b, .str t]) → H y' = some (.tup [.int b', .str t']) →
  PyProof.Rows.lexLt PyProof.Rows.itemOrd [.inl b', .inr t'.cps.toList] [.inl b, .inr t.cps.toList] = false
section
variable {X : Cx} {pins : List (Addr × Obj)} {σ : L2.St} {H : Hp} {s : Shared}
/-- such a tuple, as the sort sees it -/
theorem pair_here {h : Heap} (ok : HOk X.prog X.w H h) {y : Addr} {b : Int} {t : Str} (e : H y = some (.tup [.int b, .str t])) :
    PyProof.Rows.G.tupKeyC h pairSh (.ref y) = some [.inl b, .inr t.cps.toList] ∧ ∃ f, PyProof.Rows.TupOf h pairSh (.ref y) f := by
  obtain ⟨_, its, vals, o, ho, hc, n, hd⟩ := (show ObjOk X.prog X.w H h y (.tup [.int b, .str t]) from ok y _ e)
  rcases vals with _ | ⟨r1, _ | ⟨r2, _ | _⟩⟩
  obtain ⟨u1, rfl⟩ := r1
  obtain ⟨u2, rfl⟩ := r2
  refine ⟨?_, .int b u1, y, o, _, n, rfl, ho, hc, hd, rfl, fun _ => ⟨_, _, rfl⟩, fun z => by cases z⟩
  have hT : PyProof.Rows.G.isTupObj h (.ref y) = true := by simp [PyProof.Rows.G.isTupObj, ho, hc]
  unfold PyProof.Rows.G.tupKeyC
  rw [if_pos hT]
  simp [PyProof.Rows.tupKey, ho, hd, PyProof.Rows.tupItems, pairSh]
theorem pairs_here {h : Heap} (ok : HOk X.prog X.w H h) : ∀ {bs : List Addr}, (∀ y ∈ bs, ∃ (b : Int) (t : Str), H y = some (.tup [.int b, .str t])) →
    (∃ fs, PyProof.Rows.TupsOf h pairSh (bs.map Value.ref) fs) ∧ ∀ v ∈ bs.map Value.ref, ∃ l, PyProof.Rows.G.tupKeyC h pairSh v = some l
  | [], _ => ⟨⟨[], .nil⟩, fun v hv => by cases hv⟩
  | y :: bs, a => by
    obtain ⟨b, t, e⟩ := a y List.mem_cons_self
    obtain ⟨k, f, tf⟩ := pair_here ok e
    obtain ⟨⟨fs, tfs⟩, ks⟩ := pairs_here ok (bs := bs) fun z hz => a z (List.mem_cons_of_mem _ hz)
    refine ⟨⟨f :: fs, .cons tf tfs⟩, fun v hv => ?_⟩
    rcases List.mem_cons.mp hv with rfl | hv
    · exact ⟨_, k⟩
    · exact ks v hv
def rSortedDT : List V → Hp → VK → Prop := fun xs H Q => ∃ (d : Addr) (kvs : List (List L2.Key × V)), xs = [.ref d] ∧ H d = some (.dT kvs) ∧ (∀ p ∈ kvs, ∃ (b : Int) (t : Str), p.1 = [.inl b, .inr t]) ∧ kvs.length ≤ 1000 ∧
  ∀ (bs ys : List Addr) (p : Addr), IsKeys H kvs bs → ys.Perm bs → ys.Pairwise (TupLe H) → H p = none → Q (.ref p) (upd H p (.lst (ys.map V.ref)))
theorem keys_tup {kvs : List (List L2.Key × V)} {bs : List Addr} (k : IsKeys H kvs bs) (shp : ∀ p ∈ kvs, ∃ (b : Int) (t : Str), p.1 = [.inl b, .inr t]) : ∀ y ∈ bs, ∃ (b : Int) (t : Str), H y = some (.tup [.int b, .str t]) := by
  unfold IsKeys at k
  induction k with
  | nil => intro y hy; cases hy
  | @cons p y0 ps ys e _ ih =>
    intro y hy
    rcases List.mem_cons.mp hy with rfl | hy
    · obtain ⟨b, t, ep⟩ := shp p List.mem_cons_self
      rw [ep] at e
      exact ⟨b, t, e⟩
    · exact ih (fun q hq => shp q (List.mem_cons_of_mem _ hq)) y hy
theorem cr_sortedDT (hc : X.calm = true) : CallR X (.builtin "sorted") rSortedDT := by
  intro pins s σ H xs us Q I r q
  obtain ⟨d, kvs, rfl, hd, shp, hl, q⟩ := q
  obtain ⟨u, rfl, rx⟩ := vals1 r
  cases rx
  obtain ⟨z, hs, ks, pr, o, es, ep, ho, hx, hdt, he, hn⟩ := (show ObjOk X.prog X.w H s.heap d (.dT kvs) from I.hok d _ hd)
  have l1 : es.size = ks.length := size_of_entries he
  have l2 : kvs.length = ks.length := Paired.length pr
  have kb : IsKeys H kvs (ks.map fun x => x.2.1) := isKeys_of pr
  have tups := keys_tup kb shp
  have bl : (ks.map fun x => x.2.1).length = ks.length := List.length_map ..
  apply Calls.call_function_entry kind_sorted plain_sorted entry_sorted (args_sorted1 _)
  unfold Builtin.«sorted»
  refine wpAny_bind (m := checkCount "sorted" 1 1 _) (wpAny_pure (wpAny_bind (PySem.W.kdu_collect (A := X.A.in1) (kdl_raw hs hx hdt) (I.ok.hd hc) ho (by omega) fun h1 t1 acc kp it => ?_)))
  have ea : acc.toList = (ks.map fun x => x.2.1).map Value.ref := by
    refine List.ext_getElem (by rw [Array.length_toList, it.1, List.length_map, bl]; exact l1) fun j a1 a2 => ?_
    obtain ⟨en, e1, e2⟩ := it.2 j (acc.toList[j]) (by rw [← Array.getElem?_toList]; exact List.getElem?_eq_getElem a1)
    have jk : j < ks.length := by rw [List.length_map, bl] at a2; exact a2
    have e3 := entry_at he j
    rw [e1, List.getElem?_eq_getElem jk] at e3
    have e4 : en = entryOfKey (tupleKind (mixKind X.prog X.w)) ks[j] := Option.some.inj e3
    rw [e2, e4, List.getElem_map, List.getElem_map]
    rfl
  have I1 : Inv X pins σ H { s with heap := h1, toks := t1 } := I.kept kp
  generalize (ks.map fun x => x.2.1) = bs at *
  rw [ea]
  have l3 : (bs.map Value.ref).length ≤ sizeLine := by rw [List.length_map, sizeLine_eq]; omega
  refine wpAny_bind (wpAny_newList ?_ l3)
  have hL : (h1.push (seqObj "list" (bs.map Value.ref).toArray 0)).get? h1.objs.size = some (seqObj "list" (bs.map Value.ref).toArray 0) := Heap.get?_push_size _ rfl
  have I2 : Inv X pins σ H { s with heap := h1.push (seqObj "list" (bs.map Value.ref).toArray 0), toks := t1 } := I1.kept (t' := t1) fun b u e => Heap.get?_push_of_some _ e
  obtain ⟨⟨fs, tf⟩, kk⟩ := pairs_here I2.hok tups
  show wpAny _ _ _ _ _ { s with heap := h1.push (seqObj "list" (bs.map Value.ref).toArray 0), toks := t1 }
  refine wpAny_bind (wpAny_holding (wpAny_call_entry slot_list_sort ⟨_, hL, rfl⟩ entry_list_sort (PyProof.Rows.G.list_sort_tups (s := { s with heap := h1.push (seqObj "list" (bs.map Value.ref).toArray 0), toks := t1 }) hL tf kk l3 fun st' pm so _ => ⟨_, rfl, ?_⟩) (args_list_sort _)))
  have pl := Array.perm_iff_toList_perm.mp pm
  rw [pairsOf_toList] at pl
  have each : ∀ p ∈ (arrOf st').toList, p.1 = Value.ref (adr p.2) ∧ p.2 = Value.ref (adr p.2) ∧ adr p.2 ∈ bs := fun p hp => by
    obtain ⟨a1, a2⟩ := mem_zip_self (pl.mem_iff.mp hp)
    obtain ⟨y, hy, ey⟩ := List.mem_map.mp a2
    rw [← a1, ← ey]
    exact ⟨rfl, rfl, hy⟩
  have outs : ((arrOf st').map (·.2)).toList = ((arrOf st').toList.map fun p => adr p.2).map Value.ref := by
    rw [Array.toList_map, List.map_map]
    exact List.map_congr_left fun p hp => (each p hp).2.1
  have perm : ((arrOf st').toList.map fun p => adr p.2).Perm bs := by
    have g := pl.map fun p => adr p.2
    have e : (((bs.map Value.ref).zip (bs.map Value.ref)).map fun p => adr p.2) = bs := by
      have : ∀ l : List Addr, (((l.map Value.ref).zip (l.map Value.ref)).map fun p => adr p.2) = l := fun l => by
        induction l with
        | nil => rfl
        | cons y l ih => simp only [List.map_cons, List.zip_cons_cons, ih]; rfl
      exact this bs
    rwa [e] at g
  have n1 : (pairsOf (bs.map Value.ref)).size = bs.length := by rw [pairsOf_size, List.length_map]
  have n2 : (arrOf st').size = bs.length := by rw [pm.size_eq, n1]
  have sorted : ((arrOf st').toList.map fun p => adr p.2).Pairwise (TupLe H) := by
    rw [List.pairwise_iff_getElem]
    intro i j hi hj ij b t b' t' e e'
    rw [List.length_map, Array.length_toList] at hi hj
    rw [List.getElem_map] at e e'
    have oi := each _ (List.getElem_mem (show i < (arrOf st').toList.length by rw [Array.length_toList]; exact hi))
    have oj := each _ (List.getElem_mem (show j < (arrOf st').toList.length by rw [Array.length_toList]; exact hj))
    have ki := (pair_here I2.hok e).1
    have kj := (pair_here I2.hok e').1
    have k := so i j (Nat.le_of_lt ij) (by rw [n1]; omega)
    unfold PyProof.Rows.KK at k
    rw [Array.getElem?_eq_getElem hi, Array.getElem?_eq_getElem hj] at k
    have ki2 : PyProof.Rows.G.tupKeyC (h1.push (seqObj "list" (bs.map Value.ref).toArray 0)) pairSh (arrOf st')[i].1 = some [.inl b, .inr t.cps.toList] := by
      have q := oi.1
      rw [Array.getElem_toList] at q
      rw [q]
      rw [Array.getElem_toList] at ki
      exact ki
    have kj2 : PyProof.Rows.G.tupKeyC (h1.push (seqObj "list" (bs.map Value.ref).toArray 0)) pairSh (arrOf st')[j].1 = some [.inl b', .inr t'.cps.toList] := by
      have q := oj.1
      rw [Array.getElem_toList] at q
      rw [q]
      rw [Array.getElem_toList] at kj
      exact kj
    simp only [ki2, kj2] at k
    exact k
  obtain ⟨n, hn'⟩ := sortedHeap_at (vs := bs.map Value.ref) (out := (arrOf st').map (·.2)) hL
  refine wpAny_pure ⟨_, rfl, .ref h1.objs.size, upd H h1.objs.size (.lst (((arrOf st').toList.map fun p => adr p.2).map V.ref)), I1.laid (t' := t1) (fun b u e => ?_) (Nat.le_refl _) ?_, rfl, q bs _ _ kb perm sorted (I1.hok.fresh (Nat.le_refl _))⟩
  · have hb : b < h1.objs.size := Heap.lt_size e
    exact (sortedHeap_old (Nat.ne_of_lt hb) (by rw [size_push']; exact Nat.lt_succ_of_lt hb)).trans (Heap.get?_push_of_some _ e)
  · have vr : Vals (((arrOf st').toList.map fun p => adr p.2).map V.ref) ((arrOf st').map (·.2)).toList := by rw [outs]; exact vals_refs _
    have vl : (((arrOf st').toList.map fun p => adr p.2).map V.ref).length ≤ sizeLine := by
      rw [List.length_map, List.length_map, Array.length_toList, n2, sizeLine_eq]
      have : bs.length = kvs.length := by rw [bl, l2]
      omega
    have new : ObjOk X.prog X.w (upd H h1.objs.size (.lst (((arrOf st').toList.map fun p => adr p.2).map V.ref))) (sortedHeap (h1.push (seqObj "list" (bs.map Value.ref).toArray 0)) h1.objs.size (bs.map Value.ref) ((arrOf st').map (·.2))) h1.objs.size (.lst (((arrOf st').toList.map fun p => adr p.2).map V.ref)) :=
      ⟨vl, _, n, vr, by rw [Array.toArray_toList]; exact hn'⟩
    exact new
end
end Gk
/-! dict(list of pairs), the keys tuples. -/
namespace Gk
open PySem PySem.Spec PyProof.Rows L2
abbrev EntT := List L2.Key × Addr × V
/-- what such a dict keeps -/
def mergeT (acc : List (List L2.Key × V)) (es : List EntT) : List (List L2.Key × V) := es.foldl (fun a e => putK a e.1 e.2.2) acc
theorem mergeT_len : ∀ (es : List EntT) (acc : List (List L2.Key × V)), (mergeT acc es).length ≤ acc.length + es.length
  | [], _ => Nat.le_refl _
  | e :: es, acc => by
    have h1 := mergeT_len es (putK acc e.1 e.2.2)
    have h2 := length_putK acc e.1 e.2.2
    show (mergeT (putK acc e.1 e.2.2) es).length ≤ _
    rw [List.length_cons]
    omega
/-- the last entry of a key counts -/
theorem mergeT_val : ∀ (es : List EntT) (acc : List (List L2.Key × V)) (k : List L2.Key), valV (mergeT acc es) k = es.foldl (fun o e => if k = e.1 then some e.2.2 else o) (valV acc k)
  | [], _, _ => rfl
  | e :: es, acc, k => by
    show valV (mergeT (putK acc e.1 e.2.2) es) k = _
    rw [mergeT_val es, List.foldl_cons, valV_put]
section
variable {X : Cx} {pins : List (Addr × Obj)} {σ : L2.St} {H : Hp} {s : Shared}
abbrev EntV (H : Hp) : List EntT → List (List L2.Key × Addr × Value) → Prop := Paired fun e q => e.1 = q.1 ∧ e.2.1 = q.2.1 ∧ H q.2.1 = some (.tup (q.1.map kV)) ∧ RelV e.2.2 q.2.2
theorem merged_kt : ∀ {es : List EntT} {qs : List (List L2.Key × Addr × Value)}, EntV H es qs → ∀ {acc xs}, KT H acc xs → KT H (mergeT acc es) (PySem.storedAllH xs qs)
  | _, _, .nil, _, _, r => r
  | _, _, .cons (a := e) (b := q) h t, acc, xs, r => by
    obtain ⟨h1, h2, h3, h4⟩ := h
    have := r.put (b := q.2.1) q.1 h3 h4
    rw [← h1] at this
    have g := merged_kt t this
    rw [h1] at g
    show KT H (mergeT (putK acc e.1 e.2.2) _) _
    rw [h1]
    exact g
theorem ents_of (I : Inv X pins σ H s) : ∀ {ps : List Addr} {es : List EntT}, Paired (fun p e => SqT X.K H p [.ref e.2.1, e.2.2] ∧ H e.2.1 = some (.tup (e.1.map kV))) ps es →
    ∃ qs, EntV H es qs ∧ qs.length = ps.length ∧ ∀ (j : Nat) (q : List L2.Key × Addr × Value), qs[j]? = some q → ∃ p, ps[j]? = some p ∧ s.heap.IsTuple p #[.ref q.2.1, q.2.2]
  | _, _, .nil => ⟨[], .nil, rfl, fun j q e => by simp at e⟩
  | _, _, .cons (a := p) (b := e) h t => by
    obtain ⟨qs, r, hl, hp⟩ := ents_of I t
    obtain ⟨h1, h2⟩ := h
    obtain ⟨its, rv, ht, _⟩ := I.tuple h1
    obtain ⟨u, y, ei, ru, ry⟩ := vals2 rv
    subst ei
    cases ru
    refine ⟨(e.1, e.2.1, y) :: qs, .cons ⟨rfl, rfl, h2, ry⟩ r, by rw [List.length_cons, List.length_cons, hl], fun j q g => ?_⟩
    cases j with
    | zero =>
      obtain rfl := Option.some.inj g
      exact ⟨p, rfl, ht⟩
    | succ j =>
      obtain ⟨p2, e1, e2⟩ := hp j q (by simpa using g)
      exact ⟨p2, by simpa using e1, e2⟩
end
section
variable {X : Cx}
/-- dict(l), l a list of pairs whose first items are such tuples -/
def rDictT (K : PySem.W.Frag) : List V → Hp → VK → Prop := fun xs H Q => ∃ (a : Addr) (ps : List Addr) (es : List EntT), xs = [.ref a] ∧ SqL K H a (ps.map V.ref) ∧ Paired (fun p e => SqT K H p [.ref e.2.1, e.2.2] ∧ H e.2.1 = some (.tup (e.1.map kV))) ps es ∧ es.length ≤ 1000 ∧
  ∀ p, H p = none → Q (.ref p) (upd H p (.dT (mergeT [] es)))
theorem cr_dictT (hc : X.calm = true) (hu : X.A.units + 2 < cLine) : CallR X (.type "dict") (rDictT X.K) := by
  intro pins s σ H xs us Q I r q
  obtain ⟨a, ps, es, rfl, hq, hp, few, q⟩ := q
  obtain ⟨u, rfl, rx⟩ := vals1 r
  cases rx
  obtain ⟨its, rv, pl, hz⟩ := I.list hq
  obtain rfl := refs_at rv
  obtain ⟨qs, ev, ql, qp⟩ := ents_of I hp
  have el : es.length = ps.length := by rw [Paired.length ev, ql]
  have szp : (qs.map fun q => (Value.ref q.2.1, q.2.2)).length = qs.length := List.length_map ..
  have keys : ∀ {es : List EntT} {qs : List (List L2.Key × Addr × Value)}, EntV H es qs → ∀ x ∈ qs, H x.2.1 = some (.tup (x.1.map kV)) := by
    intro es qs e
    induction e with
    | nil => intro x hx; exact nomatch hx
    | cons h _ ih =>
      intro x hx
      rcases List.mem_cons.mp hx with rfl | hx
      · exact h.2.2.1
      · exact ih x hx
  refine PySem.call_dict_pairsH (knd := tupleKind (mixKind X.prog X.w)) (ps := qs) (PySem.PairArg.list a (ps.map Value.ref).toArray (fun j => ps.getD j 0) (qs.map fun q => (Value.ref q.2.1, q.2.2))) (I.ok.hd hc) (tupleKind_room_in1 hu) ⟨pl, ?_, ?_⟩ ⟨szp.symm, ?_⟩ ?_ ?_ ?_
  · rw [szp, ql]
    simp
  · intro j k v e
    rw [List.getElem?_map] at e
    cases g : qs[j]? with
    | none => rw [g] at e; cases e
    | some x =>
      rw [g] at e
      obtain ⟨p, e1, e2⟩ := qp j x g
      obtain rfl : k = .ref x.2.1 := (congrArg Prod.fst (Option.some.inj e)).symm
      obtain rfl : v = x.2.2 := (congrArg Prod.snd (Option.some.inj e)).symm
      refine ⟨?_, .inl ?_⟩
      · have g0 : ps.getD j 0 = p := by rw [List.getD_eq_getElem?_getD, e1]; rfl
        show ((ps.map Value.ref).toArray)[j]? = some (.ref (ps.getD j 0))
        rw [List.getElem?_toArray, List.getElem?_map, e1, g0]
        rfl
      · have g0 : ps.getD j 0 = p := by rw [List.getD_eq_getElem?_getD, e1]; rfl
        show s.heap.IsTuple (ps.getD j 0) _
        rw [g0]
        exact e2
  · intro j k v e
    have e : (qs.map fun q => (Value.ref q.2.1, q.2.2))[j]? = some (k, v) := e
    rw [List.getElem?_map] at e
    cases g : qs[j]? with
    | none => rw [g] at e; cases e
    | some x =>
      rw [g] at e
      obtain rfl : k = .ref x.2.1 := (congrArg Prod.fst (Option.some.inj e)).symm
      obtain rfl : v = x.2.2 := (congrArg Prod.snd (Option.some.inj e)).symm
      exact ⟨x.1, x.2.1, rfl, rfl⟩
  · intro h' hk x hx
    obtain ⟨o, its, n, h1, h2⟩ := key_of I.hok (keys ev x hx)
    exact ⟨o, its, n, hk _ _ (Nat.ne_of_lt (Heap.lt_size h1)) (fun z => nomatch z) h1, h2⟩
  · rw [szp, ql, ← el, sizeLine_eq]
    omega
  · intro h' tk hd' k
    have hm : (s.heap.objs.size == sysModules) = false := beq_eq_false_iff_ne.mpr (Nat.ne_of_gt I.big)
    have hlen : (mergeT [] es).length ≤ sizeLine := by
      have := mergeT_len es []
      rw [sizeLine_eq]
      simp at this
      omega
    have hn := I.hok.fresh (Nat.le_refl s.heap.objs.size)
    have kt : KT H (mergeT [] es) (PySem.storedAllH [] qs) := merged_kt ev .nil
    obtain ⟨o, en, ep, h1, h2, h3, h4, _, h5⟩ := hd'
    refine ⟨.ref s.heap.objs.size, upd H s.heap.objs.size (.dT (mergeT [] es)), I.laid (t' := tk) (fun b o e => k b o (fun z => nomatch z) e) (Nat.le_refl _) ?_, rfl, q _ hn⟩
    exact ⟨hlen, hm, _, kt.keeps fun b ys e => by rw [upd_ne (ne_of_none e hn)]; exact e, o, en, ep, h1, h2, h3, h4, h5⟩
end
end Gk
/-! tuple(..), list(..), dict(..) with the fragment given -/
namespace Gk
open PySem PySem.Spec PyProof.Rows L2
def rTupOf (K : PySem.W.Frag) : List V → Hp → VK → Prop := fun xs H Q => ∃ p ys, xs = [.ref p] ∧ ((SqL K H p ys ∧ ∀ l, H l = none → Q (.ref l) (upd H l (.tup ys))) ∨ (SqT K H p ys ∧ Q (.ref p) H))
theorem call_tupleK {X : Cx} (K : PySem.W.Frag) (h : X.K = K := by rfl) : CallR X (.type "tuple") (rTupOf K) := by
  subst h
  exact call_tuple_of
def rLstOf (K : PySem.W.Frag) : List V → Hp → VK → Prop := fun xs H Q => ∃ p ys, xs = [.ref p] ∧ (SqL K H p ys ∨ SqT K H p ys) ∧ ∀ l, H l = none → Q (.ref l) (upd H l (.lst ys))
theorem call_listK {X : Cx} (K : PySem.W.Frag) (h : X.K = K := by rfl) : CallR X (.type "list") (rLstOf K) := by
  subst h
  exact call_list_of
def rDictP (K : PySem.W.Frag) : List V → Hp → VK → Prop := fun xs H Q => ∃ (a : Addr) (ps : List Addr) (kvs : List (L2.Key × V)), xs = [.ref a] ∧ SqL K H a (ps.map V.ref) ∧ Paired (fun p kv => SqT K H p [kV kv.1, kv.2]) ps kvs ∧ ∀ p, H p = none → Q (.ref p) (upd H p (.dK (mergeK [] kvs)))
/-- dict(l), the keys numbers, texts, or tuples of those -/
theorem call_dict2K {X : Cx} (K : PySem.W.Frag) (hc : X.calm = true) (hu : X.A.units + 2 < cLine) (h : X.K = K := by rfl) : CallR X (.type "dict") (fun xs H Q => rDictP K xs H Q ∨ rDictT K xs H Q) := by
  subst h
  exact CallR.either (call_dictP hc) (cr_dictT hc hu)
end Gk
namespace Pf
open PySem PySem.Spec PyProof.Rows L2 Gk Fold
/-! ### dicts of cells, their keys in their order -/
/-- a value that is the key -/
def KeyV (H : Hp) (v : V) : CK → Prop
  | .inl q => v = kV q
  | .inr q => ∃ p, v = .ref p ∧ H p = some (.tup (q.map kV))
theorem KeyV.same {H H' : Hp} {v : V} {c : CK} (h : KeyV H v c) (s : ∀ b ts, H b = some (.tup ts) → H' b = some (.tup ts)) : KeyV H' v c := by
  cases c with
  | inl q => exact h
  | inr q => obtain ⟨p, e, hp⟩ := h; exact ⟨p, e, s _ _ hp⟩
theorem keyV_ck {K : PySem.W.Frag} {H : Hp} {v : V} {k : Str} {x : Option Int} {b : Nat} {h : List Bool} (kv : KeyV H v (cK k x b h)) : Ck K H v (cellD k x b h) := by
  unfold cK at kv
  unfold cellD
  by_cases c1 : k = "folded"
  · rw [if_pos c1] at kv ⊢
    cases (show v = .int _ from kv)
    exact Ck.int _
  · rw [if_neg c1] at kv ⊢
    by_cases c2 : k = "shared"
    · rw [if_pos c2] at kv ⊢
      cases (show v = .str _ from kv)
      exact Ck.str _
    · rw [if_neg c2] at kv ⊢
      obtain ⟨p, rfl, hp⟩ := kv
      exact Ck.tup hp
theorem ck_keyV {K : PySem.W.Frag} {H : Hp} {v : V} {k : Str} {x : Option Int} {b : Nat} {h : List Bool} (c : Ck K H v (cellD k x b h)) : KeyV H v (cK k x b h) := by
  cases t : tupK k with
  | false => obtain ⟨q, e, rfl⟩ := cK_inl c t; rw [e]; rfl
  | true => obtain ⟨q, p, e, rfl, hp⟩ := cK_inr c t; rw [e]; exact ⟨p, rfl, hp⟩
/-- a dict that keeps f of the cells, its keys in their order -/
def DK (H : Hp) (a : Addr) (k : Str) (f : CK → Option V) (ks : List CK) : Prop :=
  (tupK k = false ∧ ∃ kvs, H a = some (.dK kvs) ∧ kvs.map (fun e => (Sum.inl e.1 : CK)) = ks ∧ ∀ q, valV kvs q = f (.inl q)) ∨ (tupK k = true ∧ ∃ kvs, H a = some (.dT kvs) ∧ kvs.map (fun e => (Sum.inr e.1 : CK)) = ks ∧ ∀ q, valV kvs q = f (.inr q))
theorem DK.same {H H' : Hp} {a : Addr} {k : Str} {f : CK → Option V} {ks : List CK} (d : DK H a k f ks) (e : ∀ o, H a = some o → H' a = some o) : DK H' a k f ks := by
  rcases d with ⟨t, kvs, h, r⟩ | ⟨t, kvs, h, r⟩
  · exact .inl ⟨t, kvs, e _ h, r⟩
  · exact .inr ⟨t, kvs, e _ h, r⟩
theorem DK.there {H : Hp} {a : Addr} {k : Str} {f : CK → Option V} {ks : List CK} (d : DK H a k f ks) : ∃ o, H a = some o ∧ (∀ ts, o ≠ .tup ts) ∧ (∀ b u, o ≠ .frz b u) ∧ ∀ xs, o ≠ .lst xs := by
  rcases d with ⟨t, kvs, h, r⟩ | ⟨t, kvs, h, r⟩
  · exact ⟨_, h, (fun ts z => by cases z), (fun _ _ z => by cases z), fun xs z => by cases z⟩
  · exact ⟨_, h, (fun ts z => by cases z), (fun _ _ z => by cases z), fun xs z => by cases z⟩
theorem DK.ty {K : PySem.W.Frag} {H : Hp} {a : Addr} {k : Str} {f : CK → Option V} {ks : List CK} (d : DK H a k f ks) : tyV K "dict" (.ref a) H := by
  rcases d with ⟨t, kvs, h, r⟩ | ⟨t, kvs, h, r⟩
  · exact .inr (.inr (.inl ⟨rfl, .inl ⟨kvs, h⟩⟩))
  · exact .inr (.inr (.inl ⟨rfl, .inr ⟨kvs, h⟩⟩))
theorem DK.get {k : Str} {x : Option Int} {b : Nat} {h : List Bool} {H : Hp} {K : PySem.W.Frag} {v : V} {a : Addr} {f : CK → Option V} {ks : List CK} (d : DK H a k f ks) (c : Ck K H v (cellD k x b h)) : DGet H a v (f (cK k x b h)) := by
  rcases d with ⟨t, kvs, e, _, l⟩ | ⟨t, kvs, e, _, l⟩
  · obtain ⟨q, eq, rfl⟩ := cK_inl c t
    rw [eq]
    exact .inl ⟨kvs, q, .inl e, rfl, (l q).symm⟩
  · obtain ⟨q, p, eq, rfl, hp⟩ := cK_inr c t
    rw [eq]
    exact .inr ⟨kvs, q, p, .inl e, rfl, hp, (l q).symm⟩
theorem putK_new {κ : Type} [DecidableEq κ] {kvs : List (κ × V)} {q : κ} {y : V} (n : valV kvs q = none) : putK kvs q y = kvs ++ [(q, y)] := by
  unfold putK
  rw [valV_any, n]
  rfl
/-- d.setdefault(c, v) -/
theorem DK.setd {k : Str} {x : Option Int} {b : Nat} {h : List Bool} {H : Hp} {K : PySem.W.Frag} {v y : V} {a : Addr} {f : CK → Option V} {ks : List CK} {Q : VK} (d : DK H a k f ks) (c : Ck K H v (cellD k x b h)) (hn : ks.length < sizeLine)
    (old : ∀ w, f (cK k x b h) = some w → Q w H) (new : f (cK k x b h) = none → ∀ H', DK H' a k (fun q => if q = cK k x b h then some y else f q) (ks ++ [cK k x b h]) → (∀ z, z ≠ a → H' z = H z) → Q y H') : rSetdK (.ref a) [v, y] H Q ∨ rSetdT (.ref a) [v, y] H Q := by
  rcases d with ⟨t, kvs, e, ek, l⟩ | ⟨t, kvs, e, ek, l⟩
  · obtain ⟨q, eq, rfl⟩ := cK_inl c t
    rw [eq] at old new
    refine .inl ⟨a, kvs, q, y, rfl, rfl, e, by rw [← ek, List.length_map] at hn; exact hn, fun w hw => old w (by rw [← l]; exact hw), fun hw => new (by rw [← l]; exact hw) _ (.inl ⟨t, _, upd_same, ?_, fun r => ?_⟩) fun z hz => upd_ne hz⟩
    · rw [putK_new hw, List.map_append, ek]
      rfl
    · rw [valV_put, l]
      dsimp only
      by_cases er : r = q
      · rw [if_pos er, if_pos (by rw [er])]
      · rw [if_neg er, if_neg (fun z => er (Sum.inl.inj z))]
  · obtain ⟨q, p, eq, rfl, hp⟩ := cK_inr c t
    rw [eq] at old new
    refine .inr ⟨a, kvs, q, p, y, rfl, rfl, e, hp, by rw [← ek, List.length_map] at hn; exact hn, fun w hw => old w (by rw [← l]; exact hw), fun hw => new (by rw [← l]; exact hw) _ (.inr ⟨t, _, upd_same, ?_, fun r => ?_⟩) fun z hz => upd_ne hz⟩
    · rw [putK_new hw, List.map_append, ek]
      rfl
    · rw [valV_put, l]
      dsimp only
      by_cases er : r = q
      · rw [if_pos er, if_pos (by rw [er])]
      · rw [if_neg er, if_neg (fun z => er (Sum.inr.inj z))]
theorem new_dk {k : Str} {σ : L2.St} {H : Hp} {Q : VK} (h : ∀ vd, H vd = none → ∀ H', (∀ z, z ≠ vd → H' z = H z) → DK H' vd k (fun _ => none) [] → Q (.ref vd) H') : tDNewK σ H Q ∨ tDNewT σ H Q := by
  cases t : tupK k with
  | false => exact .inl fun vd n => h vd n _ (fun z hz => upd_ne hz) (.inl ⟨t, [], upd_same, rfl, fun _ => rfl⟩)
  | true => exact .inr fun vd n => h vd n _ (fun z hz => upd_ne hz) (.inr ⟨t, [], upd_same, rfl, fun _ => rfl⟩)
theorem DK.isD {H : Hp} {a : Addr} {k : Str} {f : CK → Option V} {ks : List CK} (d : DK H a k f ks) : IsD H a := by
  rcases d with ⟨t, kvs, h, r⟩ | ⟨t, kvs, h, r⟩
  · exact .inl ⟨kvs, .inl h⟩
  · exact .inr ⟨kvs, .inl h⟩
theorem putK_keys {κ : Type} [DecidableEq κ] {kvs : List (κ × V)} {q : κ} {y : V} : (putK kvs q y).map (·.1) = if valV kvs q = none then kvs.map (·.1) ++ [q] else kvs.map (·.1) := by
  by_cases e : valV kvs q = none
  · rw [if_pos e, putK_new e, List.map_append]
    rfl
  · rw [if_neg e]
    unfold putK
    rw [valV_any, if_pos (by cases h : valV kvs q with
      | none => exact absurd h e
      | some _ => rfl), List.map_map]
    refine List.map_congr_left fun z _ => ?_
    show (if _ then _ else _ : κ × V).1 = z.1
    split <;> rfl
/-- d[c] = v -/
theorem DK.put {k : Str} {x : Option Int} {b : Nat} {h : List Bool} {H : Hp} {K : PySem.W.Frag} {v y : V} {a : Addr} {f : CK → Option V} {ks : List CK} (d : DK H a k f ks) (c : Ck K H v (cellD k x b h)) (hn : ks.length < sizeLine) :
    ∃ H', DPut H a v y H' ∧ DK H' a k (fun q => if q = cK k x b h then some y else f q) (if f (cK k x b h) = none then ks ++ [cK k x b h] else ks) ∧ ∀ z, z ≠ a → H' z = H z := by
  rcases d with ⟨t, kvs, e, ek, l⟩ | ⟨t, kvs, e, ek, l⟩
  · obtain ⟨q, eq, rfl⟩ := cK_inl c t
    rw [eq]
    have lk : kvs.length = ks.length := by rw [← ek, List.length_map]
    refine ⟨_, .inl ⟨kvs, q, e, rfl, by omega, rfl⟩, .inl ⟨t, _, upd_same, ?_, fun r => ?_⟩, fun z hz => upd_ne hz⟩
    · have := putK_keys (kvs := kvs) (q := q) (y := y)
      have m : (putK kvs q y).map (fun e => (Sum.inl e.1 : CK)) = ((putK kvs q y).map (·.1)).map Sum.inl := by rw [List.map_map]; rfl
      rw [m, this, ← l q, ← ek]
      split
      · rw [List.map_append, List.map_map]; rfl
      · rw [List.map_map]; rfl
    · rw [valV_put, l]
      dsimp only
      by_cases er : r = q
      · rw [if_pos er, if_pos (by rw [er])]
      · rw [if_neg er, if_neg (fun z => er (Sum.inl.inj z))]
  · obtain ⟨q, p, eq, rfl, hp⟩ := cK_inr c t
    rw [eq]
    have lk : kvs.length = ks.length := by rw [← ek, List.length_map]
    refine ⟨_, .inr ⟨kvs, q, p, e, rfl, hp, by omega, rfl⟩, .inr ⟨t, _, upd_same, ?_, fun r => ?_⟩, fun z hz => upd_ne hz⟩
    · have := putK_keys (kvs := kvs) (q := q) (y := y)
      have m : (putK kvs q y).map (fun e => (Sum.inr e.1 : CK)) = ((putK kvs q y).map (·.1)).map Sum.inr := by rw [List.map_map]; rfl
      rw [m, this, ← l q, ← ek]
      split
      · rw [List.map_append, List.map_map]; rfl
      · rw [List.map_map]; rfl
    · rw [valV_put, l]
      dsimp only
      by_cases er : r = q
      · rw [if_pos er, if_pos (by rw [er])]
      · rw [if_neg er, if_neg (fun z => er (Sum.inr.inj z))]
end Pf
/-! len(o), x in o, o[x], o(..): o an instance of an own class with a def for it -/
namespace Gk
open PySem PySem.Spec PyProof.Rows L2
section
variable {X : Cx} {CX : CXT} {k : Nat} {C f : Addr} {fd : FuncData} {ps : List Str} {sp : Sp} {E : XK}
/-- the def runs, somewhere below the running body -/
theorem run_below {A : Around} {pins : List (Addr × Obj)} {σ : L2.St} {H : Hp} {s : Shared} {Q : VK} {us : List Value} {vs : List V} (sb : L2.Sub X k A) (I : Inv X pins σ H s) (F : FnOk X.prog X.w X.K X.mg X.base CX k f fd ps sp) (hb : Binds X.K fd ps []) (hx : Passes CX X E)
    (r : Vals vs us) (h : sp vs H Q E) : codeAny (model X.prog X.w) A (.call (.ref f) ⟨us, []⟩) (fun r s' => match r with | .ok (.ret v) => EP X pins σ Q v s' | .ok _ => False | .error e => X.xe e s') s := by
  have e0 : Env0 X.prog X.w X.K X.mg X.base A X.stack s H := by
    have e := I.env0
    exact ⟨by rw [sb.fr]; exact e.frames, e.mod, e.bs, e.bsz, e.funs, e.frf, e.hok, e.bare⟩
  have hl := F.len _ _ _ _ h
  have hu := r.length
  refine codeAny_mono (F.run A X.stack s H ⟨us, []⟩ us vs _ E sb.room e0 (by
    have := hb s us I.kIn (by rw [List.append_nil, ← hu, hl])
    simpa using this) r h) fun rr s' hq => ?_
  cases rr with
  | error e => exact hx pins σ H s e s' I hq
  | ok fl =>
    cases fl with
    | ret w => exact I.after hq
    | next => exact False.elim hq
    | brk => exact False.elim hq
    | cont => exact False.elim hq
theorem call_below {A : Around} {pins : List (Addr × Obj)} {σ : L2.St} {H : Hp} {s : Shared} {Q : VK} {us : List Value} {vs : List V} (sb : L2.Sub X k A) (I : Inv X pins σ H s) (F : FnOk X.prog X.w X.K X.mg X.base CX k f fd ps sp) (hb : Binds X.K fd ps []) (hx : Passes CX X E)
    (r : Vals vs us) (h : sp vs H Q E) : wpAny (model X.prog X.w) A (call (.ref f) us) (EP X pins σ Q) X.xe s := by
  refine wpAny_call (codeAny_mono (run_below sb I F hb hx r h) fun rr s' hq => ?_)
  cases rr with
  | error e => exact hq
  | ok fl => cases fl <;> exact hq
theorem inst_at {pins : List (Addr × Obj)} {σ : L2.St} {H : Hp} {s : Shared} {a dx : Addr} {fs : List (Str × V)} (I : Inv X pins σ H s) (ha : H a = some (.ins C dx fs)) : ∃ ox od, PySem.W.InstAt s.heap a ox C od ∧ ox.data = .plain := by
  obtain ⟨mA, J, _⟩ := ins_get I.hok ha
  obtain ⟨od, J, _⟩ := J.look
  exact ⟨_, some od, J, rfl⟩
/-- o, an instance of the class at C, and what its def promises -/
def rLenOwn (C : Addr) (sp : Sp) (E : XK) : List V → Hp → VK → Prop := fun xs H Q => ∃ a dx fs, xs = [.ref a] ∧ H a = some (.ins C dx fs) ∧ sp [.ref a] H (fun v H' => ∃ n : Int, v = .int n ∧ 0 ≤ n ∧ n < 2 ^ 63 ∧ Q (.int n) H') E
theorem cr_lenOwn (hs : PySem.W.findIn X.K (.ref C) "__len__" = some (some (.ref f))) (hf : PySem.W.isFn X.K (.ref f) = true) (F : FnOk X.prog X.w X.K X.mg X.base CX k f fd ps sp) (hr : Room (k + 1) X.A) (hb : Binds X.K fd ps []) (hx : Passes CX X E) :
    CallR X (.builtin "len") (rLenOwn C sp E) := by
  intro pins s σ H xs us Q I r h
  obtain ⟨a, dx, fs, rfl, ha, hq⟩ := h
  obtain ⟨u, rfl, rx⟩ := vals1 r
  cases rx
  obtain ⟨ox, od, J, _⟩ := inst_at I ha
  obtain ⟨m, hF⟩ := I.fr
  refine PySem.W.len_K hF I.ok.mod.kin J hs hf (wpAny_mono (call_below ⟨hr.in1, rfl⟩ I F hb hx (.cons (show RelV (.ref a) (.ref a) from rfl) .nil) hq) (fun v s' q => ?_) fun _ _ z => z)
  obtain ⟨x, H', I', rx, n, rfl, h0, h1, q⟩ := q
  obtain ⟨t, rfl⟩ := rx
  exact ⟨⟨h0, h1⟩, .int n, H', I'.tok _, ⟨_, rfl⟩, q⟩
/-- x in o -/
def rInOwn (C : Addr) (sp : Sp) (E : XK) : R2 := fun x y H Q => ∃ a dx fs, y = .ref a ∧ H a = some (.ins C dx fs) ∧ sp [.ref a, x] H (fun v H' => ∃ b, v = .bl b ∧ Q (.bl b) H') E
theorem op_inOwn (hs : PySem.W.findIn X.K (.ref C) "__contains__" = some (some (.ref f))) (hf : PySem.W.isFn X.K (.ref f) = true) (F : FnOk X.prog X.w X.K X.mg X.base CX k f fd ps sp) (hr : Room k X.A) (hb : Binds X.K fd ps []) (hx : Passes CX X E) :
    OpR X (compareOp .In) (rInOwn C sp E) := by
  intro pins s σ H x y v u Q I rx ry h
  obtain ⟨a, dx, fs, rfl, ha, hq⟩ := h
  cases ry
  obtain ⟨ox, od, J, _⟩ := inst_at I ha
  obtain ⟨m, hF⟩ := I.fr
  refine PySem.W.in_K hF I.ok.mod.kin J hs hf (wpAny_mono (call_below ⟨hr, rfl⟩ I F hb hx (.cons (show RelV (.ref a) (.ref a) from rfl) (.cons rx .nil)) hq) (fun v s' q => ?_) fun _ _ z => z)
  obtain ⟨z, H', I', rz, b, rfl, q⟩ := q
  cases rz
  exact wpAny_truthy_bool ⟨.bl b, H', I', rfl, q⟩
/-- o[x] -/
def tIxOwn (C : Addr) (sp : Sp) (E : XK) (ta tb : TE) : TE := fun σ H Q => ta σ H fun x H1 => tb σ H1 fun y H2 => ∃ a dx fs, x = .ref a ∧ H2 a = some (.ins C dx fs) ∧ sp [.ref a, y] H2 Q E
theorem pe_ixOwn {e i : Expr} {ta tb : TE} {pos : Pos} (hs : PySem.W.findIn X.K (.ref C) "__getitem__" = some (some (.ref f))) (hfn : PySem.W.fnIn X.K f = true) (hf : PySem.W.isFn X.K (.ref f) = true) (F : FnOk X.prog X.w X.K X.mg X.base CX k f fd ps sp) (hr : Room (k + 1) X.A) (hb : Binds X.K fd ps []) (hx : Passes CX X E)
    (he : PE X e ta) (hi : PE X i tb) (hsl : ∀ a v, subscripted i true (.ref a) v = runValue (.builtin "lifetime.subscript" ⟨[.ref a, v], []⟩)) : PE X (.Subscript e i pos) (tIxOwn C sp E ta tb) := by
  refine ⟨fun pins s σ H Q I h => ?_⟩
  refine Subscript_ (thn (he.run pins s σ H _ I h) fun v s1 ⟨x, H1, I1, rx, q1⟩ => thn (hi.run pins s1 σ H1 _ I1 q1) fun u s2 ⟨y, H2, I2, ry, a, dx, fs, ex, ha, hq⟩ => ?_)
  subst ex
  obtain rfl : v = Value.ref a := rx
  obtain ⟨ox, od, J, _⟩ := inst_at I2 ha
  obtain ⟨m, hF⟩ := I2.fr
  exact PySem.W.sub_K hF I2.ok.mod.kin J hs hfn hf (call_below ⟨hr.in1, rfl⟩ I2 F hb hx (.cons (show RelV (.ref a) (.ref a) from rfl) (.cons ry .nil)) hq) (hsl a u)
end
/-- a call of what the caller keeps, the arguments evaluated ahead of the look at it -/
theorem callWith_kept {M : Model} {A : Around} {E : Value → Shared → Prop} {s : Shared} {pos : Pos} {v : Value} {args : List (Bool × Sem Value)} {Q : Value → Shared → Prop} (hp : args.any (·.1) = false)
    (h : wpAny M A (evalArgs v true args []) (fun a s₁ => PySem.W.Looks M s₁.heap (keeperOf v) .caller ∧ wpAny M A (call v a.pos a.kw) Q E s₁) E s) : wpAny M A (callWith pos v [] args []) Q E s := by
  have hq : (args.any (·.1) || ([] : List (Option Str × Sem Value)).any (·.1.isNone)) = false := by rw [hp]; rfl
  unfold callWith
  refine wpAny_bind (wpAny_holding (wpAny_mono h (fun a s₁ ⟨L, h₁⟩ => wpAny_bind (wpAny_standAt ?_)) fun _ _ z => z))
  simp only [hq]
  refine wpAny_bind (L.here (wpAny_bind (wpAny_mono (wpAny_operateT h₁) (fun r s₂ hr => wpAny_bind (wpAny_holding (wpAny_point (wpAny_pure hr)))) fun _ _ z => z)))
/-- o(e, ..) -/
def tCallOwn (C : Addr) (sp : Sp) (E : XK) (tf : TE) (t : TA) : TE := fun σ H Q => tf σ H fun c H1 => ∃ a, c = .ref a ∧ (∃ dx fs, H1 a = some (.ins C dx fs)) ∧ t σ H1 fun vs H2 => (∃ dx fs, H2 a = some (.ins C dx fs)) ∧ sp (.ref a :: vs) H2 Q E
section
variable {X : Cx} {CX : CXT} {k : Nat} {C f : Addr} {fd : FuncData} {ps : List Str} {sp : Sp} {E : XK} {x : PySem.Str} {np pos : Pos} {e : Expr} {es : List Expr} {tf : TE} {t : TA}
theorem pe_callOwn (hs : PySem.W.findIn X.K (.ref C) "__call__" = some (some (.ref f))) (hfn : PySem.W.fnIn X.K f = true) (hf : PySem.W.isFn X.K (.ref f) = true) (F : FnOk X.prog X.w X.K X.mg X.base CX k f fd ps sp) (hr : Room k X.A) (hb : Binds X.K fd ps []) (hx : Passes CX X E)
    (hc : PE X (.Name x np) tf) (ha : PA X (e :: es) t) (he : starEach (e :: es) X.env = (false, eval e X.env) :: starEach es X.env := by rfl) (hpl : (backTo pos (starEach es X.env)).any (·.1) = false := by rfl) : PE X (.Call (.Name x np) (e :: es) [] pos) (tCallOwn C sp E tf t) := by
  refine ⟨fun pins s σ H Q I h => ?_⟩
  refine wpAny_Call_Name_kw (thn (hc.run pins s σ H _ I h) fun u s1 ⟨c, H1, I1, rc, a, ec, ⟨dx, fs, hi⟩, q1⟩ => ?_)
  subst ec
  obtain rfl : u = Value.ref a := rc
  obtain ⟨ox, od, J, hd⟩ := inst_at I1 hi
  have hA := ha.run pos pins s1 σ H1 _ I1 q1
  rw [he] at hA ⊢
  refine callWith_kept (by show (false || (backTo pos (starEach es X.env)).any (·.1)) = false; rw [hpl]; rfl) (PySem.Calls.evalArgs_plain (thn hA fun us s2 ⟨vs, H2, I2, r, ⟨dx2, fs2, hi2⟩, q⟩ => ?_))
  obtain ⟨ox2, od2, J2, hd2⟩ := inst_at I2 hi2
  refine ⟨PySem.W.kco_keeper J2 hd2, wpAny_call (PySem.W.kco_code I2.kIn J2 hd2 hs hf hfn (codeAny_mono (run_below ⟨hr, rfl⟩ I2 F hb hx (.cons (show RelV (.ref a) (.ref a) from rfl) r) q) fun rr s' hq => ?_))⟩
  cases rr with
  | error e => exact hq
  | ok fl => cases fl <;> exact hq
end
end Gk
namespace Pf
open PySem PySem.Spec PyProof.Rows L2 Gk
/-! ### the classes of a live predictor -/
abbrev sStepI : Stmt := inClass (topS 33) 0
abbrev sMemI : Stmt := inClass (topS 34) 0
abbrev sKeep : Stmt := inClass (topS 34) 1
abbrev nStepI : List Str := ["self", "pair", "is_wrong", "owner", "old_history", "place", "old_value"]
theorem scStepI : FnScope nStepI nStepI (defScope sStepI) := ⟨rfl, rfl, rfl, by decide +kernel, rfl, by decide +kernel, by decide +kernel⟩
theorem scMemI : FnScope ["self"] ["self"] (defScope sMemI) := ⟨rfl, rfl, rfl, by decide +kernel, rfl, by decide +kernel, by decide +kernel⟩
theorem scKeep : FnScope ["self", "step", "history", "value"] ["self", "step", "history", "value"] (defScope sKeep) := ⟨rfl, rfl, rfl, by decide +kernel, rfl, by decide +kernel, by decide +kernel⟩
theorem putF_ne {f g : Str} {y v : V} {fs : List (Str × V)} (h : ¬ g = f) : putF f y ((g, v) :: fs) = (g, v) :: putF f y fs := by
  show (if g = f then _ else _) = _
  rw [if_neg h]
theorem putF_eq {f : Str} {y v : V} {fs : List (Str × V)} : putF f y ((f, v) :: fs) = (f, y) :: fs := by
  show (if f = f then _ else _) = _
  rw [if_pos rfl]
theorem putF_nil {f : Str} {y : V} : putF f y [] = [(f, y)] := rfl
/-- a step's fields -/
def stepF (pr : V) (wr : Bool) (ow oh pl ov : V) : List (Str × V) := [("pair", pr), ("is_wrong", .bl wr), ("owner", ow), ("old_history", oh), ("place", pl), ("old_value", ov)]
/-- a memory's fields -/
def memF (st hd cd : Addr) (n : Int) : List (Str × V) := [("steps", .ref st), ("histories", .ref hd), ("cells", .ref cd), ("wrong", .int n)]
theorem stepF_pair (pr : V) (wr : Bool) (ow oh pl ov : V) : (stepF pr wr ow oh pl ov).lookup ("pair" : Str) = some pr := rfl
theorem stepF_wrong (pr : V) (wr : Bool) (ow oh pl ov : V) : (stepF pr wr ow oh pl ov).lookup ("is_wrong" : Str) = some (.bl wr) := rfl
theorem stepF_owner (pr : V) (wr : Bool) (ow oh pl ov : V) : (stepF pr wr ow oh pl ov).lookup ("owner" : Str) = some ow := rfl
theorem stepF_place (pr : V) (wr : Bool) (ow oh pl ov : V) : (stepF pr wr ow oh pl ov).lookup ("place" : Str) = some pl := rfl
theorem memF_steps (st hd cd : Addr) (n : Int) : (memF st hd cd n).lookup ("steps" : Str) = some (.ref st) := rfl
theorem memF_hist (st hd cd : Addr) (n : Int) : (memF st hd cd n).lookup ("histories" : Str) = some (.ref hd) := rfl
theorem memF_cells (st hd cd : Addr) (n : Int) : (memF st hd cd n).lookup ("cells" : Str) = some (.ref cd) := rfl
theorem memF_wrong (st hd cd : Addr) (n : Int) : (memF st hd cd n).lookup ("wrong" : Str) = some (.int n) := rfl
theorem memF_put (st hd cd : Addr) (n m : Int) : putF "wrong" (.int m) (memF st hd cd n) = memF st hd cd m := by
  unfold memF
  rw [putF_ne (by decide +kernel), putF_ne (by decide +kernel), putF_ne (by decide +kernel), putF_eq]
/-- what the walk asks of the classes -/
structure TStep (K : PySem.W.Frag) (mg : Str → Option Value) (C : Addr) : Prop where
  cl : Cls K C
  n0 : NoAttr K C "pair"
  n1 : NoAttr K C "is_wrong"
  n2 : NoAttr K C "owner"
  n3 : NoAttr K C "old_history"
  n4 : NoAttr K C "place"
  n5 : NoAttr K C "old_value"
  mgC : mg "Step" = some (.ref C)
structure TMem (K : PySem.W.Frag) (mg : Str → Option Value) (C : Addr) : Prop where
  cl : Cls K C
  n0 : NoAttr K C "steps"
  n1 : NoAttr K C "histories"
  n2 : NoAttr K C "cells"
  n3 : NoAttr K C "wrong"
  mgC : mg "Memory" = some (.ref C)
section
variable {P : Program} {w : World} {K : PySem.W.Frag} {mg : Str → Option Value} {base : Heap}
def spStepI (C : Addr) : Sp := fun vs H Q _ => ∃ (p dx : Addr) (pr : V) (wr : Bool) (ow oh pl ov : V), vs = [.ref p, pr, .bl wr, ow, oh, pl, ov] ∧ H p = some (.ins C dx []) ∧ Q .non (upd H p (.ins C dx (stepF pr wr ow oh pl ov)))
theorem ok_stepI {f C : Addr} {fd : FuncData} (T : TStep K mg C) (F : L2.Fun K "__init__" "Step.__init__" sStepI f fd) : FnOk P w K mg base L2.CX0 1 f fd nStepI (spStepI C) := by
  refine F.ok scStepI (fun vs H Q E h => ?_) (fun cdv A outer s H vs Q E hr h => ?_)
  · obtain ⟨p, dx, pr, wr, ow, oh, pl, ov, rfl, _⟩ := h
    rfl
  · obtain ⟨p, dx, pr, wr, ow, oh, pl, ov, rfl, hp, q⟩ := h
    refine ⟨_, pss_cons (ps_fld (pv 0) (pv 1) rfl) (pss_cons (ps_fld (pv 0) (pv 2) rfl) (pss_cons (ps_fld (pv 0) (pv 3) rfl) (pss_cons (ps_fld (pv 0) (pv 4) rfl) (pss_cons (ps_fld (pv 0) (pv 5) rfl) (pss_one (ps_fld (pv 0) (pv 6) rfl)))))), ?_⟩
    refine ⟨_, rfl, _, rfl, p, C, dx, [], rfl, hp, T.cl, T.n0, by show 0 < 1000; decide, ?_⟩
    rw [putF_nil]
    refine ⟨_, rfl, _, rfl, p, C, dx, _, rfl, upd_same, T.cl, T.n1, by show 1 < 1000; decide, ?_⟩
    rw [L2.upd_upd, putF_ne (by decide +kernel), putF_nil]
    refine ⟨_, rfl, _, rfl, p, C, dx, _, rfl, upd_same, T.cl, T.n2, by show 2 < 1000; decide, ?_⟩
    rw [L2.upd_upd, putF_ne (by decide +kernel), putF_ne (by decide +kernel), putF_nil]
    refine ⟨_, rfl, _, rfl, p, C, dx, _, rfl, upd_same, T.cl, T.n3, by show 3 < 1000; decide, ?_⟩
    rw [L2.upd_upd, putF_ne (by decide +kernel), putF_ne (by decide +kernel), putF_ne (by decide +kernel), putF_nil]
    refine ⟨_, rfl, _, rfl, p, C, dx, _, rfl, upd_same, T.cl, T.n4, by show 4 < 1000; decide, ?_⟩
    rw [L2.upd_upd, putF_ne (by decide +kernel), putF_ne (by decide +kernel), putF_ne (by decide +kernel), putF_ne (by decide +kernel), putF_nil]
    refine ⟨_, rfl, _, rfl, p, C, dx, _, rfl, upd_same, T.cl, T.n5, by show 5 < 1000; decide, ?_⟩
    rw [L2.upd_upd, putF_ne (by decide +kernel), putF_ne (by decide +kernel), putF_ne (by decide +kernel), putF_ne (by decide +kernel), putF_ne (by decide +kernel), putF_nil]
    exact q
/-- a memory: its fields and what they hold -/
structure MemAt (P : Program) (w : World) (C : Addr) (k : Str) (H : Hp) (m dx st hd cd : Addr) (steps : List V) (hs : Option Int → List Bool) (L : Nat) (vs : CK → Option Int) (ks : List CK) (n : Int) (many : Nat) : Prop where
  hob : H m = some (.ins C dx (memF st hd cd n))
  hst : H st = some (.lst steps)
  hhi : ∃ kvs, H hd = some (dN P w hd kvs) ∧ kvs.length ≤ many ∧ ∀ o, (valV kvs o).getD (.str (txt (List.replicate L false))) = .str (txt (hs o))
  hce : DK H cd k (fun q => (vs q).map V.int) ks
  hks : ks.length ≤ many
  d1 : hd ≠ st
  d2 : hd ≠ m
  d3 : hd ≠ cd
def spMemI (P : Program) (w : World) (C : Addr) : Sp := fun vs H Q _ => ∃ (p dx : Addr) (k : Str) (L : Nat), vs = [.ref p] ∧ H p = some (.ins C dx []) ∧
  ∀ H' st hd cd, (∀ b o, b ≠ p → H b = some o → H' b = some o) → H st = none → H hd = none → H cd = none → MemAt P w C k H' p dx st hd cd [] (fun _ => List.replicate L false) L (fun _ => none) [] 0 0 → Q .non H'
theorem ok_memI {f C : Addr} {fd : FuncData} (T : TMem K mg C) (F : L2.Fun K "__init__" "Memory.__init__" sMemI f fd) : FnOk P w K mg base L2.CX0 1 f fd ["self"] (spMemI P w C) := by
  refine F.ok scMemI (fun vs H Q E h => ?_) (fun cdv A outer s H vs Q E hr h => ?_)
  · obtain ⟨p, dx, k, L, rfl, _⟩ := h
    rfl
  · obtain ⟨p, dx, k, L, rfl, hp, q⟩ := h
    refine ⟨_, pss_cons (ps_fld (pv 0) (pe_lst pa_nil) rfl) (pss_cons (ps_fld (pv 0) (pe_dnewN P w) rfl) (pss_cons (ps_fld (pv 0) pe_dnewC rfl) (pss_one (ps_fld (pv 0) pe_int rfl)))), ?_⟩
    refine ⟨Nat.zero_le _, fun st nst => ⟨_, rfl, p, C, dx, [], rfl, same_new nst _ _ hp, T.cl, T.n0, by show 0 < 1000; decide, ?_⟩⟩
    rw [putF_nil]
    have pst : p ≠ st := ne_of_none hp nst
    have keep1 : ∀ b o, b ≠ p → H b = some o → (upd (upd H st (.lst [])) p (.ins C dx [("steps", .ref st)])) b = some o := fun b o nb e => by rw [upd_ne nb]; exact same_new nst _ _ e
    have st1 : (upd (upd H st (.lst [])) p (.ins C dx [("steps", .ref st)])) st = some (.lst []) := by rw [upd_ne pst.symm]; exact upd_same
    have p1 : (upd (upd H st (.lst [])) p (.ins C dx [("steps", .ref st)])) p = some (.ins C dx [("steps", .ref st)]) := upd_same
    generalize upd (upd H st (.lst [])) p (.ins C dx [("steps", .ref st)]) = H1 at keep1 st1 p1
    refine fun hd nhd => ⟨_, rfl, p, C, dx, _, rfl, same_new nhd _ _ p1, T.cl, T.n1, by show 1 < 1000; decide, ?_⟩
    rw [putF_ne (by decide +kernel), putF_nil]
    have phd : hd ≠ p := (ne_of_none p1 nhd).symm
    have sthd : hd ≠ st := (ne_of_none st1 nhd).symm
    have keep2 : ∀ b o, b ≠ p → H b = some o → (upd (upd H1 hd (dN P w hd [])) p (.ins C dx [("steps", .ref st), ("histories", .ref hd)])) b = some o := fun b o nb e => by rw [upd_ne nb]; exact same_new nhd _ _ (keep1 b o nb e)
    have st2 : (upd (upd H1 hd (dN P w hd [])) p (.ins C dx [("steps", .ref st), ("histories", .ref hd)])) st = some (.lst []) := by rw [upd_ne pst.symm]; exact same_new nhd _ _ st1
    have hd2 : (upd (upd H1 hd (dN P w hd [])) p (.ins C dx [("steps", .ref st), ("histories", .ref hd)])) hd = some (dN P w hd []) := by rw [upd_ne phd]; exact upd_same
    have p2 : (upd (upd H1 hd (dN P w hd [])) p (.ins C dx [("steps", .ref st), ("histories", .ref hd)])) p = some (.ins C dx [("steps", .ref st), ("histories", .ref hd)]) := upd_same
    have nhd0 : H hd = none := by
      cases e : H hd with
      | none => rfl
      | some o => rw [keep1 hd o phd e] at nhd; cases nhd
    generalize upd (upd H1 hd (dN P w hd [])) p (.ins C dx [("steps", .ref st), ("histories", .ref hd)]) = H2 at keep2 st2 hd2 p2
    refine new_dk (k := k) fun cd ncd H3 ke vd => ?_
    have cp : cd ≠ p := (ne_of_none p2 ncd).symm
    have cst : cd ≠ st := (ne_of_none st2 ncd).symm
    have chd : cd ≠ hd := (ne_of_none hd2 ncd).symm
    have ncd0 : H cd = none := by
      cases e : H cd with
      | none => rfl
      | some o => rw [keep2 cd o cp e] at ncd; cases ncd
    refine ⟨_, rfl, p, C, dx, _, rfl, by rw [ke p cp.symm]; exact p2, T.cl, T.n2, by show 2 < 1000; decide, ?_⟩
    rw [putF_ne (by decide +kernel), putF_ne (by decide +kernel), putF_nil]
    refine ⟨_, rfl, p, C, dx, _, rfl, upd_same, T.cl, T.n3, by show 3 < 1000; decide, ?_⟩
    rw [L2.upd_upd, putF_ne (by decide +kernel), putF_ne (by decide +kernel), putF_ne (by decide +kernel), putF_nil]
    refine q _ st hd cd (fun b o nb e => ?_) nst nhd0 ncd0 ⟨upd_same, by rw [upd_ne pst.symm, ke st cst.symm]; exact st2, ⟨[], by rw [upd_ne phd, ke hd chd.symm]; exact hd2, Nat.le_refl _, fun o => rfl⟩, vd.same fun o e => by rw [upd_ne cp]; exact e, Nat.le_refl _, sthd, phd, chd.symm⟩
    rw [upd_ne nb, ke b (fun z => by rw [z, ncd0] at e; cases e)]
    exact keep2 b o nb e
def spKeep (P : Program) (w : World) (K : PySem.W.Frag) (CM CS : Addr) : Sp := fun vs H Q _ => ∃ (m dx st hd cd sp ds : Addr) (k : Str) (x : Option Int) (steps : List V) (hs : Option Int → List Bool) (L : Nat) (cs : CK → Option Int) (ks : List CK) (n : Int) (many : Nat) (pr : V) (wr : Bool) (o : Option Int) (oh pl ov : V) (hb : List Bool) (v : Int) (b : Nat) (hh : List Bool),
  vs = [.ref m, .ref sp, .str (txt hb), .int v] ∧ MemAt P w CM k H m dx st hd cd steps hs L cs ks n many ∧ H sp = some (.ins CS ds (stepF pr wr (oKey o) oh pl ov)) ∧ Ck K H pl (cellD k x b hh) ∧ steps.length ≤ 100000 ∧ many ≤ 100000 ∧ 0 ≤ n ∧ n ≤ 100000 ∧
  ∀ H', (∀ a u, a ≠ m → a ≠ st → a ≠ hd → a ≠ cd → H a = some u → H' a = some u) → MemAt P w CM k H' m dx st hd cd (steps ++ [.ref sp]) (fun q => if q = o then hb else hs q) L (fun q => if q = cK k x b hh then some v else cs q) (if cs (cK k x b hh) = none then ks ++ [cK k x b hh] else ks) (n + if wr then 1 else 0) (many + 1) → Q .non H'
theorem ok_keep {f CM CS : Addr} {fd : FuncData} (T : TMem K mg CM) (S : TStep K mg CS) (F : L2.Fun K "keep" "Memory.keep" sKeep f fd) : FnOk P w K mg base L2.CX0 1 f fd ["self", "step", "history", "value"] (spKeep P w K CM CS) := by
  refine F.ok scKeep (fun vs H Q E h => ?_) (fun cdv A outer s H vs Q E hr h => ?_)
  · obtain ⟨m, dx, st, hd, cd, sp, ds, k, x, steps, hs, L, cs, ks, n, many, pr, wr, o, oh, pl, ov, hb, v, b, hh, rfl, _⟩ := h
    rfl
  · obtain ⟨m, dx, st, hd, cd, sp, ds, k, x, steps, hs, L, cs, ks, n, many, pr, wr, o, oh, pl, ov, hb, v, b, hh, rfl, M, hsp, ck, sl, ml, n0, n1, q⟩ := h
    have hu : (A.deeper (envOfC "Memory.keep" (defScope sKeep) s.heap.objs.size f cdv)).units + 1 < cLine := Nat.lt_of_le_of_lt (Nat.add_le_add_left (by decide : 1 ≤ 64) _) hr.units
    refine ⟨_, pss_cons (ps_expr (pe_bm PySem.F.plainAttrs_list PySem.F.slot_list_append PySem.F.type_list_append mt_append (pe_fld (pv 0) rfl) (pa_cons (pv 1) pa_nil)))
      (pss_cons (ps_asg (pv 2) (pg_sub (pe_fld (pv 0) rfl) (pe_fld (pv 1) rfl) (set_dN P w)))
      (pss_cons (ps_asg (pv 3) (pg_sub (pe_fld (pv 0) rfl) (pe_fld (pv 1) rfl) (set_dict hu)))
      (pss_one (ps_if (pt_val (pe_fld (pv 1) rfl)) (pss_one (ps_fldaug (pv 0) pe_int in_add)) pss_nil)))), ?_⟩
    obtain ⟨hm, hst, ⟨kvs, hhd, hkl, hkv⟩, hvd, hks, d1, d2, d3⟩ := M
    have mst : m ≠ st := fun z => by rw [z, hst] at hm; cases hm
    have spst : sp ≠ st := fun z => by rw [z, hst] at hsp; cases hsp
    have sphd : sp ≠ hd := fun z => by rw [z, hhd] at hsp; cases hsp
    refine ⟨_, rfl, m, CM, dx, _, _, rfl, hm, T.cl, T.n0, memF_steps _ _ _ _, .inl ⟨rfl, _, SqL.of hst⟩, _, rfl, st, steps, _, rfl, rfl, hst, Nat.lt_of_le_of_lt (by omega : steps.length ≤ 100000) (by decide), ?_⟩
    have old1 : ∀ a u, a ≠ st → H a = some u → (upd H st (.lst (steps ++ [.ref sp]))) a = some u := fun a u na e => by rw [upd_ne na]; exact e
    have st1 : (upd H st (.lst (steps ++ [.ref sp]))) st = some (.lst (steps ++ [.ref sp])) := upd_same
    have k01 : Keep K H (upd H st (.lst (steps ++ [.ref sp]))) := keep_wr hst
    generalize upd H st (.lst (steps ++ [.ref sp])) = H1 at old1 st1 k01
    have mcd : m ≠ cd := fun z => by
      rcases hvd with ⟨_, _, e, _⟩ | ⟨_, _, e, _⟩ <;> rw [← z, hm] at e <;> cases e
    have stcd : st ≠ cd := fun z => by
      rcases hvd with ⟨_, _, e, _⟩ | ⟨_, _, e, _⟩ <;> rw [← z, hst] at e <;> cases e
    have spcd : sp ≠ cd := fun z => by
      rcases hvd with ⟨_, _, e, _⟩ | ⟨_, _, e, _⟩ <;> rw [← z, hsp] at e <;> cases e
    have hm1 := old1 m _ mst hm
    have hsp1 := old1 sp _ spst hsp
    have hhd1 := old1 hd _ d1 hhd
    have hvd1 : DK H1 cd k (fun q => (cs q).map V.int) ks := hvd.same fun o e => old1 cd o stcd.symm e
    have ck1 : Ck K H1 pl (cellD k x b hh) := ⟨Dp.keep k01 _ _ (cell_tups _ _ _ _) ck.1, ck.2.same fun b ts e => old1 b _ (fun z => by rw [z, hst] at e; cases e) e⟩
    have big : 100001 < sizeLine := by decide
    refine ⟨_, rfl, _, rfl, m, CM, dx, _, _, rfl, hm1, T.cl, T.n1, memF_hist _ _ _ _, _, rfl, sp, CS, ds, _, _, rfl, hsp1, S.cl, S.n2, stepF_owner _ _ _ _ _ _, hd, kvs, o, rfl, rfl, hhd1, by omega, ?_⟩
    generalize hN : dN P w hd (putK kvs o (.str (txt hb))) = ob
    have old2 : ∀ a u, a ≠ hd → H1 a = some u → (upd H1 hd ob) a = some u := fun a u na e => by rw [upd_ne na]; exact e
    have hd2 : (upd H1 hd ob) hd = some ob := upd_same
    have k12 : Keep K H1 (upd H1 hd ob) := keep_but hhd1 (fun ts z => by cases z) (fun _ _ z => by cases z) fun b nb => upd_ne nb
    generalize upd H1 hd ob = H2 at old2 hd2 k12
    have hm2 := old2 m _ d2.symm hm1
    have hsp2 := old2 sp _ sphd hsp1
    have st2 := old2 st _ d1.symm st1
    have hvd2 : DK H2 cd k (fun q => (cs q).map V.int) ks := hvd1.same fun o e => old2 cd o d3.symm e
    have ck2 : Ck K H2 pl (cellD k x b hh) := ⟨Dp.keep k12 _ _ (cell_tups _ _ _ _) ck1.1, ck1.2.same fun b ts e => old2 b _ (fun z => by rw [z, hhd1] at e; cases e) e⟩
    obtain ⟨H3, put3, vd3, ne3⟩ := hvd2.put (y := .int v) ck2 (by omega)
    refine ⟨_, rfl, _, rfl, m, CM, dx, _, _, rfl, hm2, T.cl, T.n2, memF_cells _ _ _ _, _, rfl, sp, CS, ds, _, _, rfl, hsp2, S.cl, S.n4, stepF_place _ _ _ _ _ _, cd, H3, rfl, put3, ?_⟩
    have hm3 : H3 m = some (.ins CM dx (memF st hd cd n)) := by rw [ne3 m mcd]; exact hm2
    have hsp3 : H3 sp = some (.ins CS ds (stepF pr wr (oKey o) oh pl ov)) := by rw [ne3 sp spcd]; exact hsp2
    refine ⟨_, rfl, sp, CS, ds, _, _, rfl, hsp3, S.cl, S.n1, stepF_wrong _ _ _ _ _ _, _, rfl, ?_⟩
    have efs : (fun q => ((if q = cK k x b hh then some v else cs q) : Option Int).map V.int) = fun q => if q = cK k x b hh then some (V.int v) else (cs q).map V.int := by
      funext q
      split <;> rfl
    have ekn : (if (cs (cK k x b hh)).map V.int = none then ks ++ [cK k x b hh] else ks) = if cs (cK k x b hh) = none then ks ++ [cK k x b hh] else ks := by
      cases cs (cK k x b hh) <;> rfl
    have mem : ∀ H' (n' : Int), H' m = some (.ins CM dx (memF st hd cd n')) → (∀ a, a ≠ m → H' a = H3 a) → MemAt P w CM k H' m dx st hd cd (steps ++ [.ref sp]) (fun q => if q = o then hb else hs q) L (fun q => if q = cK k x b hh then some v else cs q) (if cs (cK k x b hh) = none then ks ++ [cK k x b hh] else ks) n' (many + 1) := fun H' n' hm' ne' =>
      ⟨hm', by rw [ne' st mst.symm, ne3 st stcd]; exact st2, ⟨_, by rw [ne' hd d2, ne3 hd d3, hd2, ← hN], by have := length_putK kvs o (.str (txt hb)); omega, fun q' => by
        rw [valV_put]
        by_cases eo : q' = o
        · rw [if_pos eo, if_pos eo]
          rfl
        · rw [if_neg eo, if_neg eo]
          exact hkv q'⟩, by rw [efs, ← ekn]; exact vd3.same fun u e => by rw [ne' cd mcd.symm]; exact e, by split <;> first | (rw [List.length_append]; show ks.length + 1 ≤ many + 1; omega) | omega, d1, d2, d3⟩
    have old : ∀ a u, a ≠ st → a ≠ hd → a ≠ cd → H a = some u → H3 a = some u := fun a u n1 n2 n3 e => by rw [ne3 a n3]; exact old2 a u n2 (old1 a u n1 e)
    cases wr with
    | true =>
      refine iteT ?_
      refine ⟨_, rfl, m, CM, dx, _, _, rfl, hm3, T.cl, T.n3, memF_wrong _ _ _ _, _, _, rfl, rfl, dx, _, hm3, by show 4 < 1000; decide, ?_⟩
      refine q _ (fun a u a1 a2 a3 a4 e => by rw [upd_ne a1]; exact old a u a2 a3 a4 e) ?_
      rw [memF_put]
      exact mem _ _ upd_same fun a na => upd_ne na
    | false =>
      refine iteF ?_
      refine q H3 (fun a u a1 a2 a3 a4 e => old a u a2 a3 a4 e) ?_
      show MemAt P w CM k H3 m dx st hd cd _ _ L _ _ (n + 0) _
      rw [Int.add_zero]
      exact mem H3 n hm3 fun a _ => rfl
end
end Pf
namespace Gk
open PySem PySem.Spec PyProof.Rows L2
/-! ### what is bent stays small -/
theorem depth_tup (ds : List PyData) : (PyData.tuple ds).depth = PyData.depthAll ds + 1 := by simp only [PyData.depth]
theorem depth_lst (ds : List PyData) : (PyData.list ds).depth = PyData.depthAll ds + 1 := by simp only [PyData.depth]
theorem el_ok {ds : List PyData} {d : PyData} {B : Nat} (f : fin (.tuple ds) B = true) (h : d ∈ ds) : fin d B = true ∧ d.depth + 1 ≤ (PyData.tuple ds).depth := by
  simp only [fin] at f
  refine ⟨finAll_iff.mp f d h, ?_⟩
  rw [depth_tup]
  exact Nat.succ_le_succ (depthAll_iff.mp (Nat.le_refl _) d h)
theorem drop_at {α : Type} {ds : List α} {i : Nat} {d : α} (g : ds[i]? = some d) : ds.drop i = d :: ds.drop (i + 1) := by
  obtain ⟨hi, e⟩ := List.getElem?_eq_some_iff.mp g
  rw [List.drop_eq_getElem_cons hi, e]
theorem el_big {ds : List PyData} {i : Nat} {d : PyData} (g : ds[i]? = some d) : bigAll (ds.take i) + big d + bigAll (ds.drop (i + 1)) = bigAll ds := by
  have h := bigAll_split ds i
  rw [drop_at g] at h
  simp only [bigAll] at h
  omega
theorem el_le {ds : List PyData} {i : Nat} {d : PyData} (g : ds[i]? = some d) : big d ≤ big (.tuple ds) := by
  have h := el_big g
  simp only [big]
  omega
/-- one item put for another -/
theorem put_ok {ds : List PyData} {i : Nat} {d e : PyData} {B : Nat} (g : ds[i]? = some d) (f : fin (.tuple ds) B = true) (f1 : fin e (B + 1) = true) (f2 : e.depth ≤ d.depth + 9) (f3 : big e ≤ 2 * big d + 1100) :
    fin (.tuple (ds.take i ++ [e] ++ ds.drop (i + 1))) (B + 1) = true ∧ (PyData.tuple (ds.take i ++ [e] ++ ds.drop (i + 1))).depth ≤ (PyData.tuple ds).depth + 9 ∧ big (.tuple (ds.take i ++ [e] ++ ds.drop (i + 1))) ≤ 2 * big (.tuple ds) + 1100 := by
  have hm := List.mem_of_getElem? g
  have ok := el_ok f hm
  refine ⟨?_, ?_, ?_⟩
  · simp only [fin]
    refine finAll_iff.mpr fun x hx => ?_
    simp only [List.mem_append, List.mem_cons, List.not_mem_nil, or_false] at hx
    rcases hx with (hx | rfl) | hx
    · exact fin_mono (Nat.le_succ B) _ (el_ok f (List.mem_of_mem_take hx)).1
    · exact f1
    · exact fin_mono (Nat.le_succ B) _ (el_ok f (List.mem_of_mem_drop hx)).1
  · rw [depth_tup (ds.take i ++ [e] ++ ds.drop (i + 1))]
    have : PyData.depthAll (ds.take i ++ [e] ++ ds.drop (i + 1)) ≤ (PyData.tuple ds).depth + 8 := depthAll_iff.mpr fun x hx => by
      simp only [List.mem_append, List.mem_cons, List.not_mem_nil, or_false] at hx
      rcases hx with (hx | rfl) | hx
      · have := (el_ok f (List.mem_of_mem_take hx)).2
        omega
      · omega
      · have := (el_ok f (List.mem_of_mem_drop hx)).2
        omega
    omega
  · have h1 := bigAll_app (ds.take i ++ [e]) (ds.drop (i + 1))
    have h2 := bigAll_app (ds.take i) [e]
    have h3 := el_big g
    simp only [bigAll] at h2
    simp only [big]
    omega
/-- items left out, twice, turned round, as a list -/
theorem sub_ok {ds : List PyData} {i : Nat} {e : PyData} {B : Nat} (f : fin (.tuple ds) B = true) (h : e ∈ [PyData.tuple (ds.take i ++ ds.drop (i + 1)), .tuple (ds.take (i + 1) ++ ds.drop i), .tuple ds.reverse, .list ds]) :
    fin e (B + 1) = true ∧ e.depth ≤ (PyData.tuple ds).depth + 9 ∧ big e ≤ 2 * big (.tuple ds) + 1100 := by
  have go : ∀ es : List PyData, (∀ x ∈ es, x ∈ ds) → finAll es (B + 1) = true ∧ PyData.depthAll es ≤ PyData.depthAll ds := fun es s =>
    ⟨finAll_iff.mpr fun x hx => fin_mono (Nat.le_succ B) _ (el_ok f (s x hx)).1, depthAll_iff.mpr fun x hx => depthAll_iff.mp (Nat.le_refl _) x (s x hx)⟩
  have a1 := bigAll_app (ds.take i) (ds.drop (i + 1))
  have a2 := bigAll_app (ds.take (i + 1)) (ds.drop i)
  have b1 := bigAll_split ds i
  have b2 := bigAll_split ds (i + 1)
  have c1 := bigAll_len (ds.take i)
  have c2 := bigAll_len (ds.drop i)
  have c3 := bigAll_len (ds.take (i + 1))
  have c4 := bigAll_len (ds.drop (i + 1))
  have mono : bigAll (ds.drop (i + 1)) ≤ bigAll (ds.drop i) := by
    cases g : ds[i]? with
    | some d =>
      rw [drop_at g]
      simp only [bigAll]
      omega
    | none =>
      have := List.getElem?_eq_none_iff.mp g
      rw [List.drop_eq_nil_of_le this, List.drop_eq_nil_of_le (by omega)]
      exact Nat.le_refl _
  simp only [List.mem_cons, List.not_mem_nil, or_false] at h
  rcases h with rfl | rfl | rfl | rfl
  · obtain ⟨g1, g2⟩ := go (ds.take i ++ ds.drop (i + 1)) fun x hx => (List.mem_append.mp hx).elim List.mem_of_mem_take List.mem_of_mem_drop
    refine ⟨by simpa only [fin] using g1, by rw [depth_tup, depth_tup]; omega, by simp only [big]; omega⟩
  · obtain ⟨g1, g2⟩ := go (ds.take (i + 1) ++ ds.drop i) fun x hx => (List.mem_append.mp hx).elim List.mem_of_mem_take List.mem_of_mem_drop
    refine ⟨by simpa only [fin] using g1, by rw [depth_tup, depth_tup]; omega, by simp only [big]; omega⟩
  · obtain ⟨g1, g2⟩ := go ds.reverse fun x hx => List.mem_reverse.mp hx
    refine ⟨by simpa only [fin] using g1, by rw [depth_tup, depth_tup]; omega, by simp only [big, bigAll_rev]; omega⟩
  · obtain ⟨g1, g2⟩ := go ds fun x hx => hx
    refine ⟨by simpa only [fin] using g1, by rw [depth_tup, depth_lst]; omega, by simp only [big]; omega⟩
/-- what an int is bent to -/
theorem int_ok {i : Int} {e : PyData} {B : Nat} (f : fin (.int i) B = true) (hB : 10 ^ 17 ≤ B) (hC : B ≤ 10 ^ 19)
    (h : e ∈ [PyData.int (i + 1), .int (i - 1), .int (1 - i), .bool (decide (V.int i = V.int 1)), .str (Str.ofString (toString i)), .tuple [.int i], .none, .int 64, .int 65]) :
    fin e (B + 1) = true ∧ e.depth ≤ (PyData.int i).depth + 9 ∧ big e ≤ 2 * big (.int i) + 1100 := by
  have hi : i.natAbs ≤ B := by simpa only [fin, decide_eq_true_eq] using f
  have bi : big (.int i) = 70 := rfl
  have dz : ∀ j : Int, (PyData.int j).depth = 0 := fun j => by simp only [PyData.depth]
  have fi : ∀ j : Int, j.natAbs ≤ B + 1 → fin (.int j) (B + 1) = true := fun j hj => by simpa only [fin, decide_eq_true_eq] using hj
  simp only [List.mem_cons, List.not_mem_nil, or_false] at h
  rcases h with rfl | rfl | rfl | rfl | rfl | rfl | rfl | rfl | rfl
  · exact ⟨fi _ (by omega), by rw [dz]; omega, by simp only [big]; omega⟩
  · exact ⟨fi _ (by omega), by rw [dz]; omega, by simp only [big]; omega⟩
  · exact ⟨fi _ (by omega), by rw [dz]; omega, by simp only [big]; omega⟩
  · exact ⟨rfl, by simp only [PyData.depth]; omega, by simp only [big]; omega⟩
  · refine ⟨fin_mono (Nat.zero_le _) _ (int_cps i), by simp only [PyData.depth]; omega, ?_⟩
    have h1 := int_len20 (c := i) (by omega)
    have h2 : (Str.ofString (toString i)).cps.size ≤ 21 := h1
    simp only [big]
    omega
  · refine ⟨by simp only [fin, finAll, Bool.and_true]; exact fi i (by omega), by rw [depth_tup]; simp only [PyData.depthAll, dz]; omega, by simp only [big, bigAll]; omega⟩
  · exact ⟨rfl, by simp only [PyData.depth]; omega, by simp only [big]; omega⟩
  · exact ⟨fi _ (by omega), by rw [dz]; omega, by simp only [big]; omega⟩
  · exact ⟨fi _ (by omega), by rw [dz]; omega, by simp only [big]; omega⟩
end Gk
namespace Gk
open PySem PySem.Spec PyProof.Rows L2
theorem stands_box {m : Nat} {H : Hp} {b : Addr} (h : Box m H b) : Stands (fun a => a = b) H := by
  rintro a rfl
  obtain ⟨x, y, z, e, _⟩ := h
  exact ⟨_, e⟩
theorem Stands.but {M : Addr → Prop} {H H' : Hp} {b : Addr} {m : Nat} (h : Stands M H) (bt : But b H H') (bx : Box m H' b) : Stands M H' := fun a ma => by
  by_cases e : a = b
  · subst e
    obtain ⟨x, y, z, e, _⟩ := bx
    exact ⟨_, e⟩
  · obtain ⟨o, eo⟩ := h a ma
    exact ⟨o, bt a o e eo⟩
theorem Stands.or {M : Addr → Prop} {H : Hp} {p : Addr} {o : HO} (h : Stands M H) (e : H p = some o) : Stands (fun a => M a ∨ a = p) H := fun a ma => ma.elim (h a) fun z => ⟨o, by rw [z]; exact e⟩
/-- what M speaks of are lists -/
def Lists (M : Addr → Prop) (H : Hp) : Prop := ∀ a, M a → ∃ xs, H a = some (.lst xs)
theorem Lists.not {M : Addr → Prop} {K : PySem.W.Frag} {H : Hp} {a : Addr} {xs : List V} (h : Lists M H) (r : Rd H a (.tup xs)) : ¬ M a := fun m => by
  obtain ⟨ys, e⟩ := h a m
  rcases r with r | ⟨o, r⟩ <;> rw [e] at r <;> cases r
mutual
/-- tuples wherever they stand, as data -/
theorem dv_dp {M : Addr → Prop} {K : PySem.W.Frag} {H : Hp} (l : Lists M H) : ∀ (d : PyData) (v : V), tups d = true → Dp K H v d → Dv M K H v d
  | .none, _, _, h => by cases h; exact .non
  | .bool _, _, _, h => by cases h; exact .bl _
  | .int _, _, _, h => by cases h; exact .int _
  | .str _, _, _, h => by cases h; exact .str _
  | .list _, _, t, _ => by simp [tups] at t
  | .dict _, _, t, _ => by simp [tups] at t
  | .tuple ds, _, t, h => by
    cases h with
    | tup hs r =>
      have r' := dv_dpAll l ds _ (by simpa only [tups] using t) r
      rcases hs with hs | hs
      · exact .tup hs (l.not (K := K) hs) r'
      · exact .tupK hs r'
theorem dv_dpAll {M : Addr → Prop} {K : PySem.W.Frag} {H : Hp} (l : Lists M H) : ∀ (ds : List PyData) (vs : List V), tupsAll ds = true → DpAll K H vs ds → DvAll M K H vs ds
  | [], _, _, h => by cases h; exact .nil
  | d :: ds, _, t, h => by
    simp only [tupsAll, Bool.and_eq_true] at t
    cases h with
    | cons h1 h2 => exact .cons (dv_dp l d _ t.1 h1) (dv_dpAll l ds _ t.2 h2)
end
end Gk
namespace Gk
open PySem PySem.Spec PyProof.Rows L2
/-! ### texts compared with any data -/
section low
open PySem.SeqAt PySem.MeetsSeq PySem.AutoSeq1
variable {A : Around} {s : Shared}
theorem dictEqText (l : Addr) (dd : Option Addr) (data : Data) (sl : Array (Option Value)) (z : Str) (t : Tok) :
    Meets (Builtin.«dict.__eq__» ⟨[.ref l, .str z t], []⟩) (fun _ R s => s.heap.get? l = some { cls := .type "dict", dict := dd, data := data, slots := sl } ∧ R (.ok (.ret .notImplemented)) s) :=
  .of_wp fun prog w A R s h => by
    obtain ⟨hp, g, d, tk, os⟩ := s
    obtain ⟨here, h⟩ := h
    have no := PySem.F.sub_str_dict
    wp_walk using wpAny_load here
    exact ⟨_, rfl, h⟩
theorem textEqDict (l : Addr) (c : Value) (dd : Option Addr) (es : Array DictEntry) (ep : Nat) (sl : Array (Option Value)) (z : Str) (t : Tok) :
    Meets (Builtin.«str.__eq__» ⟨[.str z t, .ref l], []⟩) (fun _ R s => s.heap.get? l = some { cls := c, dict := dd, data := .dict es ep, slots := sl } ∧ R (.ok (.ret .notImplemented)) s) :=
  .of_wp fun prog w A R s h => by
    obtain ⟨hp, g, d, tk, os⟩ := s
    obtain ⟨here, h⟩ := h
    wp_walk using wpAny_loadPart' here, wpAny_load here
    exact ⟨_, rfl, h⟩
theorem rcDictText {l : Addr} {o : Obj} (z : Str) (t : Tok) (here : s.heap.get? l = some o) (c : o.cls = .type "dict" ∧ ∃ es ep, o.data = .dict es ep) (room : A.units < cLine) : RcAt A s (.ref l) (.str z t) false := fun prog w E Q done => by
  obtain ⟨cls, dd, data, sl⟩ := o
  obtain ⟨c, es, ep, e⟩ := c
  have c : cls = .type "dict" := c
  have e : data = .dict es ep := e
  subst c e
  have one : ∀ Q' : Value → Shared → Prop, Q' .notImplemented s → wpAny (model prog w) A (call (.builtin "dict.__eq__") [.ref l, .str z t]) Q' E s := fun Q' hq =>
    call_meets PySem.F.slot_dict_eq ⟨_, here, rfl⟩ PySem.F.entry_dict_eq (PySem.F.args_dict_eq_2 _ _) (dictEqText l dd _ sl z t) ⟨here, hq⟩
  have two : ∀ Q' : Value → Shared → Prop, Q' .notImplemented s → wpAny (model prog w) A (call (.builtin "str.__eq__") [.str z t, .ref l]) Q' E s := fun Q' hq =>
    call_meets PySem.F.slot_str_eq_refl (typeIs_str s z t) PySem.F.entry_str_eq (PySem.F.args_str_eq_2 _ _) (textEqDict l (.type "dict") dd es ep sl z t) ⟨here, hq⟩
  refine rc_eq_decline_or (k := false) ⟨_, here, rfl⟩ (typeIs_str s z t) ?_ PySem.F.sub_str_dict PySem.F.slot_dict_eq PySem.F.slot_str_eq_refl one two ?_ (.inr room) done
  · decide
  · exact fun Q' hq => wpAny_of_eq (rfl : isSame (.ref l) (.str z t) = pure false) hq
theorem rcTextDict {l : Addr} {o : Obj} (z : Str) (t : Tok) (here : s.heap.get? l = some o) (c : o.cls = .type "dict" ∧ ∃ es ep, o.data = .dict es ep) (room : A.units < cLine) : RcAt A s (.str z t) (.ref l) false := fun prog w E Q done => by
  obtain ⟨cls, dd, data, sl⟩ := o
  obtain ⟨c, es, ep, e⟩ := c
  have c : cls = .type "dict" := c
  have e : data = .dict es ep := e
  subst c e
  have one : ∀ Q' : Value → Shared → Prop, Q' .notImplemented s → wpAny (model prog w) A (call (.builtin "str.__eq__") [.str z t, .ref l]) Q' E s := fun Q' hq =>
    call_meets PySem.F.slot_str_eq (typeIs_str s z t) PySem.F.entry_str_eq (PySem.F.args_str_eq_2 _ _) (textEqDict l (.type "dict") dd es ep sl z t) ⟨here, hq⟩
  have two : ∀ Q' : Value → Shared → Prop, Q' .notImplemented s → wpAny (model prog w) A (call (.builtin "dict.__eq__") [.ref l, .str z t]) Q' E s := fun Q' hq =>
    call_meets PySem.F.slot_dict_eq_refl ⟨_, here, rfl⟩ PySem.F.entry_dict_eq (PySem.F.args_dict_eq_2 _ _) (dictEqText l dd _ sl z t) ⟨here, hq⟩
  refine rc_eq_decline_or (k := false) (typeIs_str s z t) ⟨_, here, rfl⟩ ?_ PySem.F.sub_dict_str PySem.F.slot_str_eq PySem.F.slot_dict_eq_refl one two ?_ (.inr room) done
  · decide
  · exact fun Q' hq => wpAny_of_eq (rfl : isSame (.str z t) (.ref l) = pure false) hq
theorem eqTextDict {l : Addr} {o : Obj} (z : Str) (t : Tok) (here : s.heap.get? l = some o) (c : o.cls = .type "dict" ∧ ∃ es ep, o.data = .dict es ep) (room : A.units < cLine) : EqAt A s (.str z t) (.ref l) false := fun prog w E Q done => by
  unfold eqBool
  refine wpAny_holding (wpAny_ite_split (fun same => nomatch eq_of_beq same) (fun _ => wpAny_bind ?_))
  exact rcTextDict z t here c room prog w E _ (wpAny_truthy_bool done)
/-- whether data is just this text -/
def isTxt (z : Str) : PyData → Bool
  | .str t => t == z
  | _ => false
def isTxt' (z : Str) : PyData → Bool
  | .str t => z == t
  | _ => false
theorem isTxt_flip (z : Str) (d : PyData) : isTxt' z d = isTxt z d := by
  cases d <;> try rfl
  exact Bool.eq_iff_iff.mpr ⟨fun h => beq_iff_eq.mpr (beq_iff_eq.mp h).symm, fun h => beq_iff_eq.mpr (beq_iff_eq.mp h).symm⟩
end low
section
variable {X : Cx} {pins : List (Addr × Obj)} {σ : L2.St} {H : Hp} {s : Shared}
open PySem.SeqAt
theorem dct_here {a : Addr} {kvs : List (Key × V)} (I : Inv X pins σ H s) (h : H a = some (.dK kvs)) : ∃ o, s.heap.get? a = some o ∧ o.cls = .type "dict" ∧ ∃ es ep, o.data = .dict es ep := by
  obtain ⟨_, _, vs, _, o, es, ep, h1, h2, h3, _⟩ := (show ObjOk X.prog X.w H s.heap a (.dK kvs) from I.hok a _ h)
  exact ⟨o, h1, h2.1, es, ep, h3⟩
theorem lst_here {a : Addr} {xs : List V} (I : Inv X pins σ H s) (h : SqL X.K H a xs) : ∃ its, s.heap.IsList a its := by
  obtain ⟨its, _, p, _⟩ := I.list h
  exact ⟨_, p.isList⟩
theorem tup_here {a : Addr} {xs : List V} (I : Inv X pins σ H s) (h : SqT X.K H a xs) : ∃ its, s.heap.IsTuple a its := by
  obtain ⟨its, _, p, _⟩ := I.tuple h
  obtain ⟨o, ho, hc, n, hd⟩ := p
  exact ⟨_, _, ho, hc, n, hd⟩
theorem rc_txt {M : Addr → Prop} {A : Around} {x : V} {v : Value} {d : PyData} (I : Inv X pins σ H s) (hx : Dv M X.K H x d) (rx : RelV x v) (z : Str) (t : Tok) (room : A.units < cLine) : RcAt A s v (.str z t) (isTxt z d) := by
  cases hx with
  | non => cases rx; exact RcAt.none_str _ _
  | bl b => cases rx; exact RcAt.bool_str _ _ _
  | int i => obtain ⟨u, rfl⟩ := rx; exact RcAt.int_str _ _ _ _
  | str y => obtain ⟨u, rfl⟩ := rx; exact RcAt.str_str _ _ _ _
  | lst h _ _ _ =>
    cases rx
    obtain ⟨its, g⟩ := lst_here I (SqL.of h)
    exact RcAt.list_str _ _ g room
  | tup h n r =>
    cases rx
    obtain ⟨its, g⟩ := tup_here I (.inl h)
    exact RcAt.tuple_str _ _ g room
  | tupK h r =>
    cases rx
    obtain ⟨its, g⟩ := tup_here I (.inr h)
    exact RcAt.tuple_str _ _ g room
  | dct h _ _ _ _ =>
    cases rx
    obtain ⟨o, g, c⟩ := dct_here I h
    exact rcDictText _ _ g c room
theorem eq_txt {M : Addr → Prop} {A : Around} {x : V} {v : Value} {d : PyData} (I : Inv X pins σ H s) (hx : Dv M X.K H x d) (rx : RelV x v) (z : Str) (t : Tok) (room : A.units < cLine) : EqAt A s (.str z t) v (isTxt' z d) := by
  cases hx with
  | non => cases rx; exact EqAt.str_none _ _
  | bl b => cases rx; exact EqAt.str_bool _ _ _
  | int i => obtain ⟨u, rfl⟩ := rx; exact EqAt.str_int _ _ _ _
  | str y => obtain ⟨u, rfl⟩ := rx; exact EqAt.str_str _ _ _ _
  | lst h _ _ _ =>
    cases rx
    obtain ⟨its, g⟩ := lst_here I (SqL.of h)
    exact EqAt.str_list _ _ g room
  | tup h n r =>
    cases rx
    obtain ⟨its, g⟩ := tup_here I (.inl h)
    exact EqAt.str_tuple _ _ g room
  | tupK h r =>
    cases rx
    obtain ⟨its, g⟩ := tup_here I (.inr h)
    exact EqAt.str_tuple _ _ g room
  | dct h _ _ _ _ =>
    cases rx
    obtain ⟨o, g, c⟩ := dct_here I h
    exact eqTextDict _ _ g c room
end
/-! the operators -/
def rEqTxt (K : PySem.W.Frag) : R2 := fun x y H Q => ∃ (M : Addr → Prop) (d : PyData) (z : Str), Dv M K H x d ∧ y = .str z ∧ Q (.bl (isTxt z d)) H
theorem op_eqTxt {X : Cx} (hu : X.A.units < cLine) : OpR X (compareOp .Eq) (rEqTxt X.K) := by
  intro pins s σ H x y v u Q I rx ry h
  obtain ⟨M, d, z, hd, rfl, q⟩ := h
  obtain ⟨t, rfl⟩ := ry
  exact rc_txt I hd rx z t hu X.prog X.w X.xe (EP X pins σ Q) ⟨.bl _, H, I, rfl, q⟩
def rInTxt (K : PySem.W.Frag) : R2 := fun x y H Q => ∃ (M : Addr → Prop) (d : PyData) (a : Addr) (zs : List Str), Dv M K H x d ∧ y = .ref a ∧ SqT K H a (zs.map V.str) ∧ Q (.bl (zs.any fun z => isTxt z d)) H
theorem any_txt {zs : List Str} : ∀ {its : List Value}, Vals (zs.map V.str) its → ∀ d : PyData, (its.toArray.any fun y => match y with | .str z _ => isTxt' z d | _ => false) = zs.any fun z => isTxt z d := by
  induction zs with
  | nil => intro its h d; cases h; simp
  | cons z zs ih =>
    intro its h d
    cases h with
    | cons h t =>
      obtain ⟨u, rfl⟩ := h
      have := ih t d
      simp only [List.any_toArray, List.any_cons] at this ⊢
      rw [this, isTxt_flip]
theorem vals_str {zs : List Str} : ∀ {its : List Value}, Vals (zs.map V.str) its → ∀ y ∈ its, ∃ z t, y = Value.str z t := by
  induction zs with
  | nil => intro its h y hy; cases h; cases hy
  | cons z zs ih =>
    intro its h y hy
    cases h with
    | cons h t =>
      obtain ⟨u, rfl⟩ := h
      rcases List.mem_cons.mp hy with e | hy
      · exact ⟨z, u, e⟩
      · exact ih t y hy
theorem op_inTxt {X : Cx} (hu : X.A.units + 1 < cLine) : OpR X (compareOp .In) (rInTxt X.K) := by
  intro pins s σ H x y v u Q I rx ry h
  obtain ⟨M, d, a, zs, hd, rfl, ha, q⟩ := h
  cases ry
  obtain ⟨its, r, p, _⟩ := I.tuple ha
  obtain ⟨o, ho, hc, n, hdt⟩ := p
  have seen : ∀ y, y ∈ its.toArray → ∃ z t, y = Value.str z t := fun y hy => vals_str r y (by simpa using hy)
  refine SeqAt.in_tupleAt (fun y => match y with | .str z _ => isTxt' z d | _ => false) ⟨o, ho, hc, n, hdt⟩ (fun y hy => ?_) ⟨.bl _, H, I, ?_, q⟩
  · obtain ⟨z, t, rfl⟩ := seen y hy
    exact eq_txt I hd rx z t hu
  · show Value.bool _ = Value.bool _
    rw [any_txt r d]
end Gk
namespace Pf
open PySem PySem.Spec PyProof.Rows L2 Gk RZ
theorem boot_isi : bootBuiltins "isinstance" = some (.builtin "isinstance") := by decide +kernel
theorem boot_tup : bootBuiltins "tuple" = some (.type "tuple") := by decide +kernel
theorem boot_int' : bootBuiltins "int" = some (.type "int") := by decide +kernel
theorem boot_boo : bootBuiltins "bool" = some (.type "bool") := by decide +kernel
def isInt (lo hi : Int) : PyData → Bool
  | .int i => decide (lo ≤ i) && decide (i ≤ hi)
  | _ => false
def isSized (lo hi : Int) : PyData → Bool
  | .tuple ds => decide (lo ≤ (ds.length : Int)) && decide ((ds.length : Int) ≤ hi)
  | _ => false
def spLook (K : PySem.W.Frag) (p : PyData → Bool) : Sp := fun vs H Q _ => ∃ (M : Addr → Prop) (x : V) (d : PyData), vs = [x] ∧ Dv M K H x d ∧ big d ≤ 10000000 ∧ ∀ H', Same H H' → Q (.bl (p d)) H'
theorem sized_tup {lo hi : Int} {d : PyData} (c : isSized lo hi d = true) : ∃ ds, d = .tuple ds ∧ lo ≤ (ds.length : Int) ∧ (ds.length : Int) ≤ hi := by
  cases d with
  | tuple ds =>
    have c : (decide (lo ≤ (ds.length : Int)) && decide ((ds.length : Int) ≤ hi)) = true := c
    simp only [Bool.and_eq_true, decide_eq_true_eq] at c
    exact ⟨ds, rfl, c⟩
  | _ => exact absurd c Bool.false_ne_true
theorem isiV_go {M : Addr → Prop} {K : PySem.W.Frag} {H : Hp} {x : V} {d : PyData} {σ : L2.St} {i : Nat} {n : String} {r : Bool} {Q : VK} (h : Dv M K H x d) (e : σ[i]? = some (some x)) (k : PySem.W.kitOne K (tyD d) (.type n) = some r) (q : Q (.bl r) H) :
    tCB (rIsi K) (tCons (tVar i) (tCons (tC (.ty n)) tNil)) σ H Q := ⟨x, e, x, .ty n, tyD d, .type n, r, rfl, .ty n, h.ty, k, q⟩
def spWithin (K : PySem.W.Frag) : Sp := fun vs H Q _ => ∃ (M : Addr → Prop) (x : V) (d : PyData) (lo hi : Int), vs = [x, .int lo, .int hi] ∧ Dv M K H x d ∧ Q (.bl (isInt lo hi d)) H
def spLook0 (K : PySem.W.Frag) (p : PyData → Bool) : Sp := fun vs H Q _ => ∃ (M : Addr → Prop) (x : V) (d : PyData), vs = [x] ∧ Dv M K H x d ∧ Q (.bl (p d)) H
def spSized (K : PySem.W.Frag) : Sp := fun vs H Q _ => ∃ (M : Addr → Prop) (x : V) (d : PyData) (lo hi : Int), vs = [x, .int lo, .int hi] ∧ Dv M K H x d ∧ Q (.bl (isSized lo hi d)) H
section
variable {P : Program} {w : World} {K : PySem.W.Frag} {mg : Str → Option Value} {base : Heap}
abbrev sInteger : Stmt := topS 19
theorem scInteger : FnScope ["value"] ["value"] (defScope sInteger) := ⟨rfl, rfl, rfl, by decide +kernel, rfl, by decide +kernel, by decide +kernel⟩
def isIntegerD : PyData → Bool
  | .int _ => true
  | _ => false
def spInteger (K : PySem.W.Frag) : Sp := fun vs H Q _ => ∃ (M : Addr → Prop) (x : V) (d : PyData), vs = [x] ∧ Dv M K H x d ∧ Q (.bl (isIntegerD d)) H
theorem ok_integer {f : Addr} {fd : FuncData} (mi : mg "isinstance" = none) (mn : mg "int" = none) (mb : mg "bool" = none) (F : L2.Fun K "is_integer" "is_integer" sInteger f fd) : FnOk P w K mg base L2.CX0 1 f fd ["value"] (spInteger K) := by
  refine F.ok scInteger (fun vs H Q E h => ?_) (fun cdv A outer s H vs Q E hr h => ?_)
  · obtain ⟨M, x, d, rfl, _⟩ := h
    rfl
  · obtain ⟨M, x, d, rfl, dv, q⟩ := h
    refine ⟨_, pss_one (ps_ret (pe_and (pe_isi (by rfl) mi (pv 0) (by rfl) mn boot_int') (pe_one (pe_not (pe_isi (by rfl) mi (pv 0) (by rfl) mb boot_boo))))), ?_⟩
    refine isiV_go dv rfl (kit_int d) ⟨_, rfl, ite2 (fun c => ?_) (fun c => ?_)⟩
    · refine isiV_go dv rfl (kit_bool d) ⟨_, rfl, ?_⟩
      cases d with
      | int i => exact q
      | bool _ => exact q
      | _ => exact absurd c Bool.false_ne_true
    · have : isIntegerD d = false := by cases d <;> first | rfl | exact absurd rfl c
      rwa [this] at q
abbrev sWithin : Stmt := topS 20
theorem scWithin : FnScope ["value", "low", "high"] ["value", "low", "high"] (defScope sWithin) := ⟨rfl, rfl, rfl, by decide +kernel, rfl, by decide +kernel, by decide +kernel⟩
theorem ok_within {f : Addr} {fd : FuncData} (DI : Dfn P w K mg base 1 "is_integer" ["value"] (spInteger K)) (F : L2.Fun K "is_within" "is_within" sWithin f fd) : FnOk P w K mg base L2.CX0 2 f fd ["value", "low", "high"] (spWithin K) := by
  refine F.ok scWithin (fun vs H Q E h => ?_) (fun cdv A outer s H vs Q E hr h => ?_)
  · obtain ⟨M, x, d, lo, hi, rfl, _⟩ := h
    rfl
  · obtain ⟨M, x, d, lo, hi, rfl, dv, q⟩ := h
    refine ⟨_, pss_one (ps_ret (pe_and (pe_d DI hr (by decide) (by rfl) (pa_cons (pv 0) pa_nil)) (pe_one (pe_chain op_le op_le (pv 1) (pv 0) (pv 2))))), ?_⟩
    refine ⟨x, rfl, M, x, d, rfl, dv, _, rfl, ite2 (fun c => ?_) (fun c => ?_)⟩
    · obtain ⟨i, rfl⟩ : ∃ i, d = .int i := by
        cases d with
        | int i => exact ⟨i, rfl⟩
        | _ => exact absurd c Bool.false_ne_true
      cases dv
      refine ⟨.int lo, rfl, .int i, rfl, lo, i, rfl, rfl, _, rfl, ite2 (fun e => ?_) (fun e => ?_)⟩
      · refine ⟨.int hi, rfl, i, hi, rfl, rfl, ?_⟩
        have : isInt lo hi (.int i) = decide (i ≤ hi) := by
          show (decide (lo ≤ i) && decide (i ≤ hi)) = _
          rw [e, Bool.true_and]
        rwa [this] at q
      · have : isInt lo hi (.int i) = false := by
          show (decide (lo ≤ i) && decide (i ≤ hi)) = _
          rw [Bool.eq_false_iff.mpr e, Bool.false_and]
        rwa [this] at q
    · have : isInt lo hi d = false := by cases d <;> first | rfl | exact absurd rfl c
      rwa [this] at q
abbrev sSized : Stmt := topS 23
theorem scSized : FnScope ["value", "least", "most"] ["value", "least", "most"] (defScope sSized) := ⟨rfl, rfl, rfl, by decide +kernel, rfl, by decide +kernel, by decide +kernel⟩
theorem ok_sized {f : Addr} {fd : FuncData} (ml : mg "len" = none) (mi : mg "isinstance" = none) (mt : mg "tuple" = none) (F : L2.Fun K "is_tuple_sized" "is_tuple_sized" sSized f fd) : FnOk P w K mg base L2.CX0 1 f fd ["value", "least", "most"] (spSized K) := by
  refine F.ok scSized (fun vs H Q E h => ?_) (fun cdv A outer s H vs Q E hr h => ?_)
  · obtain ⟨M, x, d, lo, hi, rfl, _⟩ := h
    rfl
  · obtain ⟨M, x, d, lo, hi, rfl, dv, q⟩ := h
    refine ⟨_, pss_one (ps_ret (pe_and (pe_isi (by rfl) mi (pv 0) (by rfl) mt boot_tup) (pe_one (pe_chain op_le op_le (pv 1) (pe_callB (call_lenK K) (by rfl) ml PySem.boot_len (pa_cons (pv 0) pa_nil)) (pv 2))))), ?_⟩
    refine isiV_go dv rfl (kit_tup d) ⟨_, rfl, ite2 (fun c => ?_) (fun c => ?_)⟩
    · obtain ⟨ds, rfl⟩ : ∃ ds, d = .tuple ds := by cases d <;> first | exact ⟨_, rfl⟩ | exact absurd c Bool.false_ne_true
      obtain ⟨a, xs, rfl, ha, na, da⟩ := tup_of dv
      have ll := da.len
      refine ⟨.int lo, rfl, .ref a, rfl, a, xs, rfl, .inr (ha), lo, xs.length, rfl, rfl, _, rfl, ite2 (fun e => ?_) (fun e => ?_)⟩
      · refine ⟨.int hi, rfl, xs.length, hi, rfl, rfl, ?_⟩
        have : isSized lo hi (.tuple ds) = decide ((xs.length : Int) ≤ hi) := by
          show (decide (lo ≤ (ds.length : Int)) && decide ((ds.length : Int) ≤ hi)) = _
          rw [← ll, e, Bool.true_and]
        rwa [this] at q
      · have : isSized lo hi (.tuple ds) = false := by
          show (decide (lo ≤ (ds.length : Int)) && decide ((ds.length : Int) ≤ hi)) = _
          rw [← ll, Bool.eq_false_iff.mpr e, Bool.false_and]
        rwa [this] at q
    · have : isSized lo hi d = false := by cases d <;> first | rfl | exact absurd rfl c
      rwa [this] at q
end
def isPairD : PyData → Bool
  | .tuple [a, b] => isInt 0 7 a && isInt 0 1 b
  | _ => false
def isTraceD : PyData → Bool
  | .tuple ds => decide (1 ≤ ds.length) && decide (ds.length ≤ 64) && ds.all isPairD
  | _ => false
def isRowD : PyData → Bool
  | .tuple ds => decide (1 ≤ ds.length) && decide (ds.length ≤ 64) && ds.all (isInt 0 1)
  | _ => false
section
variable {P : Program} {w : World} {K : PySem.W.Frag} {mg : Str → Option Value} {base : Heap}
abbrev sOutcome : Stmt := topS 22
theorem scOutcome : FnScope ["value"] ["value"] (defScope sOutcome) := ⟨rfl, rfl, rfl, by decide +kernel, rfl, by decide +kernel, by decide +kernel⟩
theorem ok_outcome {f : Addr} {fd : FuncData} (DW : Dfn P w K mg base 2 "is_within" ["value", "low", "high"] (spWithin K)) (F : L2.Fun K "is_outcome" "is_outcome" sOutcome f fd) : FnOk P w K mg base L2.CX0 3 f fd ["value"] (spLook0 K (isInt 0 1)) := by
  refine F.ok scOutcome (fun vs H Q E h => ?_) (fun cdv A outer s H vs Q E hr h => ?_)
  · obtain ⟨M, x, d, rfl, _⟩ := h
    rfl
  · obtain ⟨M, x, d, rfl, dv, q⟩ := h
    refine ⟨_, pss_one (ps_ret (pe_d DW hr (by decide) (by rfl) (pa_cons (pv 0) (pa_cons pe_int (pa_cons pe_int pa_nil))))), ?_⟩
    exact ⟨x, rfl, M, x, d, 0, 1, rfl, dv, q⟩
abbrev sBranch : Stmt := topS 21
theorem scBranch : FnScope ["value"] ["value"] (defScope sBranch) := ⟨rfl, rfl, rfl, by decide +kernel, rfl, by decide +kernel, by decide +kernel⟩
theorem ok_branch {f : Addr} {fd : FuncData} (DW : Dfn P w K mg base 2 "is_within" ["value", "low", "high"] (spWithin K)) (cL : ∃ u, mg "LAST_BRANCH" = some u ∧ RelV (.int 7) u) (F : L2.Fun K "is_branch" "is_branch" sBranch f fd) : FnOk P w K mg base L2.CX0 3 f fd ["value"] (spLook0 K (isInt 0 7)) := by
  refine F.ok scBranch (fun vs H Q E h => ?_) (fun cdv A outer s H vs Q E hr h => ?_)
  · obtain ⟨M, x, d, rfl, _⟩ := h
    rfl
  · obtain ⟨M, x, d, rfl, dv, q⟩ := h
    refine ⟨_, pss_one (ps_ret (pe_d DW hr (by decide) (by rfl) (pa_cons (pv 0) (pa_cons pe_int (pa_cons (C8.pe_gc (by rfl) cL) pa_nil))))), ?_⟩
    exact ⟨x, rfl, M, x, d, 0, 7, rfl, dv, q⟩
end
theorem trace_of {ds : List PyData} (p : PyData → Bool) (a : (1 : Int) ≤ (ds.length : Int)) (b : (ds.length : Int) ≤ 64) : (decide (1 ≤ ds.length) && decide (ds.length ≤ 64) && ds.all p) = ds.all p := by
  rw [decide_eq_true (show 1 ≤ ds.length by omega), decide_eq_true (show ds.length ≤ 64 by omega)]
  simp
section
variable {P : Program} {w : World} {K : PySem.W.Frag} {mg : Str → Option Value} {base : Heap}
end
section
variable {P : Program} {w : World} {K : PySem.W.Frag} {mg : Str → Option Value} {base : Heap}
end
def wordsP : List Str := ["own", "split", "shared"]
def isWord (d : PyData) : Bool := wordsP.any fun z => isTxt z d
def isPlanD : PyData → Bool
  | .tuple [w, z] => isInt 0 64 z && isWord w
  | .tuple [w, z, t] => isInt 0 64 z && (isTxt "folded" w && isInt 0 16 t)
  | _ => false
def topOf : PyData → Int
  | .int n => 1 * 2 ^ n.toNat - 1
  | _ => 0
def isGauD : PyData → Bool
  | .tuple [n, v] => isInt 1 4 n && isInt 0 (topOf n) v
  | _ => false
theorem plan_short {d : PyData} (h : ¬ isSized 2 3 d = true) : isPlanD d = false := by
  cases d with
  | tuple ds =>
    match ds, h with
    | [], _ => rfl
    | [_], _ => rfl
    | [_, _], h => exact absurd rfl h
    | [_, _, _], h => exact absurd rfl h
    | _ :: _ :: _ :: _ :: _, _ => rfl
  | _ => rfl
theorem gau_short {d : PyData} (h : ¬ isSized 2 2 d = true) : isGauD d = false := by
  cases d with
  | tuple ds =>
    match ds, h with
    | [], _ => rfl
    | [_], _ => rfl
    | [_, _], h => exact absurd rfl h
    | _ :: _ :: _ :: _, _ => rfl
  | _ => rfl
section
variable {P : Program} {w : World} {K : PySem.W.Frag} {mg : Str → Option Value} {base : Heap}
theorem two_ofD {M : Addr → Prop} {H : Hp} {xs : List V} {ds : List PyData} (h : DvAll M K H xs ds) (l : ds.length = 2) : ∃ v0 v1 d0 d1, xs = [v0, v1] ∧ ds = [d0, d1] ∧ Dv M K H v0 d0 ∧ Dv M K H v1 d1 := by
  cases h with
  | nil => cases l
  | cons h0 t =>
    cases t with
    | nil => cases l
    | cons h1 t =>
      cases t with
      | nil => exact ⟨_, _, _, _, rfl, rfl, h0, h1⟩
      | cons _ _ => simp only [List.length_cons] at l; omega
theorem three_of {M : Addr → Prop} {H : Hp} {xs : List V} {ds : List PyData} (h : DvAll M K H xs ds) (l : ds.length = 3) : ∃ v0 v1 v2 d0 d1 d2, xs = [v0, v1, v2] ∧ ds = [d0, d1, d2] ∧ Dv M K H v0 d0 ∧ Dv M K H v1 d1 ∧ Dv M K H v2 d2 := by
  cases h with
  | nil => cases l
  | cons h0 t =>
    obtain ⟨v1, v2, d1, d2, rfl, rfl, h1, h2⟩ := two_ofD t (by simp only [List.length_cons] at l; omega)
    exact ⟨_, _, _, _, _, _, rfl, rfl, h0, h1, h2⟩
abbrev sScheme : Stmt := topS 24
abbrev sCounter : Stmt := topS 25
theorem scScheme : FnScope ["value"] ["value"] (defScope sScheme) := ⟨rfl, rfl, rfl, by decide +kernel, rfl, by decide +kernel, by decide +kernel⟩
theorem scCounter : FnScope ["value"] ["value"] (defScope sCounter) := ⟨rfl, rfl, rfl, by decide +kernel, rfl, by decide +kernel, by decide +kernel⟩
theorem ok_scheme {f : Addr} {fd : FuncData} {pw : Addr} (DS : Dfn P w K mg base 1 "is_tuple_sized" ["value", "least", "most"] (spSized K)) (DW : Dfn P w K mg base 2 "is_within" ["value", "low", "high"] (spWithin K)) (ml : mg "len" = none)
    (cM : ∃ u, mg "MOST_LENGTH" = some u ∧ RelV (.int 64) u) (cF : ∃ u, mg "MOST_FOLD_BITS" = some u ∧ RelV (.int 16) u) (cP : ∃ u, mg "PLAIN_WORDS" = some u ∧ RelV (.ref pw) u) (hP : ∀ H, SqT K H pw (wordsP.map V.str))
    (F : L2.Fun K "is_scheme" "is_scheme" sScheme f fd) : FnOk P w K mg base L2.CX0 3 f fd ["value"] (spLook K isPlanD) := by
  refine F.ok scScheme (fun vs H Q E h => ?_) (fun cdv A outer s H vs Q E hr h => ?_)
  · obtain ⟨M, x, d, rfl, _⟩ := h
    rfl
  · obtain ⟨M, x, d, rfl, dv, _, q0⟩ := h
    have q := q0 H (Same.refl H)
    refine ⟨_, pss_cons (ps_if (PW.pt (pw_or (pt_not (pt_val (pe_d DS hr (by decide) (by rfl) (pa_cons (pv 0) (pa_cons pe_int (pa_cons pe_int pa_nil)))))) (pw_or1 (pt_not (pt_val (pe_d DW hr (by decide) (by rfl) (pa_cons (pe_ix (ix_tupK K) (pv 0) pe_int (fun _ _ => rfl)) (pa_cons pe_int (pa_cons (C8.pe_gc (by rfl) cM) pa_nil)))))))))
        (pss_one (ps_ret pe_bl)) pss_nil)
      (pss_cons (ps_if (pt_cmpR op_eq (pe_callB (call_lenK K) (by rfl) ml PySem.boot_len (pa_cons (pv 0) pa_nil)) pe_int (nomark _)) (pss_one (ps_ret (pe_cmpR (op_inTxt (Nat.lt_of_le_of_lt (Nat.add_le_add_left (by decide : 1 ≤ 64) _) hr.units)) (pe_ix (ix_tupK K) (pv 0) pe_int (fun _ _ => rfl)) (C8.pe_gc (by rfl) cP) (by rfl)))) pss_nil)
      (pss_one (ps_ret (pe_and (pe_cmpR (op_eqTxt (Nat.lt_of_le_of_lt (Nat.le_add_right _ 64) hr.units)) (pe_ix (ix_tupK K) (pv 0) pe_int (fun _ _ => rfl)) pe_str (nomark _))
        (pe_one (pe_d DW hr (by decide) (by rfl) (pa_cons (pe_ix (ix_tupK K) (pv 0) pe_int (fun _ _ => rfl)) (pa_cons pe_int (pa_cons (C8.pe_gc (by rfl) cF) pa_nil))))))))), ?_⟩
    have no : isPlanD d = false → Q (.bl false) H := fun e => by rwa [e] at q
    refine ⟨x, rfl, M, x, d, 2, 3, rfl, dv, ?_⟩
    by_cases c : isSized 2 3 d = true
    · rw [c]
      obtain ⟨ds, rfl, c1, c2⟩ := sized_tup c
      obtain ⟨a, xs, rfl, ha, na, da⟩ := tup_of dv
      by_cases two : ds.length = 2
      · obtain ⟨v0, v1, d0, d1, rfl, rfl, h0, h1⟩ := two_ofD da two
        refine ⟨_, rfl, .ref a, rfl, a, _, 1, v1, rfl, rfl, ha, rfl, M, v1, d1, 0, 64, rfl, h1, ?_⟩
        by_cases e : isInt 0 64 d1 = true
        · rw [e]
          have : isPlanD (.tuple [d0, d1]) = isWord d0 := by
            show (isInt 0 64 d1 && isWord d0) = _
            rw [e, Bool.true_and]
          rw [this] at q
          exact ⟨_, rfl, .ref a, rfl, a, _, rfl, .inr ha, rfl, _, rfl, .ref a, rfl, a, _, 0, v0, rfl, rfl, ha, rfl, M, d0, pw, _, h0, rfl, hP H, q⟩
        · have e : isInt 0 64 d1 = false := by simpa using e
          rw [e]
          exact ⟨_, rfl, no (by show (isInt 0 64 d1 && isWord d0) = false; rw [e, Bool.false_and])⟩
      · obtain ⟨v0, v1, v2, d0, d1, d2, rfl, rfl, h0, h1, h2⟩ := three_of da (by omega)
        refine ⟨_, rfl, .ref a, rfl, a, _, 1, v1, rfl, rfl, ha, rfl, M, v1, d1, 0, 64, rfl, h1, ?_⟩
        by_cases e : isInt 0 64 d1 = true
        · rw [e]
          have : isPlanD (.tuple [d0, d1, d2]) = (isTxt "folded" d0 && isInt 0 16 d2) := by
            show (isInt 0 64 d1 && (isTxt "folded" d0 && isInt 0 16 d2)) = _
            rw [e, Bool.true_and]
          rw [this] at q
          refine ⟨_, rfl, .ref a, rfl, a, _, rfl, .inr ha, rfl, _, rfl, .ref a, rfl, a, _, 0, v0, rfl, rfl, ha, rfl, M, d0, _, h0, rfl, ?_⟩
          by_cases g : isTxt "folded" d0 = true
          · rw [g] at q ⊢
            exact ⟨_, rfl, .ref a, rfl, a, _, 2, v2, rfl, rfl, ha, rfl, M, v2, d2, 0, 16, rfl, h2, q⟩
          · have g : isTxt "folded" d0 = false := by simpa using g
            rw [g] at q ⊢
            exact ⟨_, rfl, q⟩
        · have e : isInt 0 64 d1 = false := by simpa using e
          rw [e]
          exact ⟨_, rfl, no (by show (isInt 0 64 d1 && (isTxt "folded" d0 && isInt 0 16 d2)) = false; rw [e, Bool.false_and])⟩
    · have c' : isSized 2 3 d = false := by simpa using c
      rw [c']
      exact ⟨_, rfl, no (plan_short c)⟩
theorem ok_counter {f : Addr} {fd : FuncData} (DS : Dfn P w K mg base 1 "is_tuple_sized" ["value", "least", "most"] (spSized K)) (DW : Dfn P w K mg base 2 "is_within" ["value", "low", "high"] (spWithin K))
    (cM : ∃ u, mg "MOST_COUNTER_BITS" = some u ∧ RelV (.int 4) u) (F : L2.Fun K "is_counter" "is_counter" sCounter f fd) : FnOk P w K mg base L2.CX0 3 f fd ["value"] (spLook K isGauD) := by
  refine F.ok scCounter (fun vs H Q E h => ?_) (fun cdv A outer s H vs Q E hr h => ?_)
  · obtain ⟨M, x, d, rfl, _⟩ := h
    rfl
  · obtain ⟨M, x, d, rfl, dv, _, q0⟩ := h
    have q := q0 H (Same.refl H)
    refine ⟨_, pss_cons (ps_if (PW.pt (pw_or (pt_not (pt_val (pe_d DS hr (by decide) (by rfl) (pa_cons (pv 0) (pa_cons pe_int (pa_cons pe_int pa_nil)))))) (pw_or1 (pt_not (pt_val (pe_d DW hr (by decide) (by rfl) (pa_cons (pe_ix (ix_tupK K) (pv 0) pe_int (fun _ _ => rfl)) (pa_cons pe_int (pa_cons (C8.pe_gc (by rfl) cM) pa_nil)))))))))
        (pss_one (ps_ret pe_bl)) pss_nil)
      (pss_one (ps_ret (pe_d DW hr (by decide) (by rfl) (pa_cons (pe_ix (ix_tupK K) (pv 0) pe_int (fun _ _ => rfl)) (pa_cons pe_int (pa_cons (pe_op op_sub (pe_op op_shl pe_int (pe_ix (ix_tupK K) (pv 0) pe_int (fun _ _ => rfl))) pe_int) pa_nil)))))), ?_⟩
    have no : isGauD d = false → Q (.bl false) H := fun e => by rwa [e] at q
    refine ⟨x, rfl, M, x, d, 2, 2, rfl, dv, ?_⟩
    by_cases c : isSized 2 2 d = true
    · rw [c]
      obtain ⟨ds, rfl, c1, c2⟩ := sized_tup c
      obtain ⟨a, xs, rfl, ha, na, da⟩ := tup_of dv
      obtain ⟨v0, v1, d0, d1, rfl, rfl, h0, h1⟩ := two_ofD da (by omega)
      refine ⟨_, rfl, .ref a, rfl, a, _, 0, v0, rfl, rfl, ha, rfl, M, v0, d0, 1, 4, rfl, h0, ?_⟩
      by_cases e : isInt 1 4 d0 = true
      · rw [e]
        have : isGauD (.tuple [d0, d1]) = isInt 0 (topOf d0) d1 := by
          show (isInt 1 4 d0 && isInt 0 (topOf d0) d1) = _
          rw [e, Bool.true_and]
        rw [this] at q
        cases d0 with
        | int n =>
          have e : (decide (1 ≤ n) && decide (n ≤ 4)) = true := e
          simp only [Bool.and_eq_true, decide_eq_true_eq] at e
          cases h0
          exact ⟨_, rfl, .ref a, rfl, a, _, 1, v1, rfl, rfl, ha, rfl, .ref a, rfl, a, _, 0, .int n, rfl, rfl, ha, rfl, _, _, rfl, rfl, ⟨by omega, by omega, by decide⟩, _, _, rfl, rfl, M, v1, d1, 0, topOf (.int n), rfl, h1, q⟩
        | _ => exact absurd e Bool.false_ne_true
      · have e : isInt 1 4 d0 = false := by simpa using e
        rw [e]
        exact ⟨_, rfl, no (by show (isInt 1 4 d0 && isInt 0 (topOf d0) d1) = false; rw [e, Bool.false_and])⟩
    · have c' : isSized 2 2 d = false := by simpa using c
      rw [c']
      exact ⟨_, rfl, no (gau_short c)⟩
end
end Pf
namespace Pf
open PySem PySem.Spec PyProof.Rows L2 Gk
/-! ### a live predictor is made -/
abbrev sPrI : Stmt := inClass (topS 37) 0
theorem scPrI : FnScope ["self", "scheme", "counter"] ["self", "scheme", "counter"] (defScope sPrI) := ⟨rfl, rfl, rfl, by decide +kernel, rfl, by decide +kernel, by decide +kernel⟩
/-- a predictor's fields -/
def prF (c g m : Addr) : List (Str × V) := [("_scheme", .ref c), ("_counter", .ref g), ("_memory", .ref m)]
theorem prF_scheme (c g m : Addr) : (prF c g m).lookup ("_scheme" : Str) = some (.ref c) := rfl
theorem prF_counter (c g m : Addr) : (prF c g m).lookup ("_counter" : Str) = some (.ref g) := rfl
theorem prF_memory (c g m : Addr) : (prF c g m).lookup ("_memory" : Str) = some (.ref m) := rfl
structure TPr (K : PySem.W.Frag) (mg : Str → Option Value) (C : Addr) : Prop where
  cl : Cls K C
  n0 : NoAttr K C "_scheme"
  n1 : NoAttr K C "_counter"
  n2 : NoAttr K C "_memory"
  mgC : mg "Predictor" = some (.ref C)
/-- a predictor and what it keeps -/
structure PrAt (P : Program) (w : World) (K : PySem.W.Frag) (CM CP : Addr) (H : Hp) (p dp c g m dx st hd cd : Addr) (k : Str) (z : Int) (x : Option Int) (wd v0 : Int) (steps : List V) (hs : Option Int → List Bool) (cs : CK → Option Int) (ks : List CK) (n : Int) (many : Nat) : Prop where
  hpr : H p = some (.ins CP dp (prF c g m))
  hsc : SqT K H c (planV k z x)
  okp : PlanOk k z x
  hga : SqT K H g [.int wd, .int v0]
  w1 : 1 ≤ wd
  w4 : wd ≤ 4
  v1 : 0 ≤ v0
  v2 : v0 ≤ top wd
  mem : MemAt P w CM k H m dx st hd cd steps hs z.toNat cs ks n many
  pm : p ≠ m
theorem dv_sq {K : PySem.W.Frag} {H : Hp} {a : Addr} {xs : List V} {ds : List PyData} (h : SqT K H a xs) (r : DvAll (fun _ => False) K H xs ds) : Dv (fun _ => False) K H (.ref a) (.tuple ds) := by
  rcases h with h | h
  · exact .tup h (fun z => z) r
  · exact .tupK h r
theorem plan_isD {k : Str} {z : Int} {x : Option Int} (ok : PlanOk k z x) : ∃ d, (∀ (K : PySem.W.Frag) (H : Hp) (c : Addr), SqT K H c (planV k z x) → Dv (fun _ => False) K H (.ref c) d) ∧ isPlanD d = true ∧ big d ≤ 10000000 := by
  obtain ⟨z0, z64, ok⟩ := ok
  have ez : isInt 0 64 (.int z) = true := by
    show (decide (0 ≤ z) && decide (z ≤ 64)) = true
    rw [decide_eq_true z0, decide_eq_true z64]
    rfl
  rcases ok with ⟨rfl, t, rfl, t0, t1⟩ | ⟨hk, rfl⟩
  · refine ⟨.tuple [.str "folded", .int z, .int t], fun K H c h => dv_sq h (.cons (.str _) (.cons (.int _) (.cons (.int _) .nil))), ?_, ?_⟩
    · show (isInt 0 64 (.int z) && (isTxt "folded" (.str "folded") && (decide (0 ≤ t) && decide (t ≤ 16)))) = true
      rw [ez, decide_eq_true t0, decide_eq_true t1]
      decide +kernel
    · simp only [big, bigAll]
      decide +kernel
  · refine ⟨.tuple [.str k, .int z], fun K H c h => dv_sq h (.cons (.str _) (.cons (.int _) .nil)), ?_, ?_⟩
    · show (isInt 0 64 (.int z) && isWord (.str k)) = true
      rw [ez]
      rcases hk with rfl | rfl | rfl <;> decide +kernel
    · rcases hk with rfl | rfl | rfl <;> simp only [big, bigAll] <;> decide +kernel
theorem gau_isD {wd v0 : Int} (w1 : 1 ≤ wd) (w4 : wd ≤ 4) (v1 : 0 ≤ v0) (v2 : v0 ≤ top wd) : isGauD (.tuple [.int wd, .int v0]) = true := by
  show ((decide (1 ≤ wd) && decide (wd ≤ 4)) && (decide (0 ≤ v0) && decide (v0 ≤ 1 * 2 ^ wd.toNat - 1))) = true
  have v2 : v0 ≤ 1 * 2 ^ wd.toNat - 1 := v2
  rw [decide_eq_true w1, decide_eq_true w4, decide_eq_true v1, decide_eq_true v2]
  rfl
theorem keep_ins {K : PySem.W.Frag} {H H' : Hp} {m C dx : Addr} {fs : List (Str × V)} (e : H m = some (.ins C dx fs)) (ne : ∀ b o, b ≠ m → H b = some o → H' b = some o) : Keep K H H' := fun a xs h => by
  rcases h with (h | ⟨u, h⟩) | h
  · exact .inl (.inl (ne _ _ (fun z => by rw [z, e] at h; cases h) h))
  · exact .inl (.inr ⟨u, ne _ _ (fun z => by rw [z, e] at h; cases h) h⟩)
  · exact .inr h
section
variable {P : Program} {w : World} {K : PySem.W.Frag} {mg : Str → Option Value} {base : Heap}
def spPrI (P : Program) (w : World) (K : PySem.W.Frag) (CM CP : Addr) : Sp := fun vs H Q _ => ∃ (p dp c g : Addr) (k : Str) (z : Int) (x : Option Int) (wd v0 : Int), vs = [.ref p, .ref c, .ref g] ∧ H p = some (.ins CP dp []) ∧ SqT K H c (planV k z x) ∧ PlanOk k z x ∧ SqT K H g [.int wd, .int v0] ∧ 1 ≤ wd ∧ wd ≤ 4 ∧ 0 ≤ v0 ∧ v0 ≤ top wd ∧
  ∀ H' m dx st hd cd, (∀ a o, a ≠ p → H a = some o → H' a = some o) → H m = none → H st = none → H hd = none → H cd = none → PrAt P w K CM CP H' p dp c g m dx st hd cd k z x wd v0 [] (fun _ => List.replicate z.toNat false) (fun _ => none) [] 0 0 → Q .non H'
theorem ok_prI {f CM CP fM : Addr} {fd fdM : FuncData} (T : TPr K mg CP) (TM : TMem K mg CM) (MM : Mk K CM fM) (GI : FnOk P w K mg base L2.CX0 1 fM fdM ["self"] (spMemI P w CM)) (bI : Binds K fdM ["self"] [])
    (DSc : Dfn P w K mg base 3 "is_scheme" ["value"] (spLook K isPlanD)) (DCo : Dfn P w K mg base 3 "is_counter" ["value"] (spLook K isGauD)) (F : L2.Fun K "__init__" "Predictor.__init__" sPrI f fd) : FnOk P w K mg base L2.CX0 4 f fd ["self", "scheme", "counter"] (spPrI P w K CM CP) := by
  refine F.ok scPrI (fun vs H Q E h => ?_) (fun cdv A outer s H vs Q E hr h => ?_)
  · obtain ⟨p, dp, c, g, k, z, x, wd, v0, rfl, _⟩ := h
    rfl
  · obtain ⟨p, dp, c, g, k, z, x, wd, v0, rfl, hp, hc, ok, hg, w1, w4, v1, v2, q⟩ := h
    refine ⟨_, pss_cons (ps_if (pt_not (pt_val (pe_d DSc hr (by decide) (by rfl) (pa_cons (pv 1) pa_nil)))) (pss_one ps_dead) pss_nil)
      (pss_cons (ps_if (pt_not (pt_val (pe_d DCo hr (by decide) (by rfl) (pa_cons (pv 2) pa_nil)))) (pss_one ps_dead) pss_nil)
      (pss_cons (ps_fld (pv 0) (pv 1) rfl) (pss_cons (ps_fld (pv 0) (pv 2) rfl) (pss_one (ps_fld (pv 0) (pe_make0 MM GI (hr.mono (by decide)) (by rfl) TM.mgC bI .nil pass0) rfl))))), ?_⟩
    obtain ⟨d, hd, e1, e2⟩ := plan_isD ok
    refine ⟨.ref c, rfl, _, .ref c, d, rfl, hd K H c hc, e2, fun H1 s1 => ?_⟩
    rw [e1]
    refine ⟨_, rfl, ?_⟩
    have hg1 := Same.seqT s1 hg
    refine ⟨.ref g, rfl, _, .ref g, _, rfl, dv_sq hg1 (.cons (.int _) (.cons (.int _) .nil)), ?_, fun H2 s2 => ?_⟩
    · simp only [big, bigAll]
      decide +kernel
    rw [gau_isD w1 w4 v1 v2]
    refine ⟨_, rfl, ?_⟩
    have s12 := s1.trans s2
    have hp2 := s12 _ _ hp
    refine ⟨_, rfl, _, rfl, p, CP, dp, [], rfl, hp2, T.cl, T.n0, by show 0 < 1000; decide, ?_⟩
    rw [putF_nil]
    refine ⟨_, rfl, _, rfl, p, CP, dp, _, rfl, upd_same, T.cl, T.n1, by show 1 < 1000; decide, ?_⟩
    rw [L2.upd_upd, putF_ne (by decide +kernel), putF_nil]
    have keep3 : ∀ b o, b ≠ p → H2 b = some o → (upd H2 p (.ins CP dp [("_scheme", .ref c), ("_counter", .ref g)])) b = some o := fun b o nb e => by rw [upd_ne nb]; exact e
    have p3 : (upd H2 p (.ins CP dp [("_scheme", .ref c), ("_counter", .ref g)])) p = some (.ins CP dp [("_scheme", .ref c), ("_counter", .ref g)]) := upd_same
    have k23 : Keep K H2 (upd H2 p (.ins CP dp [("_scheme", .ref c), ("_counter", .ref g)])) := keep_ins hp2 keep3
    generalize upd H2 p (.ins CP dp [("_scheme", .ref c), ("_counter", .ref g)]) = H3 at keep3 p3 k23
    intro m dx nm ndx nex
    have s34 : Same H3 (upd (upd H3 dx (.own m)) m (.ins CM dx [])) := fun b o e => by rw [upd_ne (ne_of_none e nm), upd_ne (ne_of_none e ndx)]; exact e
    have m4 : (upd (upd H3 dx (.own m)) m (.ins CM dx [])) m = some (.ins CM dx []) := upd_same
    generalize upd (upd H3 dx (.own m)) m (.ins CM dx []) = H4 at s34 m4
    have pm : p ≠ m := ne_of_none p3 nm
    have old4 : ∀ a o, a ≠ p → H a = some o → H4 a = some o := fun a o na e => s34 _ _ (keep3 a o na (s12 _ _ e))
    have free4 : ∀ a, a ≠ p → H4 a = none → H a = none := fun a na e => by
      cases e' : H a with
      | none => rfl
      | some o => rw [old4 a o na e'] at e; cases e
    have nm0 : H m = none := by
      cases e' : H m with
      | none => rfl
      | some o => rw [keep3 m o pm.symm (s12 _ _ e')] at nm; cases nm
    have p4 := s34 _ _ p3
    refine ⟨m, dx, k, z.toNat, rfl, m4, fun H5 st hd cd keep5 nst nhd ncd mem => ⟨rfl, _, rfl, p, CP, dp, _, rfl, keep5 _ _ pm p4, T.cl, T.n2, by show 2 < 1000; decide, ?_⟩⟩
    rw [putF_ne (by decide +kernel), putF_ne (by decide +kernel), putF_nil]
    have k45 : Keep K H4 H5 := keep_ins m4 keep5
    have p5 := keep5 _ _ pm p4
    have k56 : Keep K H5 (upd H5 p (.ins CP dp (prF c g m))) := keep_ins p5 fun b o nb e => by rw [upd_ne nb]; exact e
    have kall : Keep K H1 (upd H5 p (.ins CP dp (prF c g m))) := ((((Same.keep s2).trans k23).trans (Same.keep s34)).trans k45).trans k56
    have pst : st ≠ p := fun z => by rw [z, p4] at nst; cases nst
    have phd : hd ≠ p := fun z => by rw [z, p4] at nhd; cases nhd
    have pcd : cd ≠ p := fun z => by rw [z, p4] at ncd; cases ncd
    obtain ⟨a1, a2, ⟨kvs, a3, a4, a5⟩, a6, a7, d1, d2, d3⟩ := mem
    refine q _ m dx st hd cd (fun a o na e => ?_) nm0 (free4 _ pst nst) (free4 _ phd nhd) (free4 _ pcd ncd) ⟨upd_same, kall _ _ (Same.seqT s1 hc), ok, kall _ _ hg1, w1, w4, v1, v2, ⟨by rw [upd_ne pm.symm]; exact a1, by rw [upd_ne pst]; exact a2, ⟨kvs, by rw [upd_ne phd]; exact a3, a4, a5⟩, a6.same fun o e => by rw [upd_ne pcd]; exact e, a7, d1, d2, d3⟩, pm⟩
    have : a ≠ m := fun z => by rw [z, nm0] at e; cases e
    show upd H5 p _ a = some o
    rw [upd_ne na]
    exact keep5 a o this (old4 a o na e)
end
end Pf
namespace Pf
open PySem PySem.Spec PyProof.Rows L2 Gk Fold
/-! ### what a live predictor answers -/
abbrev sPredict : Stmt := inClass (topS 37) 5
abbrev sHistory : Stmt := inClass (topS 37) 6
abbrev sCell : Stmt := inClass (topS 37) 7
abbrev sNewest : Stmt := inClass (topS 37) 18
theorem scPredict : FnScope ["self", "branch", "bits", "first"] ["self", "branch"] (defScope sPredict) := ⟨rfl, rfl, rfl, by decide +kernel, rfl, by decide +kernel, by decide +kernel⟩
theorem scHistory : FnScope ["self", "branch"] ["self", "branch"] (defScope sHistory) := ⟨rfl, rfl, rfl, by decide +kernel, rfl, by decide +kernel, by decide +kernel⟩
theorem scCell : FnScope ["self", "branch"] ["self", "branch"] (defScope sCell) := ⟨rfl, rfl, rfl, by decide +kernel, rfl, by decide +kernel, by decide +kernel⟩
theorem scNewest : FnScope ["self", "branch", "owner"] ["self", "branch"] (defScope sNewest) := ⟨rfl, rfl, rfl, by decide +kernel, rfl, by decide +kernel, by decide +kernel⟩
theorem zeros_txt {z : Int} (z0 : 0 ≤ z) (z64 : z ≤ 64) : Txt.mul "0" z = txt (List.replicate z.toNat false) ∧ MulOk "0" z := by
  have ez : ((z.toNat : Nat) : Int) = z := Int.toNat_of_nonneg z0
  have e0 : ("0" : Str) = Gk.txt [false] := by decide +kernel
  constructor
  · rw [e0, ← ez, Gk.txt_mul, Int.toNat_natCast, txt_gk]
    congr 1
    generalize z.toNat = n
    induction n with
    | zero => rfl
    | succ n ih => rw [List.replicate_succ, List.replicate_succ, List.flatten_cons, ih]; rfl
  · rw [e0, ← ez]
    exact Gk.mulOk_txt (by decide) (by omega)
/-- all that a predictor is -/
structure Pd where
  p : Addr
  dp : Addr
  c : Addr
  g : Addr
  m : Addr
  dx : Addr
  st : Addr
  hd : Addr
  cd : Addr
  k : Str
  z : Int
  x : Option Int
  wd : Int
  v0 : Int
  steps : List V
  hs : Option Int → List Bool
  cs : CK → Option Int
  ks : List CK
  n : Int
  many : Nat
def PrIs (P : Program) (w : World) (K : PySem.W.Frag) (CM CP : Addr) (H : Hp) (r : Pd) : Prop := PrAt P w K CM CP H r.p r.dp r.c r.g r.m r.dx r.st r.hd r.cd r.k r.z r.x r.wd r.v0 r.steps r.hs r.cs r.ks r.n r.many ∧ (∀ o, (r.hs o).length = r.z.toNat) ∧ ∀ q, 0 ≤ (r.cs q).getD r.v0 ∧ (r.cs q).getD r.v0 ≤ top r.wd
theorem MemAt.same {P : Program} {w : World} {C : Addr} {k : Str} {H H' : Hp} {m dx st hd cd : Addr} {steps : List V} {hs : Option Int → List Bool} {L : Nat} {vs : CK → Option Int} {ks : List CK} {n : Int} {many : Nat} (M : MemAt P w C k H m dx st hd cd steps hs L vs ks n many) (s : Same H H') : MemAt P w C k H' m dx st hd cd steps hs L vs ks n many := by
  obtain ⟨a1, a2, ⟨kvs, a3, a4⟩, a5, e0, e1, e2, e3⟩ := M
  exact ⟨s _ _ a1, s _ _ a2, ⟨kvs, s _ _ a3, a4⟩, a5.same fun o e => s _ _ e, e0, e1, e2, e3⟩
theorem PrIs.same {P : Program} {w : World} {K : PySem.W.Frag} {CM CP : Addr} {H H' : Hp} {r : Pd} (R : PrIs P w K CM CP H r) (s : Same H H') : PrIs P w K CM CP H' r := by
  obtain ⟨⟨a1, a2, a3, a4, a5, a6, a7, a8, a9, a10⟩, b⟩ := R
  exact ⟨⟨s _ _ a1, Same.seqT s a2, a3, Same.seqT s a4, a5, a6, a7, a8, a9.same s, a10⟩, b⟩
section
variable {P : Program} {w : World} {K : PySem.W.Frag} {mg : Str → Option Value} {base : Heap}
def spNewest (P : Program) (w : World) (K : PySem.W.Frag) (CM CP : Addr) : Sp := fun vs H Q _ => ∃ (r : Pd) (b : Int), vs = [.ref r.p, .int b] ∧ PrIs P w K CM CP H r ∧ Q (.str (txt (r.hs (ownO r.k b)))) H
theorem ok_newest {f CM CP : Addr} {fd : FuncData} (T : TPr K mg CP) (TM : TMem K mg CM) (DOw : Dfn P w K mg base 1 "owner_of" ["scheme", "branch"] (spOwner K)) (F : L2.Fun K "_newest" "Predictor._newest" sNewest f fd) : FnOk P w K mg base L2.CX0 2 f fd ["self", "branch"] (spNewest P w K CM CP) := by
  refine F.ok scNewest (fun vs H Q E h => ?_) (fun cdv A outer s H vs Q E hr h => ?_)
  · obtain ⟨r, b, rfl, _⟩ := h
    rfl
  · obtain ⟨r, b, rfl, R, q⟩ := h
    refine ⟨_, pss_cons (ps_set (i := 2) scNewest.nd rfl (.inl rfl) (pe_d DOw hr (by decide) (by rfl) (pa_cons (pe_fld (pv 0) rfl) (pa_cons (pv 1) pa_nil))))
      (pss_one (ps_ret (pe_ngetP P w (pe_fld (pe_fld (pv 0) rfl) rfl) (pv 2) (pe_op op_mulS pe_str (pe_ix ix_tup (pe_fld (pv 0) rfl) pe_int (fun _ _ => rfl))) ⟨by rfl, by rfl, by rfl, by rfl⟩))), ?_⟩
    obtain ⟨⟨hp, hc, ok, hg, w1, w4, v1, v2, ⟨hm, hst, ⟨kvs, hh, hkl, hkv⟩, hcd, dd⟩, pm⟩, hlen, hin⟩ := R
    obtain ⟨em, mo⟩ := zeros_txt ok.1 ok.2.1
    refine ⟨_, rfl, r.p, CP, r.dp, _, _, rfl, hp, T.cl, T.n0, prF_scheme _ _ _, .int b, rfl, r.c, r.k, r.z, r.x, b, rfl, hc, go_name ?_⟩
    refine ⟨_, rfl, r.p, CP, r.dp, _, _, rfl, hp, T.cl, T.n2, prF_memory _ _ _, r.m, CM, r.dx, _, _, rfl, hm, TM.cl, TM.n1, memF_hist _ _ _ _, r.hd, rfl, ⟨kvs, hh⟩, _, rfl, _, rfl, r.p, CP, r.dp, _, _, rfl, hp, T.cl, T.n0, prF_scheme _ _ _, r.c, _, 1, .int r.z, rfl, rfl, hc, planV1 _ _ _, _, _, rfl, rfl, mo, kvs, ownO r.k b, hh, rfl, ?_⟩
    rw [em, hkv]
    exact q
def spHistoryP (P : Program) (w : World) (K : PySem.W.Frag) (CM CP : Addr) : Sp := fun vs H Q _ => ∃ (r : Pd) (b : Int), vs = [.ref r.p, .int b] ∧ PrIs P w K CM CP H r ∧ 0 ≤ b ∧ b ≤ 7 ∧ Q (.str (txt (r.hs (ownO r.k b)))) H
theorem ok_history {f CM CP fN : Addr} {fd fdN : FuncData} (T : TPr K mg CP) (mN : Meth K CP "_newest" fN) (GN : FnOk P w K mg base L2.CX0 2 fN fdN ["self", "branch"] (spNewest P w K CM CP)) (bN : Binds K fdN ["self", "branch"] []) (DB : Dfn P w K mg base 3 "is_branch" ["value"] (spLook0 K (isInt 0 7)))
    (F : L2.Fun K "history" "Predictor.history" sHistory f fd) : FnOk P w K mg base L2.CX0 4 f fd ["self", "branch"] (spHistoryP P w K CM CP) := by
  refine F.ok scHistory (fun vs H Q E h => ?_) (fun cdv A outer s H vs Q E hr h => ?_)
  · obtain ⟨r, b, rfl, _⟩ := h
    rfl
  · obtain ⟨r, b, rfl, R, b0, b7, q⟩ := h
    refine ⟨_, pss_cons (ps_if (pt_not (pt_val (pe_d DB hr (by decide) (by rfl) (pa_cons (pv 1) pa_nil)))) (pss_one ps_dead) pss_nil)
      (pss_one (ps_ret (pe_meth (pv 0) T.cl mN GN (hr.mono (by decide)) bN .nil pass0 (pa_cons (pv 1) pa_nil)))), ?_⟩
    have eb : isInt 0 7 (.int b) = true := by
      show (decide (0 ≤ b) && decide (b ≤ 7)) = true
      rw [decide_eq_true b0, decide_eq_true b7]
      rfl
    refine ⟨.int b, rfl, fun _ => False, .int b, _, rfl, .int b, ?_⟩
    rw [eb]
    refine ⟨_, rfl, ?_⟩
    exact ⟨_, rfl, r.p, r.dp, _, rfl, R.1.hpr, rfl, .int b, rfl, r, b, rfl, R, q⟩
/-- the cell of a branch, as it is now -/
def Pd.cell (r : Pd) (b : Int) : CK := cK r.k r.x b.toNat (r.hs (ownO r.k b))
/-- its value -/
def Pd.val (r : Pd) (b : Int) : Int := (r.cs (r.cell b)).getD r.v0
def spCellP (P : Program) (w : World) (K : PySem.W.Frag) (CM CP : Addr) : Sp := fun vs H Q _ => ∃ (r : Pd) (b : Int), vs = [.ref r.p, .int b] ∧ PrIs P w K CM CP H r ∧ 0 ≤ b ∧ b ≤ 7 ∧ ∀ H' v, Same H H' → Ck K H' v (cellD r.k r.x b.toNat (r.hs (ownO r.k b))) → Q v H'
theorem ok_cellP {f CM CP fH : Addr} {fd fdH : FuncData} (T : TPr K mg CP) (mH : Meth K CP "history" fH) (GH : FnOk P w K mg base L2.CX0 4 fH fdH ["self", "branch"] (spHistoryP P w K CM CP)) (bH : Binds K fdH ["self", "branch"] []) (DC : Dfn P w K mg base 3 "cell_of" ["scheme", "branch", "history"] (spCellC K))
    (F : L2.Fun K "cell" "Predictor.cell" sCell f fd) : FnOk P w K mg base L2.CX0 5 f fd ["self", "branch"] (spCellP P w K CM CP) := by
  refine F.ok scCell (fun vs H Q E h => ?_) (fun cdv A outer s H vs Q E hr h => ?_)
  · obtain ⟨r, b, rfl, _⟩ := h
    rfl
  · obtain ⟨r, b, rfl, R, b0, b7, q⟩ := h
    refine ⟨_, pss_one (ps_ret (pe_d DC hr (by decide) (by rfl) (pa_cons (pe_fld (pv 0) rfl) (pa_cons (pv 1) (pa_cons (pe_meth (pv 0) T.cl mH GH (hr.mono (by decide)) bH .nil pass0 (pa_cons (pv 1) pa_nil)) pa_nil))))), ?_⟩
    have eb : ((b.toNat : Nat) : Int) = b := Int.toNat_of_nonneg b0
    have ok := R.1.okp
    have z64 := ok.2.1
    refine ⟨_, rfl, r.p, CP, r.dp, _, _, rfl, R.1.hpr, T.cl, T.n0, prF_scheme _ _ _, .int b, rfl, _, rfl, r.p, r.dp, _, rfl, R.1.hpr, rfl, .int b, rfl, r, b, rfl, R, b0, b7, r.c, r.k, r.z, r.x, b.toNat, r.hs (ownO r.k b), by rw [eb]; rfl, R.1.hsc, ok, by omega, by rw [R.2.1]; omega, fun H' v s c => q H' v s c⟩
def spPredictP (P : Program) (w : World) (K : PySem.W.Frag) (CM CP : Addr) : Sp := fun vs H Q _ => ∃ (r : Pd) (b : Int), vs = [.ref r.p, .int b] ∧ PrIs P w K CM CP H r ∧ 0 ≤ b ∧ b ≤ 7 ∧ ∀ H', Same H H' → Q (.int (prd r.wd (r.val b))) H'
theorem ok_predict {f CM CP fC : Addr} {fd fdC : FuncData} (T : TPr K mg CP) (TM : TMem K mg CM) (mC : Meth K CP "cell" fC) (GC : FnOk P w K mg base L2.CX0 5 fC fdC ["self", "branch"] (spCellP P w K CM CP)) (bC : Binds K fdC ["self", "branch"] []) (DP : Dfn P w K mg base 2 "predicted" ["bits", "value"] spPred)
    (F : L2.Fun K "predict" "Predictor.predict" sPredict f fd) : FnOk P w K mg base L2.CX0 6 f fd ["self", "branch"] (spPredictP P w K CM CP) := by
  refine F.ok scPredict (fun vs H Q E h => ?_) (fun cdv A outer s H vs Q E hr h => ?_)
  · obtain ⟨r, b, rfl, _⟩ := h
    rfl
  · obtain ⟨r, b, rfl, R, b0, b7, q⟩ := h
    have hu : (A.deeper (envOfC "Predictor.predict" (defScope sPredict) s.heap.objs.size f cdv)).units + 1 < cLine := Nat.lt_of_le_of_lt (Nat.add_le_add_left (by decide : 1 ≤ 64) _) hr.units
    refine ⟨_, pss_cons (ps_asg (pe_fld (pv 0) rfl) (pg_tup (n := 2) (by rfl) (pgs_cons (pg_name (i := 2) scPredict.nd rfl (.inl rfl)) (pgs_cons (pg_name (i := 3) scPredict.nd rfl (.inl rfl)) pgs_nil))))
      (pss_one (ps_ret (pe_d DP hr (by decide) (by rfl) (pa_cons (pv 2) (pa_cons (pe_dget2 hu (pe_fld (pe_fld (pv 0) rfl) rfl) (pe_meth (pv 0) T.cl mC GC (hr.mono (by decide)) bC .nil pass0 (pa_cons (pv 1) pa_nil)) (pv 3) ⟨by rfl, by rfl, by rfl, by rfl⟩) pa_nil))))), ?_⟩
    have ok := R.1.okp
    have M := R.1.mem
    refine ⟨_, rfl, r.p, CP, r.dp, _, _, rfl, R.1.hpr, T.cl, T.n1, prF_counter _ _ _, r.g, _, rfl, R.1.hga, rfl, _, _, rfl, _, _, rfl, rfl, ?_⟩
    refine ⟨.int r.wd, rfl, _, rfl, r.p, CP, r.dp, _, _, rfl, R.1.hpr, T.cl, T.n2, prF_memory _ _ _, r.m, CM, r.dx, _, _, rfl, M.hob, TM.cl, TM.n2, memF_cells _ _ _ _, r.cd, rfl, M.hce.isD, ?_⟩
    refine ⟨_, rfl, r.p, r.dp, _, rfl, R.1.hpr, rfl, .int b, rfl, r, b, rfl, R, b0, b7, fun H' v s c => ⟨.int r.v0, rfl, _, (R.same s).1.mem.hce.get c, ?_⟩⟩
    have e : ((r.cs (cK r.k r.x b.toNat (r.hs (ownO r.k b)))).map V.int).getD (.int r.v0) = .int (r.val b) := by
      show _ = V.int ((r.cs (cK r.k r.x b.toNat (r.hs (ownO r.k b)))).getD r.v0)
      cases r.cs (cK r.k r.x b.toNat (r.hs (ownO r.k b))) <;> rfl
    rw [e]
    have w1 := R.1.w1
    have w4 := R.1.w4
    exact ⟨r.wd, r.val b, rfl, w1, by omega, q H' s⟩
end
end Pf
namespace Pf
open PySem PySem.Spec PyProof.Rows L2 Gk Fold
/-! ### a pair is learned -/
abbrev sTakeP : Stmt := inClass (topS 37) 19
abbrev nTakeP : List Str := ["self", "branch", "outcome", "bits", "first", "history", "cell", "old_value", "value", "is_wrong", "step"]
theorem scTakeP : FnScope nTakeP ["self", "branch", "outcome"] (defScope sTakeP) := ⟨rfl, rfl, rfl, by decide +kernel, rfl, by decide +kernel, by decide +kernel⟩
/-- a predictor behind a pair, its step at s -/
def Pd.next (r : Pd) (b o : Int) (s : Addr) : Pd := { r with
  steps := r.steps ++ [.ref s]
  hs := fun q => if q = ownO r.k b then (r.hs (ownO r.k b) ++ [decide (o = 1)]).drop 1 else r.hs q
  cs := fun q => if q = r.cell b then some (aft r.wd (r.val b) o) else r.cs q
  ks := if r.cs (r.cell b) = none then r.ks ++ [r.cell b] else r.ks
  n := r.n + if decide (prd r.wd (r.val b) = o) then 0 else 1
  many := r.many + 1 }
section
variable {P : Program} {w : World} {K : PySem.W.Frag} {mg : Str → Option Value} {base : Heap}
def spTakeP (P : Program) (w : World) (K : PySem.W.Frag) (CM CS CP : Addr) : Sp := fun vs H Q _ => ∃ (r : Pd) (b o : Int), vs = [.ref r.p, .int b, .int o] ∧ PrIs P w K CM CP H r ∧ 0 ≤ b ∧ b ≤ 7 ∧ (o = 0 ∨ o = 1) ∧ r.steps.length ≤ 99999 ∧ r.many ≤ 99999 ∧ 0 ≤ r.n ∧ r.n ≤ 99999 ∧
  ∀ H' s ds a wr ow oh pl ov, (∀ q u, q ≠ r.m → q ≠ r.st → q ≠ r.hd → q ≠ r.cd → H q = some u → H' q = some u) → PrIs P w K CM CP H' (r.next b o s) → H' s = some (.ins CS ds (stepF (.ref a) wr ow oh pl ov)) → SqT K H' a [.int b, .int o] → Q (.bl (decide (prd r.wd (r.val b) = o))) H'
theorem ok_takeP {f CM CS CP fN fK fS : Addr} {fd fdN fdK fdS : FuncData} (T : TPr K mg CP) (TM : TMem K mg CM) (TS : TStep K mg CS) (mN : Meth K CP "_newest" fN) (GN : FnOk P w K mg base L2.CX0 2 fN fdN ["self", "branch"] (spNewest P w K CM CP)) (bN : Binds K fdN ["self", "branch"] [])
    (mK : Meth K CM "keep" fK) (GK : FnOk P w K mg base L2.CX0 1 fK fdK ["self", "step", "history", "value"] (spKeep P w K CM CS)) (bK : Binds K fdK ["self", "step", "history", "value"] []) (MS : Mk K CS fS) (GS : FnOk P w K mg base L2.CX0 1 fS fdS nStepI (spStepI CS)) (bS : Binds K fdS nStepI [])
    (DC : Dfn P w K mg base 3 "cell_of" ["scheme", "branch", "history"] (spCellC K)) (DP : Dfn P w K mg base 2 "predicted" ["bits", "value"] spPred) (DA : Dfn P w K mg base 2 "value_after" ["bits", "value", "outcome"] spAft) (DOw : Dfn P w K mg base 1 "owner_of" ["scheme", "branch"] (spOwner K)) (DPu : Dfn P w K mg base 1 "pushed" ["history", "outcome"] spPushed)
    (F : L2.Fun K "_take" "Predictor._take" sTakeP f fd) : FnOk P w K mg base L2.CX0 4 f fd ["self", "branch", "outcome"] (spTakeP P w K CM CS CP) := by
  refine F.ok scTakeP (fun vs H Q E h => ?_) (fun cdv A outer s H vs Q E hr h => ?_)
  · obtain ⟨r, b, o, rfl, _⟩ := h
    rfl
  · obtain ⟨r, b, o, rfl, R, b0, b7, ho, sl, ml, n0, n1, q⟩ := h
    have hu : (A.deeper (envOfC "Predictor._take" (defScope sTakeP) s.heap.objs.size f cdv)).units + 1 < cLine := Nat.lt_of_le_of_lt (Nat.add_le_add_left (by decide : 1 ≤ 64) _) hr.units
    refine ⟨_, pss_cons (ps_asg (pe_fld (pv 0) rfl) (pg_tup (n := 2) (by rfl) (pgs_cons (pg_name (i := 3) scTakeP.nd rfl (.inl rfl)) (pgs_cons (pg_name (i := 4) scTakeP.nd rfl (.inl rfl)) pgs_nil))))
      (pss_cons (ps_set (i := 5) scTakeP.nd rfl (.inl rfl) (pe_meth (pv 0) T.cl mN GN (hr.mono (by decide)) bN .nil pass0 (pa_cons (pv 1) pa_nil)))
      (pss_cons (ps_set (i := 6) scTakeP.nd rfl (.inl rfl) (pe_d DC hr (by decide) (by rfl) (pa_cons (pe_fld (pv 0) rfl) (pa_cons (pv 1) (pa_cons (pv 5) pa_nil)))))
      (pss_cons (ps_set (i := 7) scTakeP.nd rfl (.inl rfl) (pe_dget1 hu (pe_fld (pe_fld (pv 0) rfl) rfl) (pv 6) ⟨by rfl, by rfl, by rfl, by rfl⟩))
      (pss_cons (ps_set (i := 8) scTakeP.nd rfl (.inl rfl) (pe_mid (pe_ifExp (pt_cmpR op_isN (pv 7) pe_non (nomark _)) (pv 4) (pv 7))))
      (pss_cons (ps_set (i := 9) scTakeP.nd rfl (.inl rfl) (pe_cmpR op_ne (pe_d DP hr (by decide) (by rfl) (pa_cons (pv 3) (pa_cons (pv 8) pa_nil))) (pv 2) (nomark _)))
      (pss_cons (ps_set (i := 10) scTakeP.nd rfl (.inl rfl) (pe_make MS GS (hr.mono (by decide)) (by rfl) TS.mgC bS .nil pass0 (pa_cons (pe_tup (pa_cons (pv 1) (pa_cons (pv 2) pa_nil))) (pa_cons (pv 9) (pa_cons (pe_d DOw hr (by decide) (by rfl) (pa_cons (pe_fld (pv 0) rfl) (pa_cons (pv 1) pa_nil))) (pa_cons (pv 5) (pa_cons (pv 6) (pa_cons (pv 7) pa_nil))))))))
      (pss_cons (ps_expr (pe_meth (pe_fld (pv 0) rfl) TM.cl mK GK (hr.mono (by decide)) bK .nil pass0 (pa_cons (pv 10) (pa_cons (pe_d DPu hr (by decide) (by rfl) (pa_cons (pv 5) (pa_cons (pv 2) pa_nil))) (pa_cons (pe_d DA hr (by decide) (by rfl) (pa_cons (pv 3) (pa_cons (pv 8) (pa_cons (pv 2) pa_nil)))) pa_nil)))))
      (pss_one (ps_ret (pe_not (pv 9))))))))))), ?_⟩
    have eb : ((b.toNat : Nat) : Int) = b := Int.toNat_of_nonneg b0
    have ok := R.1.okp
    have z64 := ok.2.1
    have w1 := R.1.w1
    have w4 := R.1.w4
    refine ⟨_, rfl, r.p, CP, r.dp, _, _, rfl, R.1.hpr, T.cl, T.n1, prF_counter _ _ _, r.g, _, rfl, R.1.hga, rfl, _, _, rfl, _, _, rfl, rfl, ?_⟩
    refine ⟨_, rfl, r.p, r.dp, _, rfl, R.1.hpr, rfl, .int b, rfl, r, b, rfl, R, go_name ?_⟩
    refine ⟨_, rfl, r.p, CP, r.dp, _, _, rfl, R.1.hpr, T.cl, T.n0, prF_scheme _ _ _, .int b, rfl, .str _, rfl, r.c, r.k, r.z, r.x, b.toNat, r.hs (ownO r.k b), by rw [eb]; rfl, R.1.hsc, ok, by omega, by rw [R.2.1]; omega, fun H1 cv s1 ck => go_name ?_⟩
    have R1 := R.same s1
    have M1' := R1.1.mem
    refine ⟨_, rfl, r.p, CP, r.dp, _, _, rfl, R1.1.hpr, T.cl, T.n2, prF_memory _ _ _, r.m, CM, r.dx, _, _, rfl, M1'.hob, TM.cl, TM.n2, memF_cells _ _ _ _, r.cd, rfl, M1'.hce.isD, cv, rfl, _, M1'.hce.get ck, go_name ?_⟩
    have hval : ((r.cs (cK r.k r.x b.toNat (r.hs (ownO r.k b)))) = none ∧ r.val b = r.v0) ∨ ∃ u, (r.cs (cK r.k r.x b.toNat (r.hs (ownO r.k b)))) = some u ∧ r.val b = u := by
      unfold Pd.val Pd.cell
      cases r.cs (cK r.k r.x b.toNat (r.hs (ownO r.k b))) with
      | none => exact .inl ⟨rfl, rfl⟩
      | some u => exact .inr ⟨u, rfl, rfl⟩
    generalize hov : (((r.cs (cK r.k r.x b.toNat (r.hs (ownO r.k b)))).map V.int).getD .non) = ov
    refine ⟨fun v H' => H' = H1 ∧ v = .int (r.val b), ?_, fun v H' hv => ?_⟩
    · rcases hval with ⟨e, ev⟩ | ⟨u, e, ev⟩
      · rw [e] at hov
        have hov : V.non = ov := hov
        subst hov
        refine ⟨.non, rfl, rfl, _, rfl, ite2 (fun _ => ⟨.int r.v0, rfl, rfl, by rw [ev]⟩) (fun c => absurd (by rfl) c)⟩
      · rw [e] at hov
        have hov : V.int u = ov := hov
        subst hov
        refine ⟨.int u, rfl, rfl, _, rfl, ite2 (fun c => absurd c (by simp)) (fun _ => ⟨.int u, rfl, rfl, by rw [ev]⟩)⟩
    obtain ⟨rfl, rfl⟩ := hv
    refine go_name ?_
    refine ⟨.int r.wd, rfl, .int (r.val b), rfl, r.wd, r.val b, rfl, w1, by omega, .int o, rfl, rfl, go_name ?_⟩
    generalize hwr : (!decide (V.int (prd r.wd (r.val b)) = V.int o)) = wr
    refine ⟨.int b, rfl, .int o, rfl, by show 2 ≤ sizeLine; decide, fun a na => ?_⟩
    have s2 := same_new (o := .tup [.int b, .int o]) na
    have ha2 : SqT K (upd H' a (.tup [.int b, .int o])) a [.int b, .int o] := .inl (.inl upd_same)
    have R2 := R1.same s2
    have ck2 : Ck K (upd H' a (.tup [.int b, .int o])) cv (cellD r.k r.x b.toNat (r.hs (ownO r.k b))) := ⟨Dp.keep (Same.keep s2) _ _ (cell_tups _ _ _ _) ck.1, ck.2.same fun b ts e => s2 _ _ e⟩
    have s02 := s1.trans s2
    generalize upd H' a (.tup [.int b, .int o]) = H2 at s2 ha2 R2 ck2 s02
    refine ⟨.bl wr, rfl, _, rfl, r.p, CP, r.dp, _, _, rfl, R2.1.hpr, T.cl, T.n0, prF_scheme _ _ _, .int b, rfl, r.c, r.k, r.z, r.x, b, rfl, R2.1.hsc, .str _, rfl, cv, rfl, ov, rfl, ?_⟩
    intro sp ds nsp nds nex
    have s23 : Same H2 (upd (upd H2 ds (.own sp)) sp (.ins CS ds [])) := fun b o e => by rw [upd_ne (ne_of_none e nsp), upd_ne (ne_of_none e nds)]; exact e
    refine ⟨sp, ds, .ref a, wr, oKey (ownO r.k b), .str (txt (r.hs (ownO r.k b))), cv, ov, rfl, upd_same, rfl, go_name ?_⟩
    rw [L2.upd_upd]
    have s24 : Same H2 (upd (upd H2 ds (.own sp)) sp (.ins CS ds (stepF (.ref a) wr (oKey (ownO r.k b)) (.str (txt (r.hs (ownO r.k b)))) cv ov))) := fun b o e => by rw [upd_ne (ne_of_none e nsp), upd_ne (ne_of_none e nds)]; exact e
    have sp4 : (upd (upd H2 ds (.own sp)) sp (.ins CS ds (stepF (.ref a) wr (oKey (ownO r.k b)) (.str (txt (r.hs (ownO r.k b)))) cv ov))) sp = some (.ins CS ds (stepF (.ref a) wr (oKey (ownO r.k b)) (.str (txt (r.hs (ownO r.k b)))) cv ov)) := upd_same
    generalize upd (upd H2 ds (.own sp)) sp (.ins CS ds (stepF (.ref a) wr (oKey (ownO r.k b)) (.str (txt (r.hs (ownO r.k b)))) cv ov)) = H4 at s24 sp4
    have R4 := R2.same s24
    have ck4 : Ck K H4 cv (cellD r.k r.x b.toNat (r.hs (ownO r.k b))) := ⟨Dp.keep (Same.keep s24) _ _ (cell_tups _ _ _ _) ck2.1, ck2.2.same fun b ts e => s24 _ _ e⟩
    have hlen := R.2.1 (ownO r.k b)
    refine ⟨_, rfl, r.p, CP, r.dp, _, _, rfl, R4.1.hpr, T.cl, T.n2, prF_memory _ _ _, r.m, r.dx, _, rfl, R4.1.mem.hob, rfl, .ref sp, rfl, .str _, rfl, .int o, rfl, _, o, rfl, ho, by omega, .int r.wd, rfl, .int (r.val b), rfl, .int o, rfl, r.wd, r.val b, o, rfl, w1, by omega, ?_⟩
    refine ⟨r.m, r.dx, r.st, r.hd, r.cd, sp, ds, r.k, r.x, r.steps, r.hs, r.z.toNat, r.cs, r.ks, r.n, r.many, .ref a, wr, ownO r.k b, .str (txt (r.hs (ownO r.k b))), cv, ov, (r.hs (ownO r.k b) ++ [decide (o = 1)]).drop 1, aft r.wd (r.val b) o, b.toNat, r.hs (ownO r.k b), rfl, R4.1.mem, sp4, ck4, by omega, by omega, n0, by omega, fun H5 old5 mem5 => ⟨.bl wr, rfl, ?_⟩⟩
    obtain ⟨kvs4, hh4, _⟩ := R4.1.mem.hhi
    have hce4 := R4.1.mem.hce
    have apart : ∀ {x : Addr} {u : HO}, H4 x = some u → ((∃ ts, u = .tup ts) ∨ (∃ a ts, u = .frz a ts) ∨ ∃ C d fs, u = .ins C d fs) → x ≠ r.m → x ≠ r.st ∧ x ≠ r.hd ∧ x ≠ r.cd := fun {x u} e k nm => by
      refine ⟨fun z => ?_, fun z => ?_, fun z => ?_⟩
      · rw [z, R4.1.mem.hst] at e
        rcases k with ⟨_, k⟩ | ⟨_, _, k⟩ | ⟨_, _, _, k⟩ <;> rw [k] at e <;> cases e
      · rw [z, hh4] at e
        rcases k with ⟨_, k⟩ | ⟨_, _, k⟩ | ⟨_, _, _, k⟩ <;> rw [k] at e <;> cases e
      · rw [z] at e
        rcases hce4 with ⟨_, _, g, _⟩ | ⟨_, _, g, _⟩ <;> rw [g] at e <;> rcases k with ⟨_, k⟩ | ⟨_, _, k⟩ | ⟨_, _, _, k⟩ <;> rw [k] at e <;> cases e
    have kp : Keep K H4 H5 := fun x xs h => by
      rcases h with (h | ⟨u, h⟩) | h
      · have nm : x ≠ r.m := fun z => by rw [z, R4.1.mem.hob] at h; cases h
        obtain ⟨a1, a2, a3⟩ := apart h (.inl ⟨_, rfl⟩) nm
        exact .inl (.inl (old5 _ _ nm a1 a2 a3 h))
      · have nm : x ≠ r.m := fun z => by rw [z, R4.1.mem.hob] at h; cases h
        obtain ⟨a1, a2, a3⟩ := apart h (.inr (.inl ⟨_, _, rfl⟩)) nm
        exact .inl (.inr ⟨u, old5 _ _ nm a1 a2 a3 h⟩)
      · exact .inr h
    have spm : sp ≠ r.m := (ne_of_none R2.1.mem.hob nsp).symm
    obtain ⟨b1, b2, b3⟩ := apart sp4 (.inr (.inr ⟨_, _, _, rfl⟩)) spm
    obtain ⟨p1, p2, p3⟩ := apart R4.1.hpr (.inr (.inr ⟨_, _, _, rfl⟩)) R4.1.pm
    have ebl : (!wr) = decide (prd r.wd (r.val b) = o) := by
      rw [← hwr, Bool.not_not]
      exact decide_eq_decide.mpr ⟨fun h => by injection h, fun h => by rw [h]⟩
    have en : (if wr = true then (1 : Int) else 0) = if decide (prd r.wd (r.val b) = o) = true then 0 else 1 := by
      rw [← ebl]
      cases wr <;> rfl
    have R5 : PrIs P w K CM CP H5 (r.next b o sp) := by
      refine ⟨⟨old5 _ _ R4.1.pm p1 p2 p3 R4.1.hpr, kp _ _ R4.1.hsc, ok, kp _ _ R4.1.hga, w1, w4, R.1.v1, R.1.v2, ?_, R.1.pm⟩, fun q' => ?_, fun q' => ?_⟩
      · rw [en] at mem5
        exact mem5
      · show (if q' = ownO r.k b then _ else _ : List Bool).length = r.z.toNat
        split
        · rw [List.length_drop, List.length_append, hlen]
          show r.z.toNat + 1 - 1 = _
          omega
        · exact R.2.1 q'
      · show 0 ≤ ((if q' = r.cell b then some (aft r.wd (r.val b) o) else r.cs q') : Option Int).getD r.v0 ∧ ((if q' = r.cell b then some (aft r.wd (r.val b) o) else r.cs q') : Option Int).getD r.v0 ≤ top r.wd
        by_cases e : q' = r.cell b
        · rw [if_pos e]
          have := R.2.2 (r.cell b)
          exact aft_in w1 this.1 this.2
        · rw [if_neg e]
          exact R.2.2 q'
    refine ⟨wr, rfl, ?_⟩
    show Q (.bl (!wr)) H5
    rw [ebl]
    exact q H5 sp ds a wr (oKey (ownO r.k b)) (.str (txt (r.hs (ownO r.k b)))) cv ov (fun x u h1 h2 h3 h4 e => old5 x u h1 h2 h3 h4 (s24 _ _ (s02 _ _ e))) R5 (old5 _ _ spm b1 b2 b3 sp4) (kp _ _ (Same.seqT s24 ha2))
end
end Pf
namespace Pf
open PySem PySem.Spec PyProof.Rows L2 Gk Fold
/-! ### learning, properties, size, cells that are there -/
abbrev sPropS : Stmt := inClass (topS 37) 1
abbrev sPropC : Stmt := inClass (topS 37) 2
abbrev sPropE : Stmt := inClass (topS 37) 3
abbrev sPropL : Stmt := inClass (topS 37) 4
abbrev sLearn : Stmt := inClass (topS 37) 8
abbrev sCallP : Stmt := inClass (topS 37) 9
abbrev sGetP : Stmt := inClass (topS 37) 13
abbrev sInP : Stmt := inClass (topS 37) 14
abbrev sLenP : Stmt := inClass (topS 37) 15
abbrev sHas : Stmt := inClass (topS 37) 20
abbrev sLike : Stmt := topS 40
abbrev SBO : List Str := ["self", "branch", "outcome"]
theorem scLearn : FnScope SBO SBO (defScope sLearn) := ⟨rfl, rfl, rfl, by decide +kernel, rfl, by decide +kernel, by decide +kernel⟩
theorem scCallP : FnScope SBO SBO (defScope sCallP) := ⟨rfl, rfl, rfl, by decide +kernel, rfl, by decide +kernel, by decide +kernel⟩
theorem scPropS : FnScope ["self"] ["self"] (defScope sPropS) := ⟨rfl, rfl, rfl, by decide +kernel, rfl, by decide +kernel, by decide +kernel⟩
theorem scPropC : FnScope ["self"] ["self"] (defScope sPropC) := ⟨rfl, rfl, rfl, by decide +kernel, rfl, by decide +kernel, by decide +kernel⟩
theorem scPropE : FnScope ["self"] ["self"] (defScope sPropE) := ⟨rfl, rfl, rfl, by decide +kernel, rfl, by decide +kernel, by decide +kernel⟩
theorem scLenP : FnScope ["self"] ["self"] (defScope sLenP) := ⟨rfl, rfl, rfl, by decide +kernel, rfl, by decide +kernel, by decide +kernel⟩
section
variable {P : Program} {w : World} {K : PySem.W.Frag} {mg : Str → Option Value} {base : Heap}
theorem isInt_yes {lo hi i : Int} (h0 : lo ≤ i) (h1 : i ≤ hi) : isInt lo hi (.int i) = true := by
  show (decide (lo ≤ i) && decide (i ≤ hi)) = true
  rw [decide_eq_true h0, decide_eq_true h1]
  rfl
theorem ok_learn {f CM CS CP fT : Addr} {fd fdT : FuncData} (T : TPr K mg CP) (mT : Meth K CP "_take" fT) (GT : FnOk P w K mg base L2.CX0 4 fT fdT SBO (spTakeP P w K CM CS CP)) (bT : Binds K fdT SBO []) (DB : Dfn P w K mg base 3 "is_branch" ["value"] (spLook0 K (isInt 0 7))) (DO : Dfn P w K mg base 3 "is_outcome" ["value"] (spLook0 K (isInt 0 1)))
    (F : L2.Fun K "learn" "Predictor.learn" sLearn f fd) : FnOk P w K mg base L2.CX0 5 f fd SBO (spTakeP P w K CM CS CP) := by
  refine F.ok scLearn (fun vs H Q E h => ?_) (fun cdv A outer s H vs Q E hr h => ?_)
  · obtain ⟨r, b, o, rfl, _⟩ := h
    rfl
  · have h' := h
    obtain ⟨r, b, o, rfl, R, b0, b7, ho, rest⟩ := h
    refine ⟨_, pss_cons (ps_if (pt_not (pt_val (pe_d DB hr (by decide) (by rfl) (pa_cons (pv 1) pa_nil)))) (pss_one ps_dead) pss_nil)
      (pss_cons (ps_if (pt_not (pt_val (pe_d DO hr (by decide) (by rfl) (pa_cons (pv 2) pa_nil)))) (pss_one ps_dead) pss_nil)
      (pss_one (ps_ret (pe_meth (pv 0) T.cl mT GT (hr.mono (by decide)) bT .nil pass0 (pa_cons (pv 1) (pa_cons (pv 2) pa_nil)))))), ?_⟩
    refine ⟨.int b, rfl, fun _ => False, .int b, _, rfl, .int b, ?_⟩
    rw [isInt_yes b0 b7]
    refine ⟨_, rfl, .int o, rfl, fun _ => False, .int o, _, rfl, .int o, ?_⟩
    rw [isInt_yes (by omega) (by omega)]
    refine ⟨_, rfl, ?_⟩
    exact ⟨_, rfl, r.p, r.dp, _, rfl, R.1.hpr, rfl, .int b, rfl, .int o, rfl, h'⟩
theorem ok_callP {f CM CS CP fT : Addr} {fd fdT : FuncData} (T : TPr K mg CP) (mT : Meth K CP "learn" fT) (GT : FnOk P w K mg base L2.CX0 5 fT fdT SBO (spTakeP P w K CM CS CP)) (bT : Binds K fdT SBO [])
    (F : L2.Fun K "__call__" "Predictor.__call__" sCallP f fd) : FnOk P w K mg base L2.CX0 6 f fd SBO (spTakeP P w K CM CS CP) := by
  refine F.ok scCallP (fun vs H Q E h => ?_) (fun cdv A outer s H vs Q E hr h => ?_)
  · obtain ⟨r, b, o, rfl, _⟩ := h
    rfl
  · have h' := h
    obtain ⟨r, b, o, rfl, R, b0, b7, ho, rest⟩ := h
    refine ⟨_, pss_one (ps_ret (pe_meth (pv 0) T.cl mT GT (hr.mono (by decide)) bT .nil pass0 (pa_cons (pv 1) (pa_cons (pv 2) pa_nil)))), ?_⟩
    exact ⟨_, rfl, r.p, r.dp, _, rfl, R.1.hpr, rfl, .int b, rfl, .int o, rfl, h'⟩
def spPropS (P : Program) (w : World) (K : PySem.W.Frag) (CM CP : Addr) : Sp := fun vs H Q _ => ∃ r : Pd, vs = [.ref r.p] ∧ PrIs P w K CM CP H r ∧ Q (.ref r.c) H
theorem ok_propS {f CM CP : Addr} {fd : FuncData} {kk : Nat} (T : TPr K mg CP) (F : L2.Fun K "scheme" "Predictor.scheme" sPropS f fd) : FnOk P w K mg base L2.CX0 (kk + 1) f fd ["self"] (spPropS P w K CM CP) := by
  refine F.ok scPropS (fun vs H Q E h => ?_) (fun cdv A outer s H vs Q E hr h => ?_)
  · obtain ⟨r, rfl, _⟩ := h
    rfl
  · obtain ⟨r, rfl, R, q⟩ := h
    exact ⟨_, pss_one (ps_ret (pe_fld (pv 0) rfl)), ⟨_, rfl, r.p, CP, r.dp, _, _, rfl, R.1.hpr, T.cl, T.n0, prF_scheme _ _ _, q⟩⟩
def spPropC (P : Program) (w : World) (K : PySem.W.Frag) (CM CP : Addr) : Sp := fun vs H Q _ => ∃ r : Pd, vs = [.ref r.p] ∧ PrIs P w K CM CP H r ∧ Q (.ref r.g) H
theorem ok_propC {f CM CP : Addr} {fd : FuncData} {kk : Nat} (T : TPr K mg CP) (F : L2.Fun K "counter" "Predictor.counter" sPropC f fd) : FnOk P w K mg base L2.CX0 (kk + 1) f fd ["self"] (spPropC P w K CM CP) := by
  refine F.ok scPropC (fun vs H Q E h => ?_) (fun cdv A outer s H vs Q E hr h => ?_)
  · obtain ⟨r, rfl, _⟩ := h
    rfl
  · obtain ⟨r, rfl, R, q⟩ := h
    exact ⟨_, pss_one (ps_ret (pe_fld (pv 0) rfl)), ⟨_, rfl, r.p, CP, r.dp, _, _, rfl, R.1.hpr, T.cl, T.n1, prF_counter _ _ _, q⟩⟩
def spPropE (P : Program) (w : World) (K : PySem.W.Frag) (CM CP : Addr) : Sp := fun vs H Q _ => ∃ r : Pd, vs = [.ref r.p] ∧ PrIs P w K CM CP H r ∧ Q (.int r.n) H
theorem ok_propE {f CM CP : Addr} {fd : FuncData} {kk : Nat} (T : TPr K mg CP) (TM : TMem K mg CM) (F : L2.Fun K "errors" "Predictor.errors" sPropE f fd) : FnOk P w K mg base L2.CX0 (kk + 1) f fd ["self"] (spPropE P w K CM CP) := by
  refine F.ok scPropE (fun vs H Q E h => ?_) (fun cdv A outer s H vs Q E hr h => ?_)
  · obtain ⟨r, rfl, _⟩ := h
    rfl
  · obtain ⟨r, rfl, R, q⟩ := h
    exact ⟨_, pss_one (ps_ret (pe_fld (pe_fld (pv 0) rfl) rfl)), ⟨_, rfl, r.p, CP, r.dp, _, _, rfl, R.1.hpr, T.cl, T.n2, prF_memory _ _ _, r.m, CM, r.dx, _, _, rfl, R.1.mem.hob, TM.cl, TM.n3, memF_wrong _ _ _ _, q⟩⟩
/-- len of a dict of cells -/
def rLenDK : List V → Hp → VK → Prop := fun xs H Q => ∃ a k f ks, xs = [V.ref a] ∧ DK H a k f ks ∧ Q (.int ((ks.length : Nat) : Int)) H
theorem cr_lenDK {X : Cx} : CallR X (.builtin "len") rLenDK := by
  intro pins s σ H xs us Q I r h
  obtain ⟨a, k, f, ks, rfl, d, q⟩ := h
  obtain ⟨u, rfl, ru⟩ := vals1 r
  cases ru
  rcases d with ⟨_, kvs, e, ek, _⟩ | ⟨_, kvs, e, ek, _⟩
  · have l : kvs.length = ks.length := by rw [← ek, List.length_map]
    rw [← l] at q
    exact d_len I (.inl e) fun t s' I' => ⟨.int kvs.length, H, I', ⟨t, rfl⟩, q⟩
  · have l : kvs.length = ks.length := by rw [← ek, List.length_map]
    rw [← l] at q
    obtain ⟨z, hd, xs', rel, dd⟩ := dt_rd I.hok (.inl e)
    have rl : kvs.length = xs'.length := Paired.length rel
    refine call_len_dictH hd dd (by rw [← rl]; rw [sizeLine_eq] at z; omega) ?_
    rw [← rl]
    exact ⟨.int kvs.length, H, I.tok _, ⟨_, rfl⟩, q⟩
def spLenP (P : Program) (w : World) (K : PySem.W.Frag) (CM CP : Addr) : Sp := fun vs H Q _ => ∃ r : Pd, vs = [.ref r.p] ∧ PrIs P w K CM CP H r ∧ Q (.int ((r.ks.length : Nat) : Int)) H
theorem ok_lenP {f CM CP : Addr} {fd : FuncData} {kk : Nat} (T : TPr K mg CP) (TM : TMem K mg CM) (ml : mg "len" = none) (F : L2.Fun K "__len__" "Predictor.__len__" sLenP f fd) : FnOk P w K mg base L2.CX0 (kk + 1) f fd ["self"] (spLenP P w K CM CP) := by
  refine F.ok scLenP (fun vs H Q E h => ?_) (fun cdv A outer s H vs Q E hr h => ?_)
  · obtain ⟨r, rfl, _⟩ := h
    rfl
  · obtain ⟨r, rfl, R, q⟩ := h
    exact ⟨_, pss_one (ps_ret (pe_callB cr_lenDK (by rfl) ml PySem.boot_len (pa_cons (pe_fld (pe_fld (pv 0) rfl) rfl) pa_nil))), ⟨_, rfl, r.p, CP, r.dp, _, _, rfl, R.1.hpr, T.cl, T.n2, prF_memory _ _ _, r.m, CM, r.dx, _, _, rfl, R.1.mem.hob, TM.cl, TM.n2, memF_cells _ _ _ _, r.cd, r.k, _, r.ks, rfl, R.1.mem.hce, q⟩⟩
end
end Pf
namespace Pf
open PySem PySem.Spec PyProof.Rows L2 Gk Fold
/-! ### cells that are there -/
abbrev nLike : List Str := ["scheme", "value"]
theorem scLike : FnScope nLike nLike (defScope sLike) := ⟨rfl, rfl, rfl, by decide +kernel, rfl, by decide +kernel, by decide +kernel⟩
theorem scHas : FnScope ["self", "value"] ["self", "value"] (defScope sHas) := ⟨rfl, rfl, rfl, by decide +kernel, rfl, by decide +kernel, by decide +kernel⟩
theorem scInP : FnScope ["self", "x"] ["self", "x"] (defScope sInP) := ⟨rfl, rfl, rfl, by decide +kernel, rfl, by decide +kernel, by decide +kernel⟩
theorem scGetP : FnScope ["self", "at"] ["self", "at"] (defScope sGetP) := ⟨rfl, rfl, rfl, by decide +kernel, rfl, by decide +kernel, by decide +kernel⟩
theorem str_is : bootBuiltins "str" = some (.type "str") := by decide +kernel
theorem kit_strS {K : PySem.W.Frag} (t : Str) : PySem.W.kitOne K (tyD (.str t)) (.type "str") = some true := L2.kit_ty (show kitB "str" "str" = some true by decide +kernel)
section
variable {P : Program} {w : World} {K : PySem.W.Frag} {mg : Str → Option Value} {base : Heap}
def spLike (K : PySem.W.Frag) : Sp := fun vs H Q _ => ∃ (c : Addr) (v : V) (k : Str) (z : Int) (x : Option Int) (b : Nat) (h : List Bool), vs = [.ref c, v] ∧ SqT K H c (planV k z x) ∧ Ck K H v (cellD k x b h) ∧ Q (.bl true) H
theorem ok_like {f : Addr} {fd : FuncData} (DI : Dfn P w K mg base 1 "is_integer" ["value"] (spInteger K)) (DS : Dfn P w K mg base 1 "is_tuple_sized" ["value", "least", "most"] (spSized K)) (mi : mg "isinstance" = none) (ms : mg "str" = none)
    (F : L2.Fun K "_is_like_a_cell" "_is_like_a_cell" sLike f fd) : FnOk P w K mg base L2.CX0 2 f fd nLike (spLike K) := by
  refine F.ok scLike (fun vs H Q E h => ?_) (fun cdv A outer s H vs Q E hr h => ?_)
  · obtain ⟨c, v, k, z, x, b, hh, rfl, _⟩ := h
    rfl
  · obtain ⟨c, v, k, z, x, b, hh, rfl, hc, ck, q⟩ := h
    refine ⟨_, pss_cons (ps_if (pt_cmpR op_eq (pe_ix ix_tup (pv 0) pe_int (fun _ _ => rfl)) pe_str (nomark _)) (pss_one (ps_ret (pe_d DI hr (by decide) (by rfl) (pa_cons (pv 1) pa_nil)))) pss_nil)
      (pss_cons (ps_if (pt_cmpR op_eq (pe_ix ix_tup (pv 0) pe_int (fun _ _ => rfl)) pe_str (nomark _)) (pss_one (ps_ret (pe_isi (by rfl) mi (pv 1) (by rfl) ms str_is))) pss_nil)
      (pss_one (ps_ret (pe_and (pe_d DS hr (by decide) (by rfl) (pa_cons (pv 1) (pa_cons pe_int (pa_cons pe_int pa_nil)))) (pe_and (pe_d DI hr (by decide) (by rfl) (pa_cons (pe_ix ix_tup (pv 1) pe_int (fun _ _ => rfl)) pa_nil)) (pe_one (pe_isi (by rfl) mi (pe_ix ix_tup (pv 1) pe_int (fun _ _ => rfl)) (by rfl) ms str_is))))))), ?_⟩
    unfold cellD at ck
    refine ⟨_, rfl, c, _, 0, .str k, rfl, rfl, hc, planV0 _ _ _, rfl, _, rfl, ?_⟩
    by_cases c1 : k = "folded"
    · rw [if_pos c1] at ck
      obtain ⟨dp, _⟩ := ck
      cases dp
      refine ite2 (fun _ => ?_) (fun e => absurd (decide_eq_true (by rw [c1])) e)
      exact ⟨_, rfl, fun _ => False, .int _, _, rfl, .int _, q⟩
    · rw [if_neg c1] at ck
      refine ite2 (fun e => absurd (by have := of_decide_eq_true e; injection this) c1) (fun _ => ?_)
      refine ⟨_, rfl, c, _, 0, .str k, rfl, rfl, hc, planV0 _ _ _, rfl, _, rfl, ?_⟩
      by_cases c2 : k = "shared"
      · rw [if_pos c2] at ck
        obtain ⟨dp, _⟩ := ck
        cases dp
        refine ite2 (fun _ => ?_) (fun e => absurd (decide_eq_true (by rw [c2])) e)
        exact ⟨_, rfl, _, .ty "str", tyD (.str _), .type "str", _, rfl, .ty "str", (Dv.str (M := fun _ => False) (K := K) (H := H) _).ty, kit_strS _, q⟩
      · rw [if_neg c2] at ck
        refine ite2 (fun e => absurd (by have := of_decide_eq_true e; injection this) c2) (fun _ => ?_)
        obtain ⟨p, rfl, hp⟩ := ck.2 _ _ rfl
        have dv : Dv (fun _ => False) K H (.ref p) (.tuple [.int b, .str (txt hh)]) := .tup (.inl hp) (fun z => z) (.cons (.int _) (.cons (.str _) .nil))
        refine ⟨_, rfl, fun _ => False, .ref p, _, 2, 2, rfl, dv, true, rfl, iteT ?_⟩
        refine ⟨_, rfl, p, _, 0, .int b, rfl, rfl, .inl (.inl hp), rfl, fun _ => False, .int b, .int b, rfl, .int _, true, rfl, iteT ?_⟩
        exact ⟨_, rfl, p, _, 1, .str (txt hh), rfl, rfl, .inl (.inl hp), rfl, _, .ty "str", tyD (.str _), .type "str", _, rfl, .ty "str", (Dv.str (M := fun _ => False) (K := K) (H := H) _).ty, kit_strS _, q⟩
def spHas (P : Program) (w : World) (K : PySem.W.Frag) (CM CP : Addr) : Sp := fun vs H Q _ => ∃ (r : Pd) (v : V) (b : Nat) (h : List Bool), vs = [.ref r.p, v] ∧ PrIs P w K CM CP H r ∧ Ck K H v (cellD r.k r.x b h) ∧ Q (.bl (r.cs (cK r.k r.x b h)).isSome) H
theorem ok_has {f CM CP : Addr} {fd : FuncData} (T : TPr K mg CP) (TM : TMem K mg CM) (DL : Dfn P w K mg base 2 "_is_like_a_cell" ["scheme", "value"] (spLike K)) (F : L2.Fun K "_has" "Predictor._has" sHas f fd) : FnOk P w K mg base L2.CX0 3 f fd ["self", "value"] (spHas P w K CM CP) := by
  refine F.ok scHas (fun vs H Q E h => ?_) (fun cdv A outer s H vs Q E hr h => ?_)
  · obtain ⟨r, v, b, hh, rfl, _⟩ := h
    rfl
  · obtain ⟨r, v, b, hh, rfl, R, ck, q⟩ := h
    have hu : (A.deeper (envOfC "Predictor._has" (defScope sHas) s.heap.objs.size f cdv)).units + 1 < cLine := Nat.lt_of_le_of_lt (Nat.add_le_add_left (by decide : 1 ≤ 64) _) hr.units
    refine ⟨_, pss_one (ps_ret (pe_and (pe_d DL hr (by decide) (by rfl) (pa_cons (pe_fld (pv 0) rfl) (pa_cons (pv 1) pa_nil))) (pe_one (pe_cmp (pc_din hu (pv 1) (pe_fld (pe_fld (pv 0) rfl) rfl)))))), ?_⟩
    refine ⟨_, rfl, r.p, CP, r.dp, _, _, rfl, R.1.hpr, T.cl, T.n0, prF_scheme _ _ _, v, rfl, r.c, v, r.k, r.z, r.x, b, hh, rfl, R.1.hsc, ck, true, rfl, iteT ?_⟩
    refine ⟨v, rfl, _, rfl, r.p, CP, r.dp, _, _, rfl, R.1.hpr, T.cl, T.n2, prF_memory _ _ _, r.m, CM, r.dx, _, _, rfl, R.1.mem.hob, TM.cl, TM.n2, memF_cells _ _ _ _, r.cd, _, rfl, R.1.mem.hce.get ck, ?_⟩
    have e : ((r.cs (cK r.k r.x b hh)).map V.int).isSome = (r.cs (cK r.k r.x b hh)).isSome := by cases r.cs (cK r.k r.x b hh) <;> rfl
    rw [e]
    exact q
theorem ok_inP {f CM CP fH : Addr} {fd fdH : FuncData} (T : TPr K mg CP) (mH : Meth K CP "_has" fH) (GH : FnOk P w K mg base L2.CX0 3 fH fdH ["self", "value"] (spHas P w K CM CP)) (bH : Binds K fdH ["self", "value"] []) (F : L2.Fun K "__contains__" "Predictor.__contains__" sInP f fd) : FnOk P w K mg base L2.CX0 4 f fd ["self", "x"] (spHas P w K CM CP) := by
  refine F.ok scInP (fun vs H Q E h => ?_) (fun cdv A outer s H vs Q E hr h => ?_)
  · obtain ⟨r, v, b, hh, rfl, _⟩ := h
    rfl
  · have h' := h
    obtain ⟨r, v, b, hh, rfl, R, ck, q⟩ := h
    exact ⟨_, pss_one (ps_ret (pe_meth (pv 0) T.cl mH GH (hr.mono (by decide)) bH .nil pass0 (pa_cons (pv 1) pa_nil))), ⟨_, rfl, r.p, r.dp, _, rfl, R.1.hpr, rfl, v, rfl, h'⟩⟩
def spGetP (P : Program) (w : World) (K : PySem.W.Frag) (CM CP : Addr) : Sp := fun vs H Q _ => ∃ (r : Pd) (v : V) (b : Nat) (h : List Bool) (u : Int), vs = [.ref r.p, v] ∧ PrIs P w K CM CP H r ∧ Ck K H v (cellD r.k r.x b h) ∧ r.cs (cK r.k r.x b h) = some u ∧ Q (.int u) H
theorem ok_getP {f CM CP fH : Addr} {fd fdH : FuncData} (T : TPr K mg CP) (TM : TMem K mg CM) (mH : Meth K CP "_has" fH) (GH : FnOk P w K mg base L2.CX0 3 fH fdH ["self", "value"] (spHas P w K CM CP)) (bH : Binds K fdH ["self", "value"] []) (F : L2.Fun K "__getitem__" "Predictor.__getitem__" sGetP f fd) : FnOk P w K mg base L2.CX0 4 f fd ["self", "at"] (spGetP P w K CM CP) := by
  refine F.ok scGetP (fun vs H Q E h => ?_) (fun cdv A outer s H vs Q E hr h => ?_)
  · obtain ⟨r, v, b, hh, u, rfl, _⟩ := h
    rfl
  · obtain ⟨r, v, b, hh, u, rfl, R, ck, eu, q⟩ := h
    have hu : (A.deeper (envOfC "Predictor.__getitem__" (defScope sGetP) s.heap.objs.size f cdv)).units + 1 < cLine := Nat.lt_of_le_of_lt (Nat.add_le_add_left (by decide : 1 ≤ 64) _) hr.units
    refine ⟨_, pss_cons (ps_if (pt_not (pt_val (pe_meth (pv 0) T.cl mH GH (hr.mono (by decide)) bH .nil pass0 (pa_cons (pv 1) pa_nil)))) (pss_one ps_dead) pss_nil)
      (pss_one (ps_ret (pe_dget hu (pe_fld (pe_fld (pv 0) rfl) rfl) (pv 1) (fun _ _ => rfl)))), ?_⟩
    refine ⟨_, rfl, r.p, r.dp, _, rfl, R.1.hpr, rfl, v, rfl, r, v, b, hh, rfl, R, ck, ?_⟩
    rw [eu]
    refine ⟨_, rfl, ?_⟩
    have g := R.1.mem.hce.get ck
    rw [eu] at g
    exact ⟨_, rfl, r.p, CP, r.dp, _, _, rfl, R.1.hpr, T.cl, T.n2, prF_memory _ _ _, r.m, CM, r.dx, _, _, rfl, R.1.mem.hob, TM.cl, TM.n2, memF_cells _ _ _ _, v, rfl, r.cd, .int u, rfl, g, q⟩
end
end Pf
namespace Pf
open PySem PySem.Spec PyProof.Rows L2 Gk Fold
/-! ### what was learned -/
theorem scPropL : FnScope ["self", "step"] ["self"] (defScope sPropL) := ⟨rfl, rfl, rfl, by decide +kernel, rfl, by decide +kernel, by decide +kernel⟩
theorem pe_fldK {X : Cx} {e : Expr} {ta : TE} {f : Str} {pos : Pos} (K : PySem.W.Frag) (he : PE X e ta) (hb : attributeBase e f X.env (eval e X.env) = eval e X.env) (h : X.K = K := by rfl) : PE X (.Attribute e f pos) (tFld K ta f) := by
  subst h
  exact pe_fld he hb
/-- a step of a pair -/
def StepIs (K : PySem.W.Frag) (CS : Addr) (H : Hp) (v : V) (p : Int × Int) : Prop := ∃ s ds a wr ow oh pl ov, v = .ref s ∧ H s = some (.ins CS ds (stepF (.ref a) wr ow oh pl ov)) ∧ SqT K H a [.int p.1, .int p.2]
def StepsAt (K : PySem.W.Frag) (CS : Addr) (H : Hp) (steps : List V) (ps : List (Int × Int)) : Prop := steps.length = ps.length ∧ ∀ (i : Nat) (v : V) (p : Int × Int), steps[i]? = some v → ps[i]? = some p → StepIs K CS H v p
theorem StepIs.keep {K : PySem.W.Frag} {CS : Addr} {H H' : Hp} {v : V} {p : Int × Int} (h : StepIs K CS H v p) (kp : Keep K H H') (s : ∀ a d pr wr ow oh pl ov, H a = some (.ins CS d (stepF pr wr ow oh pl ov)) → H' a = some (.ins CS d (stepF pr wr ow oh pl ov))) : StepIs K CS H' v p := by
  obtain ⟨q, ds, a, wr, ow, oh, pl, ov, e, h1, h2⟩ := h
  exact ⟨q, ds, a, wr, ow, oh, pl, ov, e, s _ _ _ _ _ _ _ _ h1, kp _ _ h2⟩
theorem StepsAt.snoc {K : PySem.W.Frag} {CS : Addr} {H H' : Hp} {steps : List V} {ps : List (Int × Int)} {v : V} {p : Int × Int} (h : StepsAt K CS H steps ps) (kp : Keep K H H') (s : ∀ a d pr wr ow oh pl ov, H a = some (.ins CS d (stepF pr wr ow oh pl ov)) → H' a = some (.ins CS d (stepF pr wr ow oh pl ov))) (hv : StepIs K CS H' v p) : StepsAt K CS H' (steps ++ [v]) (ps ++ [p]) := by
  refine ⟨by rw [List.length_append, List.length_append, h.1]; rfl, fun i v' p' e1 e2 => ?_⟩
  rcases Nat.lt_or_ge i steps.length with a | a
  · rw [List.getElem?_append_left a] at e1
    rw [List.getElem?_append_left (by rw [← h.1]; exact a)] at e2
    exact (h.2 i v' p' e1 e2).keep kp s
  · rw [List.getElem?_append_right a] at e1
    rw [List.getElem?_append_right (by rw [← h.1]; exact a), ← h.1] at e2
    have i0 : i - steps.length = 0 := by
      have := (List.getElem?_eq_some_iff.mp e1).1
      simp at this
      omega
    rw [i0] at e1 e2
    obtain rfl := Option.some.inj e1
    obtain rfl := Option.some.inj e2
    exact hv
section
variable {P : Program} {w : World} {K : PySem.W.Frag} {mg : Str → Option Value} {base : Heap}
def spPropL (P : Program) (w : World) (K : PySem.W.Frag) (CM CS CP : Addr) : Sp := fun vs H Q _ => ∃ (r : Pd) (ps : List (Int × Int)), vs = [.ref r.p] ∧ PrIs P w K CM CP H r ∧ StepsAt K CS H r.steps ps ∧ ps.length ≤ 100000 ∧ ∀ H' t as, Same H H' → SqT K H' t as → DpAll K H' as (ps.map pd) → Q (.ref t) H'
theorem ok_propL {f CM CS CP : Addr} {fd : FuncData} {kk : Nat} (T : TPr K mg CP) (TM : TMem K mg CM) (TS : TStep K mg CS) (mt : mg "tuple" = none) (F : L2.Fun K "learned" "Predictor.learned" sPropL f fd) : FnOk P w K mg base L2.CX0 (kk + 1) f fd ["self"] (spPropL P w K CM CS CP) := by
  refine F.ok scPropL (fun vs H Q E h => ?_) (fun cdv A outer s H vs Q E hr h => ?_)
  · obtain ⟨r, ps, rfl, _⟩ := h
    rfl
  · obtain ⟨r, ps, rfl, R, st, pl, q⟩ := h
    refine ⟨_, pss_one (ps_ret (pe_callTy call_tuple_of (by rfl) mt (by decide +kernel) (pa_cons (pe_lc (own := [("step", 1)]) (g := gName 1) (by rfl) scPropL.nd (pi_list (pe_fld (pe_fld (pv 0) rfl) rfl)) (blkOk_by (N := ["self", "step"]) (sc := defScope sPropL) (by decide +kernel))
        (fun _ _ _ _ _ => pg_name (i := 1) scPropL.nd rfl (.inl rfl)) (fun _ _ _ _ _ => pts_nil) (fun _ _ _ _ _ => pe_fldK K (pv 1) rfl)) pa_nil))), ?_⟩
    refine ⟨_, rfl, r.p, CP, r.dp, _, _, rfl, R.1.hpr, T.cl, T.n2, prF_memory _ _ _, r.m, CM, r.dx, _, _, rfl, R.1.mem.hob, TM.cl, TM.n0, memF_steps _ _ _ _, r.st, rfl, ⟨_, SqL.of R.1.mem.hst⟩, fun D nD => ?_⟩
    refine lc_list (K := K) (a := r.st) (xs := r.steps) (fun j H' => Same H H' ∧ ∃ as, H' D = some (.lst as) ∧ DpAll K H' as ((ps.take j).map pd)) ⟨same_new nD, [], upd_same, .nil⟩ (fun j H' _ hp => SqL.of (hp.1 _ _ R.1.mem.hst)) (fun j v H3 hv hp => ?_) (fun H3 hp => ?_)
    · obtain ⟨s3, as, hD, dp⟩ := hp
      have hj : j < ps.length := by
        have := (List.getElem?_eq_some_iff.mp hv).1
        rw [← st.1]
        exact this
      have hpj : ps[j]? = some ps[j] := List.getElem?_eq_getElem hj
      obtain ⟨sp, ds, a, wr, ow, oh, plc, ov, rfl, h1, h2⟩ := st.2 j v _ hv hpj
      have asl : as.length = j := by
        have := DpAll.len dp
        rw [List.length_map, List.length_take] at this
        omega
      have kw : Keep K H3 (upd H3 D (.lst (as ++ [.ref a]))) := keep_wr hD
      refine ⟨rfl, _, rfl, sp, CS, ds, _, _, rfl, s3 _ _ h1, TS.cl, TS.n0, stepF_pair _ _ _ _ _ _, as, hD, Nat.lt_of_le_of_lt (by omega : as.length ≤ 100000) (by decide), fun b o e => by rw [upd_ne (ne_of_none e nD)]; exact s3 _ _ e, as ++ [.ref a], upd_same, ?_⟩
      rw [List.take_succ, hpj]
      show DpAll K _ _ (List.map pd (ps.take j ++ [ps[j]]))
      rw [List.map_append]
      exact DpAll.app (pairs_keep dp kw) (.cons (.tup (kw _ _ (Same.seqT s3 h2)) (.cons (.int _) (.cons (.int _) .nil))) .nil)
    · obtain ⟨s3, as, hD, dp⟩ := hp
      rw [st.1, List.take_length] at dp
      exact ⟨D, as, rfl, .inl ⟨SqL.of hD, fun t nt => q _ t as (s3.trans (same_new nt)) (.inl (.inl upd_same)) (pairs_keep dp (Same.keep (same_new nt)))⟩⟩
end
end Pf
namespace Pf
open PySem PySem.Spec PyProof.Rows L2 Gk Fold
/-! ### the history behind a list of pairs -/
def pushH (k : Str) (h : Option Int → List Bool) (p : Int × Int) : Option Int → List Bool := fun q => if q = ownO k p.1 then (h (ownO k p.1) ++ [decide (p.2 = 1)]).drop 1 else h q
def hsP (k : Str) (L : Nat) (ps : List (Int × Int)) : Option Int → List Bool := ps.foldl (pushH k) fun _ => List.replicate L false
theorem hsP_snoc (k : Str) (L : Nat) (ps : List (Int × Int)) (p : Int × Int) : hsP k L (ps ++ [p]) = pushH k (hsP k L ps) p := by
  unfold hsP
  rw [List.foldl_append]
  rfl
/-- the outcomes that count for a branch -/
def deedsP (k : Str) (b : Int) (ps : List (Int × Int)) : List Int := (ps.filter fun p => decide (k ≠ "own" ∨ p.1 = b)).map (·.2)
theorem deedsP_snoc (k : Str) (b : Int) (ps : List (Int × Int)) (p : Int × Int) : deedsP k b (ps ++ [p]) = deedsP k b ps ++ if k ≠ "own" ∨ p.1 = b then [p.2] else [] := by
  unfold deedsP
  rw [List.filter_append, List.map_append]
  congr 1
  show List.map _ (List.filter _ [p]) = _
  rw [List.filter_cons]
  by_cases e : k ≠ "own" ∨ p.1 = b
  · rw [if_pos e, if_pos (decide_eq_true e)]
    rfl
  · rw [if_neg e, if_neg (by rw [decide_eq_true_eq]; exact e)]
    rfl
abbrev bitsP (ds : List Int) : List Bool := ds.map fun o => decide (o = 1)
theorem hsP_deeds (k : Str) (L : Nat) (b : Int) : ∀ (n : Nat) (ps : List (Int × Int)), ps.length = n → hsP k L ps (ownO k b) = (List.replicate L false ++ bitsP (deedsP k b ps)).drop (deedsP k b ps).length
  | 0, ps, h => by
    rw [List.eq_nil_of_length_eq_zero h]
    show List.replicate L false = (List.replicate L false ++ []).drop 0
    rw [List.append_nil]
    rfl
  | n + 1, ps, h => by
    obtain ⟨init, p, rfl⟩ : ∃ init p, ps = init ++ [p] := ⟨ps.dropLast, ps.getLast (fun z => by rw [z] at h; simp at h), (List.dropLast_concat_getLast _).symm⟩
    have hi : init.length = n := by rw [List.length_append] at h; simp at h; omega
    have ih := hsP_deeds k L b n init hi
    rw [hsP_snoc, deedsP_snoc]
    unfold pushH
    have same : ownO k b = ownO k p.1 ↔ (k ≠ "own" ∨ p.1 = b) := by
      unfold ownO
      by_cases c : k = "own"
      · rw [if_pos c, if_pos c]
        constructor
        · intro z
          exact .inr (Option.some.inj z).symm
        · rintro (z | z)
          · exact absurd c z
          · rw [z]
      · rw [if_neg c, if_neg c]
        exact ⟨fun _ => .inl c, fun _ => rfl⟩
    by_cases e : k ≠ "own" ∨ p.1 = b
    · rw [if_pos (same.mpr e), if_pos e, ← same.mpr e, ih, List.length_append, show bitsP (deedsP k b init ++ [p.2]) = bitsP (deedsP k b init) ++ [decide (p.2 = 1)] from List.map_append, ← List.append_assoc]
      have le : (deedsP k b init).length ≤ (List.replicate L false ++ bitsP (deedsP k b init)).length := by
        rw [List.length_append, List.length_replicate, List.length_map]
        omega
      show _ = ((List.replicate L false ++ bitsP (deedsP k b init)) ++ [decide (p.2 = 1)]).drop ((deedsP k b init).length + 1)
      rw [← List.drop_drop, List.drop_append_of_le_length le]
    · rw [if_neg (fun z => e (same.mp z)), if_neg e, List.append_nil, ih]
/-- as the law says it -/
theorem last_shown (L : Nat) (ds : List Int) : (List.replicate L false ++ bitsP ds).drop ds.length = List.replicate (L - min ds.length L) false ++ bitsP (ds.drop (ds.length - min ds.length L)) := by
  rcases Nat.lt_or_ge ds.length L with a | a
  · rw [Nat.min_eq_left (by omega), Nat.sub_self, List.drop_zero, List.drop_append_of_le_length (by rw [List.length_replicate]; omega), List.drop_replicate]
  · rw [Nat.min_eq_right a, Nat.sub_self, List.replicate_zero, List.nil_append]
    have : ds.length = (List.replicate L false).length + (ds.length - L) := by rw [List.length_replicate]; omega
    conv => lhs; rw [this]
    rw [← List.drop_drop, List.drop_left]
    show List.drop _ (List.map _ ds) = List.map _ (List.drop _ ds)
    rw [List.map_drop]
end Pf
/-! del d[k] of a dict with keys of either kind. -/
namespace Gk
open PySem PySem.Spec PyProof.Rows L2
/-- del d[y] leaves H' -/
def DDel (H : Hp) (a : Addr) (y : V) (H' : Hp) : Prop :=
  (∃ kvs k, H a = some (.dK kvs) ∧ y = kV k ∧ (valV kvs k).isSome = true ∧ H' = upd H a (.dK (dropK kvs k))) ∨
  ∃ kvs k b, H a = some (.dT kvs) ∧ y = .ref b ∧ H b = some (.tup (k.map kV)) ∧ (valV kvs k).isSome = true ∧ H' = upd H a (.dT (dropK kvs k))
def tDDelC (td ty : TE) : TS := fun D σ H => td σ H fun x H1 => ty σ H1 fun y H2 => ∃ a H3, x = .ref a ∧ DDel H2 a y H3 ∧ D.nx σ H3
section
variable {X : Cx}
theorem d_delItemT {pins : List (Addr × Obj)} {σ : L2.St} {H : Hp} {s : Shared} {E : Value → Shared → Prop} {a b : Addr} {kvs : List (List L2.Key × V)} {k : List L2.Key} {Q : Unit → Shared → Prop} (hu : X.A.units + 1 < cLine) (I : Inv X pins σ H s) (ha : H a = some (.dT kvs)) (hb : H b = some (.tup (k.map kV))) (l : (valV kvs k).isSome = true)
    (h : ∀ s', Inv X pins σ (upd H a (.dT (dropK kvs k))) s' → Q () s') : wpAny (model X.prog X.w) X.A (delItem (.ref a) (.ref b)) Q E s := by
  obtain ⟨z, hd, xs', rel, dd⟩ := dt_of I.hok ha
  have hz : xs'.length ≤ sizeLine := by rw [← Paired.length rel]; exact z
  obtain ⟨p, hp⟩ : ∃ p, atKey xs' k = some p := by
    cases e : atKey xs' k with
    | some p => exact ⟨p, rfl⟩
    | none =>
      have r := rel.val k
      rw [e] at r
      cases ev : valV kvs k with
      | none => rw [ev] at l; cases l
      | some v0 =>
        rw [ev] at r
        exact (show False from r).elim
  refine wpAny_delItem_heap (hsz := hz) (tupleKind_room_in1 hu) (key_of I.hok hb) hd dd hp fun h' dd' hs => ?_
  obtain ⟨o, es, ep, hq, h2, h3, h4, _, h5⟩ := dd'
  exact h _ (d_write I (by rw [ha]; exact True.intro) hs ⟨o, hq⟩ ⟨Nat.le_trans (dropK_le kvs k) z, hd, _, (L2.DX.KT_drop k rel).keeps (fun c ys ec => (by rw [upd_ne (ne_of ec ha (fun z => nomatch z))]; exact ec)), o, es, ep, hq, h2, h3, h4, h5⟩)
theorem ps_ddelC {o i : Expr} {td ty : TE} {tpos pos : Pos} (hu : X.A.units + 1 < cLine) (ho : PE X o td) (hi : PE X i ty) : PS X (.Delete [.Subscript o i tpos] pos) (tDDelC td ty) := by
  refine ⟨fun pins s σ H D I h => ?_⟩
  refine wpAny_Delete (wpAny_deleteEach_cons (wpAny_delete_Subscript (thn (ho.run pins s σ H _ I h) fun u s1 ⟨x, H1, I1, rx, q1⟩ => thn (hi.run pins s1 σ H1 _ I1 q1) fun iv s2 ⟨y, H2, I2, ry, a, H3, ex, e, q2⟩ => ?_)))
  subst ex
  obtain rfl : u = Value.ref a := rx
  rcases e with ⟨kvs, k, e, ey, l, rfl⟩ | ⟨kvs, k, b, e, ey, eb, l, rfl⟩
  · subst ey
    exact d_delItem I2 e ry l fun s3 I3 => wpAny_deleteEach_nil ⟨σ, _, I3, q2⟩
  · subst ey
    obtain rfl : iv = Value.ref b := ry
    exact d_delItemT hu I2 e eb l fun s3 I3 => wpAny_deleteEach_nil ⟨σ, _, I3, q2⟩
end
end Gk
namespace Pf
open PySem PySem.Spec PyProof.Rows L2 Gk
/-! ### a step taken back -/
theorem valV_drop {κ : Type} [DecidableEq κ] (k q : κ) : ∀ kvs : List (κ × V), valV (dropK kvs k) q = if q = k then none else valV kvs q
  | [] => by
    show none = _
    split <;> rfl
  | p :: r => by
    have ih := valV_drop k q r
    by_cases e : p.1 = k
    · have z : dropK (p :: r) k = dropK r k := List.filter_cons_of_neg (by simp [e])
      rw [z, ih]
      by_cases eq : q = k
      · rw [if_pos eq, if_pos eq]
      · rw [if_neg eq, if_neg eq]
        unfold valV
        rw [List.find?_cons_of_neg (by simp [e]; exact fun z => eq z.symm)]
    · have z : dropK (p :: r) k = p :: dropK r k := List.filter_cons_of_pos (by simp [e])
      rw [z]
      by_cases eq : p.1 = q
      · have nq : q ≠ k := fun z => e (eq.trans z)
        rw [if_neg nq]
        unfold valV
        rw [List.find?_cons_of_pos (by simp [eq]), List.find?_cons_of_pos (by simp [eq])]
      · have a1 : valV (p :: dropK r k) q = valV (dropK r k) q := by unfold valV; rw [List.find?_cons_of_neg (by simp [eq])]
        have a2 : valV (p :: r) q = valV r q := by unfold valV; rw [List.find?_cons_of_neg (by simp [eq])]
        rw [a1, a2, ih]
theorem map_dropK {κ : Type} [DecidableEq κ] {g : κ → CK} (inj : ∀ a b, g a = g b → a = b) (kvs : List (κ × V)) (k : κ) : (dropK kvs k).map (fun e => g e.1) = (kvs.map (fun e => g e.1)).filter (fun q => decide (q ≠ g k)) := by
  unfold dropK
  rw [List.filter_map]
  congr 1
  refine List.filter_congr fun e _ => ?_
  show decide (e.1 ≠ k) = decide (g e.1 ≠ g k)
  by_cases h : e.1 = k
  · simp [h]
  · have : ¬ g e.1 = g k := fun z => h (inj _ _ z)
    simp [h, this]
/-- del d[c] -/
theorem DK.del {k : Str} {x : Option Int} {b : Nat} {h : List Bool} {H : Hp} {K : PySem.W.Frag} {v : V} {a : Addr} {f : CK → Option V} {ks : List CK} (d : DK H a k f ks) (c : Ck K H v (cellD k x b h)) (hs : (f (cK k x b h)).isSome = true) :
    ∃ H', DDel H a v H' ∧ DK H' a k (fun q => if q = cK k x b h then none else f q) (ks.filter fun q => decide (q ≠ cK k x b h)) ∧ ∀ z, z ≠ a → H' z = H z := by
  rcases d with ⟨t, kvs, e, ek, l⟩ | ⟨t, kvs, e, ek, l⟩
  · obtain ⟨q, eq, rfl⟩ := cK_inl c t
    rw [eq] at hs ⊢
    refine ⟨_, .inl ⟨kvs, q, e, rfl, by rw [l q]; exact hs, rfl⟩, .inl ⟨t, _, upd_same, ?_, fun r => ?_⟩, fun z hz => upd_ne hz⟩
    · rw [← ek]
      exact map_dropK (g := Sum.inl) (fun a b z => Sum.inl.inj z) kvs q
    · rw [valV_drop, l]
      dsimp only
      by_cases er : r = q
      · rw [if_pos er, if_pos (by rw [er])]
      · rw [if_neg er, if_neg (fun z => er (Sum.inl.inj z))]
  · obtain ⟨q, p, eq, rfl, hp⟩ := cK_inr c t
    rw [eq] at hs ⊢
    refine ⟨_, .inr ⟨kvs, q, p, e, rfl, hp, by rw [l q]; exact hs, rfl⟩, .inr ⟨t, _, upd_same, ?_, fun r => ?_⟩, fun z hz => upd_ne hz⟩
    · rw [← ek]
      exact map_dropK (g := Sum.inr) (fun a b z => Sum.inr.inj z) kvs q
    · rw [valV_drop, l]
      dsimp only
      by_cases er : r = q
      · rw [if_pos er, if_pos (by rw [er])]
      · rw [if_neg er, if_neg (fun z => er (Sum.inr.inj z))]
abbrev sTakeBack : Stmt := inClass (topS 34) 2
theorem scTakeBack : FnScope ["self", "step"] ["self"] (defScope sTakeBack) := ⟨rfl, rfl, rfl, by decide +kernel, rfl, by decide +kernel, by decide +kernel⟩
theorem stepF_oldh (pr : V) (wr : Bool) (ow oh pl ov : V) : (stepF pr wr ow oh pl ov).lookup ("old_history" : Str) = some oh := rfl
theorem stepF_oldv (pr : V) (wr : Bool) (ow oh pl ov : V) : (stepF pr wr ow oh pl ov).lookup ("old_value" : Str) = some ov := rfl
/-- what a step keeps of a cell's old value -/
def ovV (u : Option Int) : V := (u.map V.int).getD .non
section
variable {P : Program} {w : World} {K : PySem.W.Frag} {mg : Str → Option Value} {base : Heap}
def spTakeBack (P : Program) (w : World) (K : PySem.W.Frag) (CM CS : Addr) : Sp := fun vs H Q _ => ∃ (m dx st hd cd sp ds : Addr) (k : Str) (x : Option Int) (steps : List V) (hs : Option Int → List Bool) (L : Nat) (cs : CK → Option Int) (ks : List CK) (n : Int) (many : Nat) (pr : V) (wr : Bool) (o : Option Int) (pl : V) (hb : List Bool) (ov : Option Int) (b : Nat) (hh : List Bool),
  vs = [.ref m] ∧ MemAt P w CM k H m dx st hd cd (steps ++ [.ref sp]) hs L cs ks n many ∧ H sp = some (.ins CS ds (stepF pr wr (oKey o) (.str (txt hb)) pl (ovV ov))) ∧ Ck K H pl (cellD k x b hh) ∧ (cs (cK k x b hh)).isSome = true ∧ many ≤ 100000 ∧
  ∀ H', (∀ a u, a ≠ m → a ≠ st → a ≠ hd → a ≠ cd → H a = some u → H' a = some u) → MemAt P w CM k H' m dx st hd cd steps (fun q => if q = o then hb else hs q) L (fun q => if q = cK k x b hh then ov else cs q) (if ov = none then ks.filter (fun q => decide (q ≠ cK k x b hh)) else ks) (n - if wr then 1 else 0) (many + 1) → Q pr H'
theorem ok_takeBack {f CM CS : Addr} {fd : FuncData} (T : TMem K mg CM) (S : TStep K mg CS) (F : L2.Fun K "take_back" "Memory.take_back" sTakeBack f fd) : FnOk P w K mg base L2.CX0 1 f fd ["self"] (spTakeBack P w K CM CS) := by
  refine F.ok scTakeBack (fun vs H Q E h => ?_) (fun cdv A outer s H vs Q E hr h => ?_)
  · obtain ⟨m, dx, st, hd, cd, sp, ds, k, x, steps, hs, L, cs, ks, n, many, pr, wr, o, pl, hb, ov, b, hh, rfl, _⟩ := h
    rfl
  · obtain ⟨m, dx, st, hd, cd, sp, ds, k, x, steps, hs, L, cs, ks, n, many, pr, wr, o, pl, hb, ov, b, hh, rfl, M, hsp, ck, hsome, ml, q⟩ := h
    have hu : (A.deeper (envOfC "Memory.take_back" (defScope sTakeBack) s.heap.objs.size f cdv)).units + 1 < cLine := Nat.lt_of_le_of_lt (Nat.add_le_add_left (by decide : 1 ≤ 64) _) hr.units
    refine ⟨_, pss_cons (ps_set (i := 1) scTakeBack.nd rfl (.inl rfl) (pe_bm0 PySem.F.plainAttrs_list PySem.F.slot_list_pop PySem.F.type_list_pop mt_pop (pe_fld (pv 0) rfl)))
      (pss_cons (ps_asg (pe_fld (pv 1) rfl) (pg_sub (pe_fld (pv 0) rfl) (pe_fld (pv 1) rfl) (set_dN P w)))
      (C8.pss_cut (ps_if (pt_cmpR op_isN (pe_fld (pv 1) rfl) pe_non (nomark _)) (pss_one (ps_ddelC hu (pe_fld (pv 0) rfl) (pe_fld (pv 1) rfl))) (pss_one (ps_asg (pe_fld (pv 1) rfl) (pg_sub (pe_fld (pv 0) rfl) (pe_fld (pv 1) rfl) (set_dict hu)))))
      (pss_cons (ps_if (pt_val (pe_fld (pv 1) rfl)) (pss_one (ps_fldaug (pv 0) pe_int in_sub)) pss_nil)
      (pss_one (ps_ret (pe_fld (pv 1) rfl)))))), ?_⟩
    obtain ⟨hm, hst, ⟨kvs, hhd, hkl, hkv⟩, hvd, hks, d1, d2, d3⟩ := M
    have mst : m ≠ st := fun z => by rw [z, hst] at hm; cases hm
    have spst : sp ≠ st := fun z => by rw [z, hst] at hsp; cases hsp
    have sphd : sp ≠ hd := fun z => by rw [z, hhd] at hsp; cases hsp
    refine ⟨_, rfl, m, CM, dx, _, _, rfl, hm, T.cl, T.n0, memF_steps _ _ _ _, .inl ⟨rfl, _, SqL.of hst⟩, st, steps ++ [.ref sp], .ref sp, rfl, rfl, hst, by simp, go_name ?_⟩
    rw [List.dropLast_concat]
    have old1 : ∀ a u, a ≠ st → H a = some u → (upd H st (.lst steps)) a = some u := fun a u na e => by rw [upd_ne na]; exact e
    have st1 : (upd H st (.lst steps)) st = some (.lst steps) := upd_same
    have k01 : Keep K H (upd H st (.lst steps)) := keep_wr hst
    generalize upd H st (.lst steps) = H1 at old1 st1 k01 ⊢
    have mcd : m ≠ cd := fun z => by
      rcases hvd with ⟨_, _, e, _⟩ | ⟨_, _, e, _⟩ <;> rw [← z, hm] at e <;> cases e
    have stcd : st ≠ cd := fun z => by
      rcases hvd with ⟨_, _, e, _⟩ | ⟨_, _, e, _⟩ <;> rw [← z, hst] at e <;> cases e
    have spcd : sp ≠ cd := fun z => by
      rcases hvd with ⟨_, _, e, _⟩ | ⟨_, _, e, _⟩ <;> rw [← z, hsp] at e <;> cases e
    have hm1 := old1 m _ mst hm
    have hsp1 := old1 sp _ spst hsp
    have hhd1 := old1 hd _ d1 hhd
    have hvd1 : DK H1 cd k (fun q => (cs q).map V.int) ks := hvd.same fun o e => old1 cd o stcd.symm e
    have ck1 : Ck K H1 pl (cellD k x b hh) := ⟨Dp.keep k01 _ _ (cell_tups _ _ _ _) ck.1, ck.2.same fun b ts e => old1 b _ (fun z => by rw [z, hst] at e; cases e) e⟩
    have big : 100001 < sizeLine := by decide
    refine ⟨_, rfl, sp, CS, ds, _, _, rfl, hsp1, S.cl, S.n3, stepF_oldh _ _ _ _ _ _, _, rfl, m, CM, dx, _, _, rfl, hm1, T.cl, T.n1, memF_hist _ _ _ _, _, rfl, sp, CS, ds, _, _, rfl, hsp1, S.cl, S.n2, stepF_owner _ _ _ _ _ _, hd, kvs, o, rfl, rfl, hhd1, by omega, ?_⟩
    generalize hN : dN P w hd (putK kvs o (.str (txt hb))) = ob
    have old2 : ∀ a u, a ≠ hd → H1 a = some u → (upd H1 hd ob) a = some u := fun a u na e => by rw [upd_ne na]; exact e
    have hd2 : (upd H1 hd ob) hd = some ob := upd_same
    have k12 : Keep K H1 (upd H1 hd ob) := keep_but hhd1 (fun ts z => by cases z) (fun _ _ z => by cases z) fun b nb => upd_ne nb
    generalize upd H1 hd ob = H2 at old2 hd2 k12 ⊢
    have hm2 := old2 m _ d2.symm hm1
    have hsp2 := old2 sp _ sphd hsp1
    have st2 := old2 st _ d1.symm st1
    have hvd2 : DK H2 cd k (fun q => (cs q).map V.int) ks := hvd1.same fun o e => old2 cd o d3.symm e
    have ck2 : Ck K H2 pl (cellD k x b hh) := ⟨Dp.keep k12 _ _ (cell_tups _ _ _ _) ck1.1, ck1.2.same fun b ts e => old2 b _ (fun z => by rw [z, hhd1] at e; cases e) e⟩
    refine ⟨fun σ H' => σ = [some (.ref m), some (.ref sp)] ∧ (∀ a, a ≠ cd → H' a = H2 a) ∧ DK H' cd k (fun q => ((if q = cK k x b hh then ov else cs q) : Option Int).map V.int) (if ov = none then ks.filter (fun q => decide (q ≠ cK k x b hh)) else ks), ?_, fun σ H3 hM => ?_⟩
    · refine ⟨_, rfl, sp, CS, ds, _, _, rfl, hsp2, S.cl, S.n5, stepF_oldv _ _ _ _ _ _, rfl, _, rfl, ?_⟩
      cases ov with
      | none =>
        refine iteT ?_
        obtain ⟨H3, del3, vd3, ne3⟩ := hvd2.del ck2 (by cases e : cs (cK k x b hh) with
          | none => rw [e] at hsome; cases hsome
          | some u => rfl)
        refine ⟨_, rfl, m, CM, dx, _, _, rfl, hm2, T.cl, T.n2, memF_cells _ _ _ _, _, rfl, sp, CS, ds, _, _, rfl, hsp2, S.cl, S.n4, stepF_place _ _ _ _ _ _, cd, H3, rfl, del3, rfl, ne3, ?_⟩
        have efs : (fun q => ((if q = cK k x b hh then none else cs q) : Option Int).map V.int) = fun q => if q = cK k x b hh then none else (cs q).map V.int := by
          funext q
          split <;> rfl
        rw [efs, if_pos rfl]
        exact vd3
      | some u =>
        refine iteF ?_
        obtain ⟨H3, put3, vd3, ne3⟩ := hvd2.put (y := .int u) ck2 (by omega)
        refine ⟨_, rfl, sp, CS, ds, _, _, rfl, hsp2, S.cl, S.n5, stepF_oldv _ _ _ _ _ _, _, rfl, m, CM, dx, _, _, rfl, hm2, T.cl, T.n2, memF_cells _ _ _ _, _, rfl, sp, CS, ds, _, _, rfl, hsp2, S.cl, S.n4, stepF_place _ _ _ _ _ _, cd, H3, rfl, put3, rfl, ne3, ?_⟩
        have efs : (fun q => ((if q = cK k x b hh then some u else cs q) : Option Int).map V.int) = fun q => if q = cK k x b hh then some (V.int u) else (cs q).map V.int := by
          funext q
          split <;> rfl
        rw [efs, if_neg (by simp)]
        rw [if_neg (by cases e : cs (cK k x b hh) with
          | none => rw [e] at hsome; cases hsome
          | some u => simp)] at vd3
        exact vd3
    obtain ⟨rfl, ne3, vd3⟩ := hM
    have hm3 : H3 m = some (.ins CM dx (memF st hd cd n)) := by rw [ne3 m mcd]; exact hm2
    have hsp3 : H3 sp = some (.ins CS ds (stepF pr wr (oKey o) (.str (txt hb)) pl (ovV ov))) := by rw [ne3 sp spcd]; exact hsp2
    have lks : (if ov = none then ks.filter (fun q => decide (q ≠ cK k x b hh)) else ks).length ≤ many + 1 := by
      split
      · exact Nat.le_trans (List.length_filter_le _ _) (by omega)
      · omega
    have mem : ∀ H' (n' : Int), H' m = some (.ins CM dx (memF st hd cd n')) → (∀ a, a ≠ m → H' a = H3 a) → MemAt P w CM k H' m dx st hd cd steps (fun q => if q = o then hb else hs q) L (fun q => if q = cK k x b hh then ov else cs q) (if ov = none then ks.filter (fun q => decide (q ≠ cK k x b hh)) else ks) n' (many + 1) := fun H' n' hm' ne' =>
      ⟨hm', by rw [ne' st mst.symm, ne3 st stcd]; exact st2, ⟨_, by rw [ne' hd d2, ne3 hd d3, hd2, ← hN], by have := length_putK kvs o (.str (txt hb)); omega, fun q' => by
        rw [valV_put]
        by_cases eo : q' = o
        · rw [if_pos eo, if_pos eo]
          rfl
        · rw [if_neg eo, if_neg eo]
          exact hkv q'⟩, vd3.same fun u e => by rw [ne' cd mcd.symm]; exact e, lks, d1, d2, d3⟩
    have old : ∀ a u, a ≠ st → a ≠ hd → a ≠ cd → H a = some u → H3 a = some u := fun a u n1 n2 n3 e => by rw [ne3 a n3]; exact old2 a u n2 (old1 a u n1 e)
    refine ⟨_, rfl, sp, CS, ds, _, _, rfl, hsp3, S.cl, S.n1, stepF_wrong _ _ _ _ _ _, _, rfl, ?_⟩
    have msp : sp ≠ m := fun z => by rw [z, hm] at hsp; injection hsp with hsp; injection hsp with _ _ z2; simp [memF, stepF] at z2
    cases wr with
    | true =>
      refine iteT ?_
      refine ⟨_, rfl, m, CM, dx, _, _, rfl, hm3, T.cl, T.n3, memF_wrong _ _ _ _, _, _, rfl, rfl, dx, _, hm3, by show 4 < 1000; decide, ?_⟩
      refine ⟨_, rfl, sp, CS, ds, _, _, rfl, by rw [upd_ne msp]; exact hsp3, S.cl, S.n0, stepF_pair _ _ _ _ _ _, ?_⟩
      refine q _ (fun a u a1 a2 a3 a4 e => by rw [upd_ne a1]; exact old a u a2 a3 a4 e) ?_
      rw [memF_put]
      exact mem _ _ upd_same fun a na => upd_ne na
    | false =>
      refine iteF ?_
      refine ⟨_, rfl, sp, CS, ds, _, _, rfl, hsp3, S.cl, S.n0, stepF_pair _ _ _ _ _ _, ?_⟩
      refine q H3 (fun a u a1 a2 a3 a4 e => old a u a2 a3 a4 e) ?_
      show MemAt P w CM k H3 m dx st hd cd _ _ L _ _ (n - 0) _
      rw [Int.sub_zero]
      exact mem H3 n hm3 fun a _ => rfl
end
end Pf
namespace Pf
open PySem PySem.Spec PyProof.Rows L2 Gk Fold
/-! ### _take, with all that its step keeps -/
section
variable {P : Program} {w : World} {K : PySem.W.Frag} {mg : Str → Option Value} {base : Heap}
def spTakeF (P : Program) (w : World) (K : PySem.W.Frag) (CM CS CP : Addr) : Sp := fun vs H Q _ => ∃ (r : Pd) (b o : Int), vs = [.ref r.p, .int b, .int o] ∧ PrIs P w K CM CP H r ∧ 0 ≤ b ∧ b ≤ 7 ∧ (o = 0 ∨ o = 1) ∧ r.steps.length ≤ 99999 ∧ r.many ≤ 99999 ∧ 0 ≤ r.n ∧ r.n ≤ 99999 ∧
  ∀ H' s ds a wr cv, (∀ q u, q ≠ r.m → q ≠ r.st → q ≠ r.hd → q ≠ r.cd → H q = some u → H' q = some u) → PrIs P w K CM CP H' (r.next b o s) → H' s = some (.ins CS ds (stepF (.ref a) wr (oKey (ownO r.k b)) (.str (txt (r.hs (ownO r.k b)))) cv (ovV (r.cs (r.cell b))))) → SqT K H' a [.int b, .int o] → Ck K H' cv (cellD r.k r.x b.toNat (r.hs (ownO r.k b))) → (!wr) = decide (prd r.wd (r.val b) = o) → Q (.bl (decide (prd r.wd (r.val b) = o))) H'
theorem ok_takeF {f CM CS CP fN fK fS : Addr} {fd fdN fdK fdS : FuncData} (T : TPr K mg CP) (TM : TMem K mg CM) (TS : TStep K mg CS) (mN : Meth K CP "_newest" fN) (GN : FnOk P w K mg base L2.CX0 2 fN fdN ["self", "branch"] (spNewest P w K CM CP)) (bN : Binds K fdN ["self", "branch"] [])
    (mK : Meth K CM "keep" fK) (GK : FnOk P w K mg base L2.CX0 1 fK fdK ["self", "step", "history", "value"] (spKeep P w K CM CS)) (bK : Binds K fdK ["self", "step", "history", "value"] []) (MS : Mk K CS fS) (GS : FnOk P w K mg base L2.CX0 1 fS fdS nStepI (spStepI CS)) (bS : Binds K fdS nStepI [])
    (DC : Dfn P w K mg base 3 "cell_of" ["scheme", "branch", "history"] (spCellC K)) (DP : Dfn P w K mg base 2 "predicted" ["bits", "value"] spPred) (DA : Dfn P w K mg base 2 "value_after" ["bits", "value", "outcome"] spAft) (DOw : Dfn P w K mg base 1 "owner_of" ["scheme", "branch"] (spOwner K)) (DPu : Dfn P w K mg base 1 "pushed" ["history", "outcome"] spPushed)
    (F : L2.Fun K "_take" "Predictor._take" sTakeP f fd) : FnOk P w K mg base L2.CX0 4 f fd ["self", "branch", "outcome"] (spTakeF P w K CM CS CP) := by
  refine F.ok scTakeP (fun vs H Q E h => ?_) (fun cdv A outer s H vs Q E hr h => ?_)
  · obtain ⟨r, b, o, rfl, _⟩ := h
    rfl
  · obtain ⟨r, b, o, rfl, R, b0, b7, ho, sl, ml, n0, n1, q⟩ := h
    have hu : (A.deeper (envOfC "Predictor._take" (defScope sTakeP) s.heap.objs.size f cdv)).units + 1 < cLine := Nat.lt_of_le_of_lt (Nat.add_le_add_left (by decide : 1 ≤ 64) _) hr.units
    refine ⟨_, pss_cons (ps_asg (pe_fld (pv 0) rfl) (pg_tup (n := 2) (by rfl) (pgs_cons (pg_name (i := 3) scTakeP.nd rfl (.inl rfl)) (pgs_cons (pg_name (i := 4) scTakeP.nd rfl (.inl rfl)) pgs_nil))))
      (pss_cons (ps_set (i := 5) scTakeP.nd rfl (.inl rfl) (pe_meth (pv 0) T.cl mN GN (hr.mono (by decide)) bN .nil pass0 (pa_cons (pv 1) pa_nil)))
      (pss_cons (ps_set (i := 6) scTakeP.nd rfl (.inl rfl) (pe_d DC hr (by decide) (by rfl) (pa_cons (pe_fld (pv 0) rfl) (pa_cons (pv 1) (pa_cons (pv 5) pa_nil)))))
      (pss_cons (ps_set (i := 7) scTakeP.nd rfl (.inl rfl) (pe_dget1 hu (pe_fld (pe_fld (pv 0) rfl) rfl) (pv 6) ⟨by rfl, by rfl, by rfl, by rfl⟩))
      (pss_cons (ps_set (i := 8) scTakeP.nd rfl (.inl rfl) (pe_mid (pe_ifExp (pt_cmpR op_isN (pv 7) pe_non (nomark _)) (pv 4) (pv 7))))
      (pss_cons (ps_set (i := 9) scTakeP.nd rfl (.inl rfl) (pe_cmpR op_ne (pe_d DP hr (by decide) (by rfl) (pa_cons (pv 3) (pa_cons (pv 8) pa_nil))) (pv 2) (nomark _)))
      (pss_cons (ps_set (i := 10) scTakeP.nd rfl (.inl rfl) (pe_make MS GS (hr.mono (by decide)) (by rfl) TS.mgC bS .nil pass0 (pa_cons (pe_tup (pa_cons (pv 1) (pa_cons (pv 2) pa_nil))) (pa_cons (pv 9) (pa_cons (pe_d DOw hr (by decide) (by rfl) (pa_cons (pe_fld (pv 0) rfl) (pa_cons (pv 1) pa_nil))) (pa_cons (pv 5) (pa_cons (pv 6) (pa_cons (pv 7) pa_nil))))))))
      (pss_cons (ps_expr (pe_meth (pe_fld (pv 0) rfl) TM.cl mK GK (hr.mono (by decide)) bK .nil pass0 (pa_cons (pv 10) (pa_cons (pe_d DPu hr (by decide) (by rfl) (pa_cons (pv 5) (pa_cons (pv 2) pa_nil))) (pa_cons (pe_d DA hr (by decide) (by rfl) (pa_cons (pv 3) (pa_cons (pv 8) (pa_cons (pv 2) pa_nil)))) pa_nil)))))
      (pss_one (ps_ret (pe_not (pv 9))))))))))), ?_⟩
    have eb : ((b.toNat : Nat) : Int) = b := Int.toNat_of_nonneg b0
    have ok := R.1.okp
    have z64 := ok.2.1
    have w1 := R.1.w1
    have w4 := R.1.w4
    refine ⟨_, rfl, r.p, CP, r.dp, _, _, rfl, R.1.hpr, T.cl, T.n1, prF_counter _ _ _, r.g, _, rfl, R.1.hga, rfl, _, _, rfl, _, _, rfl, rfl, ?_⟩
    refine ⟨_, rfl, r.p, r.dp, _, rfl, R.1.hpr, rfl, .int b, rfl, r, b, rfl, R, go_name ?_⟩
    refine ⟨_, rfl, r.p, CP, r.dp, _, _, rfl, R.1.hpr, T.cl, T.n0, prF_scheme _ _ _, .int b, rfl, .str _, rfl, r.c, r.k, r.z, r.x, b.toNat, r.hs (ownO r.k b), by rw [eb]; rfl, R.1.hsc, ok, by omega, by rw [R.2.1]; omega, fun H1 cv s1 ck => go_name ?_⟩
    have R1 := R.same s1
    have M1' := R1.1.mem
    refine ⟨_, rfl, r.p, CP, r.dp, _, _, rfl, R1.1.hpr, T.cl, T.n2, prF_memory _ _ _, r.m, CM, r.dx, _, _, rfl, M1'.hob, TM.cl, TM.n2, memF_cells _ _ _ _, r.cd, rfl, M1'.hce.isD, cv, rfl, _, M1'.hce.get ck, go_name ?_⟩
    have hval : ((r.cs (cK r.k r.x b.toNat (r.hs (ownO r.k b)))) = none ∧ r.val b = r.v0) ∨ ∃ u, (r.cs (cK r.k r.x b.toNat (r.hs (ownO r.k b)))) = some u ∧ r.val b = u := by
      unfold Pd.val Pd.cell
      cases r.cs (cK r.k r.x b.toNat (r.hs (ownO r.k b))) with
      | none => exact .inl ⟨rfl, rfl⟩
      | some u => exact .inr ⟨u, rfl, rfl⟩
    generalize hov : (((r.cs (cK r.k r.x b.toNat (r.hs (ownO r.k b)))).map V.int).getD .non) = ov
    refine ⟨fun v H' => H' = H1 ∧ v = .int (r.val b), ?_, fun v H' hv => ?_⟩
    · rcases hval with ⟨e, ev⟩ | ⟨u, e, ev⟩
      · rw [e] at hov
        have hov : V.non = ov := hov
        subst hov
        refine ⟨.non, rfl, rfl, _, rfl, ite2 (fun _ => ⟨.int r.v0, rfl, rfl, by rw [ev]⟩) (fun c => absurd (by rfl) c)⟩
      · rw [e] at hov
        have hov : V.int u = ov := hov
        subst hov
        refine ⟨.int u, rfl, rfl, _, rfl, ite2 (fun c => absurd c (by simp)) (fun _ => ⟨.int u, rfl, rfl, by rw [ev]⟩)⟩
    obtain ⟨rfl, rfl⟩ := hv
    refine go_name ?_
    refine ⟨.int r.wd, rfl, .int (r.val b), rfl, r.wd, r.val b, rfl, w1, by omega, .int o, rfl, rfl, go_name ?_⟩
    generalize hwr : (!decide (V.int (prd r.wd (r.val b)) = V.int o)) = wr
    refine ⟨.int b, rfl, .int o, rfl, by show 2 ≤ sizeLine; decide, fun a na => ?_⟩
    have s2 := same_new (o := .tup [.int b, .int o]) na
    have ha2 : SqT K (upd H' a (.tup [.int b, .int o])) a [.int b, .int o] := .inl (.inl upd_same)
    have R2 := R1.same s2
    have ck2 : Ck K (upd H' a (.tup [.int b, .int o])) cv (cellD r.k r.x b.toNat (r.hs (ownO r.k b))) := ⟨Dp.keep (Same.keep s2) _ _ (cell_tups _ _ _ _) ck.1, ck.2.same fun b ts e => s2 _ _ e⟩
    have s02 := s1.trans s2
    generalize upd H' a (.tup [.int b, .int o]) = H2 at s2 ha2 R2 ck2 s02
    refine ⟨.bl wr, rfl, _, rfl, r.p, CP, r.dp, _, _, rfl, R2.1.hpr, T.cl, T.n0, prF_scheme _ _ _, .int b, rfl, r.c, r.k, r.z, r.x, b, rfl, R2.1.hsc, .str _, rfl, cv, rfl, ov, rfl, ?_⟩
    intro sp ds nsp nds nex
    have s23 : Same H2 (upd (upd H2 ds (.own sp)) sp (.ins CS ds [])) := fun b o e => by rw [upd_ne (ne_of_none e nsp), upd_ne (ne_of_none e nds)]; exact e
    refine ⟨sp, ds, .ref a, wr, oKey (ownO r.k b), .str (txt (r.hs (ownO r.k b))), cv, ov, rfl, upd_same, rfl, go_name ?_⟩
    rw [L2.upd_upd]
    have s24 : Same H2 (upd (upd H2 ds (.own sp)) sp (.ins CS ds (stepF (.ref a) wr (oKey (ownO r.k b)) (.str (txt (r.hs (ownO r.k b)))) cv ov))) := fun b o e => by rw [upd_ne (ne_of_none e nsp), upd_ne (ne_of_none e nds)]; exact e
    have sp4 : (upd (upd H2 ds (.own sp)) sp (.ins CS ds (stepF (.ref a) wr (oKey (ownO r.k b)) (.str (txt (r.hs (ownO r.k b)))) cv ov))) sp = some (.ins CS ds (stepF (.ref a) wr (oKey (ownO r.k b)) (.str (txt (r.hs (ownO r.k b)))) cv ov)) := upd_same
    generalize upd (upd H2 ds (.own sp)) sp (.ins CS ds (stepF (.ref a) wr (oKey (ownO r.k b)) (.str (txt (r.hs (ownO r.k b)))) cv ov)) = H4 at s24 sp4
    have R4 := R2.same s24
    have ck4 : Ck K H4 cv (cellD r.k r.x b.toNat (r.hs (ownO r.k b))) := ⟨Dp.keep (Same.keep s24) _ _ (cell_tups _ _ _ _) ck2.1, ck2.2.same fun b ts e => s24 _ _ e⟩
    have hlen := R.2.1 (ownO r.k b)
    refine ⟨_, rfl, r.p, CP, r.dp, _, _, rfl, R4.1.hpr, T.cl, T.n2, prF_memory _ _ _, r.m, r.dx, _, rfl, R4.1.mem.hob, rfl, .ref sp, rfl, .str _, rfl, .int o, rfl, _, o, rfl, ho, by omega, .int r.wd, rfl, .int (r.val b), rfl, .int o, rfl, r.wd, r.val b, o, rfl, w1, by omega, ?_⟩
    refine ⟨r.m, r.dx, r.st, r.hd, r.cd, sp, ds, r.k, r.x, r.steps, r.hs, r.z.toNat, r.cs, r.ks, r.n, r.many, .ref a, wr, ownO r.k b, .str (txt (r.hs (ownO r.k b))), cv, ov, (r.hs (ownO r.k b) ++ [decide (o = 1)]).drop 1, aft r.wd (r.val b) o, b.toNat, r.hs (ownO r.k b), rfl, R4.1.mem, sp4, ck4, by omega, by omega, n0, by omega, fun H5 old5 mem5 => ⟨.bl wr, rfl, ?_⟩⟩
    obtain ⟨kvs4, hh4, _⟩ := R4.1.mem.hhi
    have hce4 := R4.1.mem.hce
    have apart : ∀ {x : Addr} {u : HO}, H4 x = some u → ((∃ ts, u = .tup ts) ∨ (∃ a ts, u = .frz a ts) ∨ ∃ C d fs, u = .ins C d fs) → x ≠ r.m → x ≠ r.st ∧ x ≠ r.hd ∧ x ≠ r.cd := fun {x u} e k nm => by
      refine ⟨fun z => ?_, fun z => ?_, fun z => ?_⟩
      · rw [z, R4.1.mem.hst] at e
        rcases k with ⟨_, k⟩ | ⟨_, _, k⟩ | ⟨_, _, _, k⟩ <;> rw [k] at e <;> cases e
      · rw [z, hh4] at e
        rcases k with ⟨_, k⟩ | ⟨_, _, k⟩ | ⟨_, _, _, k⟩ <;> rw [k] at e <;> cases e
      · rw [z] at e
        rcases hce4 with ⟨_, _, g, _⟩ | ⟨_, _, g, _⟩ <;> rw [g] at e <;> rcases k with ⟨_, k⟩ | ⟨_, _, k⟩ | ⟨_, _, _, k⟩ <;> rw [k] at e <;> cases e
    have kp : Keep K H4 H5 := fun x xs h => by
      rcases h with (h | ⟨u, h⟩) | h
      · have nm : x ≠ r.m := fun z => by rw [z, R4.1.mem.hob] at h; cases h
        obtain ⟨a1, a2, a3⟩ := apart h (.inl ⟨_, rfl⟩) nm
        exact .inl (.inl (old5 _ _ nm a1 a2 a3 h))
      · have nm : x ≠ r.m := fun z => by rw [z, R4.1.mem.hob] at h; cases h
        obtain ⟨a1, a2, a3⟩ := apart h (.inr (.inl ⟨_, _, rfl⟩)) nm
        exact .inl (.inr ⟨u, old5 _ _ nm a1 a2 a3 h⟩)
      · exact .inr h
    have spm : sp ≠ r.m := (ne_of_none R2.1.mem.hob nsp).symm
    obtain ⟨b1, b2, b3⟩ := apart sp4 (.inr (.inr ⟨_, _, _, rfl⟩)) spm
    obtain ⟨p1, p2, p3⟩ := apart R4.1.hpr (.inr (.inr ⟨_, _, _, rfl⟩)) R4.1.pm
    have ebl : (!wr) = decide (prd r.wd (r.val b) = o) := by
      rw [← hwr, Bool.not_not]
      exact decide_eq_decide.mpr ⟨fun h => by injection h, fun h => by rw [h]⟩
    have en : (if wr = true then (1 : Int) else 0) = if decide (prd r.wd (r.val b) = o) = true then 0 else 1 := by
      rw [← ebl]
      cases wr <;> rfl
    have R5 : PrIs P w K CM CP H5 (r.next b o sp) := by
      refine ⟨⟨old5 _ _ R4.1.pm p1 p2 p3 R4.1.hpr, kp _ _ R4.1.hsc, ok, kp _ _ R4.1.hga, w1, w4, R.1.v1, R.1.v2, ?_, R.1.pm⟩, fun q' => ?_, fun q' => ?_⟩
      · rw [en] at mem5
        exact mem5
      · show (if q' = ownO r.k b then _ else _ : List Bool).length = r.z.toNat
        split
        · rw [List.length_drop, List.length_append, hlen]
          show r.z.toNat + 1 - 1 = _
          omega
        · exact R.2.1 q'
      · show 0 ≤ ((if q' = r.cell b then some (aft r.wd (r.val b) o) else r.cs q') : Option Int).getD r.v0 ∧ ((if q' = r.cell b then some (aft r.wd (r.val b) o) else r.cs q') : Option Int).getD r.v0 ≤ top r.wd
        by_cases e : q' = r.cell b
        · rw [if_pos e]
          have := R.2.2 (r.cell b)
          exact aft_in w1 this.1 this.2
        · rw [if_neg e]
          exact R.2.2 q'
    refine ⟨wr, rfl, ?_⟩
    show Q (.bl (!wr)) H5
    rw [ebl]
    have ck5 : Ck K H5 cv (cellD r.k r.x b.toNat (r.hs (ownO r.k b))) := ⟨Dp.keep kp _ _ (cell_tups _ _ _ _) ck4.1, ck4.2.same fun c ts e => by
      have nm : c ≠ r.m := fun z => by rw [z, R4.1.mem.hob] at e; cases e
      obtain ⟨a1, a2, a3⟩ := apart e (.inl ⟨_, rfl⟩) nm
      exact old5 _ _ nm a1 a2 a3 e⟩
    exact q H5 sp ds a wr cv (fun x u h1 h2 h3 h4 e => old5 x u h1 h2 h3 h4 (s24 _ _ (s02 _ _ e))) R5 (by rw [show ovV (r.cs (r.cell b)) = ov from hov]; exact old5 _ _ spm b1 b2 b3 sp4) (kp _ _ (Same.seqT s24 ha2)) ck5 ebl
end
end Pf
namespace Pf
open PySem PySem.Spec PyProof.Rows L2 Gk Fold
/-! ### what a predictor is behind a list of pairs -/
structure Par where
  k : Str
  x : Option Int
  L : Nat
  wd : Int
  v0 : Int
structure Ms where
  hs : Option Int → List Bool
  cs : CK → Option Int
  ks : List CK
  n : Int
def Ms.cell (S : Ms) (π : Par) (b : Int) : CK := cK π.k π.x b.toNat (S.hs (ownO π.k b))
def Ms.val (S : Ms) (π : Par) (b : Int) : Int := (S.cs (S.cell π b)).getD π.v0
def Ms.next (π : Par) (S : Ms) (p : Int × Int) : Ms where
  hs := fun q => if q = ownO π.k p.1 then (S.hs (ownO π.k p.1) ++ [decide (p.2 = 1)]).drop 1 else S.hs q
  cs := fun q => if q = S.cell π p.1 then some (aft π.wd (S.val π p.1) p.2) else S.cs q
  ks := if S.cs (S.cell π p.1) = none then S.ks ++ [S.cell π p.1] else S.ks
  n := S.n + if decide (prd π.wd (S.val π p.1) = p.2) then 0 else 1
def Ms.new (π : Par) : Ms := ⟨fun _ => List.replicate π.L false, fun _ => none, [], 0⟩
def msOf (π : Par) (ps : List (Int × Int)) : Ms := ps.foldl (Ms.next π) (Ms.new π)
theorem msOf_snoc (π : Par) (ps : List (Int × Int)) (p : Int × Int) : msOf π (ps ++ [p]) = (msOf π ps).next π p := by
  unfold msOf
  rw [List.foldl_append]
  rfl
/-- cells that are used are those with a value; errors are counted -/
theorem ms_inv (π : Par) : ∀ (n : Nat) (ps : List (Int × Int)), ps.length = n → (∀ q, q ∈ (msOf π ps).ks ↔ (msOf π ps).cs q ≠ none) ∧ (msOf π ps).ks.Nodup ∧ (msOf π ps).ks.length ≤ ps.length ∧ 0 ≤ (msOf π ps).n ∧ (msOf π ps).n ≤ ps.length
  | 0, ps, h => by
    obtain rfl := List.length_eq_zero_iff.mp h
    exact ⟨fun q => ⟨fun h => (nomatch h), fun h => absurd rfl h⟩, List.nodup_nil, Nat.le_refl _, Int.le_refl _, Int.le_refl _⟩
  | n + 1, ps, h => by
    have ne : ps ≠ [] := fun z => by rw [z] at h; cases h
    obtain ⟨qs, p, rfl⟩ : ∃ qs p, ps = qs ++ [p] := ⟨ps.dropLast, ps.getLast ne, (List.dropLast_concat_getLast ne).symm⟩
    rw [List.length_append] at h
    have hq : qs.length = n := Nat.succ.inj h
    obtain ⟨i1, i2, i3, i4, i5⟩ := ms_inv π n qs hq
    rw [msOf_snoc]
    generalize msOf π qs = S at i1 i2 i3 i4 i5
    have lp : (qs ++ [p]).length = qs.length + 1 := by rw [List.length_append]; rfl
    refine ⟨fun q => ?_, ?_, ?_, ?_, ?_⟩
    · show q ∈ (if S.cs (S.cell π p.1) = none then S.ks ++ [S.cell π p.1] else S.ks) ↔ (if q = S.cell π p.1 then some (aft π.wd (S.val π p.1) p.2) else S.cs q) ≠ none
      by_cases e : q = S.cell π p.1
      · rw [if_pos e]
        refine ⟨fun _ => by simp, fun _ => ?_⟩
        by_cases c : S.cs (S.cell π p.1) = none
        · rw [if_pos c, e]; simp
        · rw [if_neg c, e]; exact (i1 _).mpr c
      · rw [if_neg e]
        by_cases c : S.cs (S.cell π p.1) = none
        · rw [if_pos c, ← i1 q, List.mem_append]
          exact ⟨fun h => h.elim id fun h => absurd (List.mem_singleton.mp h) e, .inl⟩
        · rw [if_neg c]; exact i1 q
    · show (if S.cs (S.cell π p.1) = none then S.ks ++ [S.cell π p.1] else S.ks).Nodup
      by_cases c : S.cs (S.cell π p.1) = none
      · rw [if_pos c]
        refine List.nodup_append.mpr ⟨i2, List.nodup_cons.mpr ⟨List.not_mem_nil, List.nodup_nil⟩, fun a ha y hy z => ?_⟩
        rw [List.mem_singleton.mp hy] at z
        rw [z] at ha
        exact (i1 _).mp ha c
      · rw [if_neg c]; exact i2
    · show (if S.cs (S.cell π p.1) = none then S.ks ++ [S.cell π p.1] else S.ks).length ≤ _
      rw [lp]
      split
      · rw [List.length_append]; show S.ks.length + 1 ≤ _; omega
      · omega
    · show 0 ≤ S.n + (if decide (prd π.wd (S.val π p.1) = p.2) then 0 else 1)
      split <;> omega
    · show S.n + (if decide (prd π.wd (S.val π p.1) = p.2) then 0 else 1) ≤ _
      rw [lp]
      split <;> omega
/-- the last pair taken back -/
theorem ms_back (π : Par) (S : Ms) (p : Int × Int) (hk : S.cs (S.cell π p.1) = none → S.cell π p.1 ∉ S.ks) :
    (fun q => if q = ownO π.k p.1 then S.hs (ownO π.k p.1) else (S.next π p).hs q) = S.hs ∧ (fun q => if q = S.cell π p.1 then S.cs (S.cell π p.1) else (S.next π p).cs q) = S.cs ∧
    (if S.cs (S.cell π p.1) = none then (S.next π p).ks.filter (fun q => decide (q ≠ S.cell π p.1)) else (S.next π p).ks) = S.ks := by
  refine ⟨?_, ?_, ?_⟩
  · funext q
    by_cases e : q = ownO π.k p.1
    · rw [if_pos e, e]
    · rw [if_neg e]
      show (if q = ownO π.k p.1 then _ else S.hs q) = _
      rw [if_neg e]
  · funext q
    by_cases e : q = S.cell π p.1
    · rw [if_pos e, e]
    · rw [if_neg e]
      show (if q = S.cell π p.1 then _ else S.cs q) = _
      rw [if_neg e]
  · by_cases c : S.cs (S.cell π p.1) = none
    · rw [if_pos c]
      show (if S.cs (S.cell π p.1) = none then S.ks ++ [S.cell π p.1] else S.ks).filter _ = S.ks
      rw [if_pos c, List.filter_append, List.filter_cons_of_neg (by simp), List.filter_nil, List.append_nil]
      refine List.filter_eq_self.mpr fun q hq => decide_eq_true fun z => hk c (by rw [← z]; exact hq)
    · rw [if_neg c]
      show (if S.cs (S.cell π p.1) = none then S.ks ++ [S.cell π p.1] else S.ks) = S.ks
      rw [if_neg c]
def Pd.par (r : Pd) : Par := ⟨r.k, r.x, r.z.toNat, r.wd, r.v0⟩
def Pd.ms (r : Pd) : Ms := ⟨r.hs, r.cs, r.ks, r.n⟩
theorem next_ms (r : Pd) (b o : Int) (s : Addr) : (r.next b o s).ms = r.ms.next r.par (b, o) := rfl
/-- a step with all that it keeps -/
def StepF (K : PySem.W.Frag) (CS : Addr) (H : Hp) (v : V) (π : Par) (S : Ms) (p : Int × Int) : Prop := ∃ s ds a wr cv, v = .ref s ∧ H s = some (.ins CS ds (stepF (.ref a) wr (oKey (ownO π.k p.1)) (.str (txt (S.hs (ownO π.k p.1)))) cv (ovV (S.cs (S.cell π p.1))))) ∧ SqT K H a [.int p.1, .int p.2] ∧
  Ck K H cv (cellD π.k π.x p.1.toNat (S.hs (ownO π.k p.1))) ∧ (!wr) = decide (prd π.wd (S.val π p.1) = p.2)
def StepsF (K : PySem.W.Frag) (CS : Addr) (H : Hp) (steps : List V) (π : Par) (ps : List (Int × Int)) : Prop := steps.length = ps.length ∧ ∀ (i : Nat) (v : V) (p : Int × Int), steps[i]? = some v → ps[i]? = some p → StepF K CS H v π (msOf π (ps.take i)) p
theorem StepsF.at {K : PySem.W.Frag} {CS : Addr} {H : Hp} {steps : List V} {π : Par} {ps : List (Int × Int)} (h : StepsF K CS H steps π ps) : StepsAt K CS H steps ps := ⟨h.1, fun i v p e1 e2 => by
  obtain ⟨s, ds, a, wr, cv, e, h1, h2, _⟩ := h.2 i v p e1 e2
  exact ⟨s, ds, a, wr, _, _, _, _, e, h1, h2⟩⟩
theorem StepF.keep {K : PySem.W.Frag} {CS : Addr} {H H' : Hp} {v : V} {π : Par} {S : Ms} {p : Int × Int} (h : StepF K CS H v π S p) (kp : Keep K H H') (s : ∀ a d pr wr ow oh pl ov, H a = some (.ins CS d (stepF pr wr ow oh pl ov)) → H' a = some (.ins CS d (stepF pr wr ow oh pl ov)))
    (t : ∀ b ts, H b = some (.tup ts) → H' b = some (.tup ts)) : StepF K CS H' v π S p := by
  obtain ⟨q, ds, a, wr, cv, e, h1, h2, h3, h4⟩ := h
  exact ⟨q, ds, a, wr, cv, e, s _ _ _ _ _ _ _ _ h1, kp _ _ h2, ⟨Dp.keep kp _ _ (cell_tups _ _ _ _) h3.1, h3.2.same t⟩, h4⟩
theorem StepsF.keep {K : PySem.W.Frag} {CS : Addr} {H H' : Hp} {steps : List V} {π : Par} {ps : List (Int × Int)} (h : StepsF K CS H steps π ps) (kp : Keep K H H') (s : ∀ a d pr wr ow oh pl ov, H a = some (.ins CS d (stepF pr wr ow oh pl ov)) → H' a = some (.ins CS d (stepF pr wr ow oh pl ov)))
    (t : ∀ b ts, H b = some (.tup ts) → H' b = some (.tup ts)) : StepsF K CS H' steps π ps := ⟨h.1, fun i v p e1 e2 => (h.2 i v p e1 e2).keep kp s t⟩
theorem StepsF.snoc {K : PySem.W.Frag} {CS : Addr} {H : Hp} {steps : List V} {π : Par} {ps : List (Int × Int)} {v : V} {p : Int × Int} (h : StepsF K CS H steps π ps) (hv : StepF K CS H v π (msOf π ps) p) : StepsF K CS H (steps ++ [v]) π (ps ++ [p]) := by
  refine ⟨by rw [List.length_append, List.length_append, h.1]; rfl, fun i v' p' e1 e2 => ?_⟩
  rcases Nat.lt_or_ge i steps.length with a | a
  · rw [List.getElem?_append_left a] at e1
    rw [List.getElem?_append_left (by rw [← h.1]; exact a)] at e2
    rw [List.take_append_of_le_length (by rw [← h.1]; omega)]
    exact h.2 i v' p' e1 e2
  · rw [List.getElem?_append_right a] at e1
    rw [List.getElem?_append_right (by rw [← h.1]; exact a), ← h.1] at e2
    have i0 : i - steps.length = 0 := by
      have := (List.getElem?_eq_some_iff.mp e1).1
      simp at this
      omega
    rw [i0] at e1 e2
    obtain rfl := Option.some.inj e1
    obtain rfl := Option.some.inj e2
    have ei : i = ps.length := by rw [← h.1]; omega
    rw [ei, List.take_left]
    exact hv
theorem StepsF.back {K : PySem.W.Frag} {CS : Addr} {H : Hp} {steps : List V} {π : Par} {ps : List (Int × Int)} {p : Int × Int} (h : StepsF K CS H steps π (ps ++ [p])) : ∃ s0 v, steps = s0 ++ [v] ∧ StepsF K CS H s0 π ps ∧ StepF K CS H v π (msOf π ps) p := by
  have l : steps.length = ps.length + 1 := by rw [h.1, List.length_append]; rfl
  have ne : steps ≠ [] := fun z => by rw [z] at l; cases l
  obtain ⟨s0, v, rfl⟩ : ∃ qs p, steps = qs ++ [p] := ⟨steps.dropLast, steps.getLast ne, (List.dropLast_concat_getLast ne).symm⟩
  have l0 : s0.length = ps.length := by rw [List.length_append] at l; exact Nat.succ.inj l
  refine ⟨s0, v, rfl, ⟨l0, fun i v' p' e1 e2 => ?_⟩, ?_⟩
  · have a1 := (List.getElem?_eq_some_iff.mp e1).1
    have := h.2 i v' p' (by rw [List.getElem?_append_left a1]; exact e1) (by rw [List.getElem?_append_left (by omega)]; exact e2)
    rw [List.take_append_of_le_length (by omega)] at this
    exact this
  · have := h.2 s0.length v p (by rw [List.getElem?_append_right (Nat.le_refl _), Nat.sub_self]; rfl) (by rw [l0, List.getElem?_append_right (Nat.le_refl _), Nat.sub_self]; rfl)
    rw [l0, List.take_left] at this
    exact this
/-- all but what the predictor's memory writes stays -/
def Oth (r : Pd) (H H' : Hp) : Prop := ∀ q u, q ≠ r.m → q ≠ r.st → q ≠ r.hd → q ≠ r.cd → H q = some u → H' q = some u
section
variable {P : Program} {w : World} {K : PySem.W.Frag} {mg : Str → Option Value} {base : Heap} {CM CS CP : Addr} {H H' : Hp} {r : Pd} {ps : List (Int × Int)}
theorem Oth.obj (R : PrIs P w K CM CP H r) (t : Oth r H H') {x : Addr} {u : HO} (e : H x = some u) (k : (∃ ts, u = .tup ts) ∨ (∃ a ts, u = .frz a ts) ∨ ∃ c e fs, u = .ins c e fs) (nm : x ≠ r.m) : H' x = some u := by
  obtain ⟨kvs2, hh2, _⟩ := R.1.mem.hhi
  refine t x u nm (fun z => ?_) (fun z => ?_) (fun z => ?_) e
  · rw [z, R.1.mem.hst] at e
    rcases k with ⟨_, k⟩ | ⟨_, _, k⟩ | ⟨_, _, _, k⟩ <;> rw [k] at e <;> cases e
  · rw [z, hh2] at e
    rcases k with ⟨_, k⟩ | ⟨_, _, k⟩ | ⟨_, _, _, k⟩ <;> rw [k] at e <;> cases e
  · rw [z] at e
    rcases R.1.mem.hce with ⟨_, _, g, _⟩ | ⟨_, _, g, _⟩ <;> rw [g] at e <;> rcases k with ⟨_, k⟩ | ⟨_, _, k⟩ | ⟨_, _, _, k⟩ <;> rw [k] at e <;> cases e
theorem Oth.tup (R : PrIs P w K CM CP H r) (t : Oth r H H') {x : Addr} {ts : List V} (e : H x = some (.tup ts)) : H' x = some (.tup ts) := t.obj R e (.inl ⟨_, rfl⟩) fun z => by rw [z, R.1.mem.hob] at e; cases e
theorem Oth.step (R : PrIs P w K CM CP H r) (t : Oth r H H') {x d : Addr} {pr : V} {wr : Bool} {ow oh pl ov : V} (e : H x = some (.ins CS d (stepF pr wr ow oh pl ov))) : H' x = some (.ins CS d (stepF pr wr ow oh pl ov)) := t.obj R e (.inr (.inr ⟨_, _, _, rfl⟩)) fun z => by
  rw [z, R.1.mem.hob] at e
  injection e with e
  injection e with _ _ e
  exact absurd (congrArg List.length e) (by show ¬ (4 : Nat) = 6; decide)
theorem Oth.keep (R : PrIs P w K CM CP H r) (t : Oth r H H') : Keep K H H' := fun x xs h => by
  rcases h with (h | ⟨u, h⟩) | h
  · exact .inl (.inl (t.tup R h))
  · exact .inl (.inr ⟨u, t.obj R h (.inr (.inl ⟨_, _, rfl⟩)) fun z => by rw [z, R.1.mem.hob] at h; cases h⟩)
  · exact .inr h
/-- a predictor that has learned these pairs -/
structure Led (P : Program) (w : World) (K : PySem.W.Frag) (CM CS CP : Addr) (H : Hp) (r : Pd) (ps : List (Int × Int)) : Prop where
  pr : PrIs P w K CM CP H r
  ms : r.ms = msOf r.par ps
  st : StepsF K CS H r.steps r.par ps
  fair : Fair ps
theorem Led.same (L : Led P w K CM CS CP H r ps) (s : Same H H') : Led P w K CM CS CP H' r ps := ⟨L.pr.same s, L.ms, L.st.keep (Same.keep s) (fun a _ _ _ _ _ _ _ e => s _ _ e) (fun _ _ e => s _ _ e), L.fair⟩
/-- a pair more -/
theorem Led.next {b o : Int} {s ds a : Addr} {wr : Bool} {cv : V} (L : Led P w K CM CS CP H r ps) (b0 : 0 ≤ b) (b7 : b ≤ 7) (ho : o = 0 ∨ o = 1) (t : Oth r H H') (R : PrIs P w K CM CP H' (r.next b o s))
    (hs : H' s = some (.ins CS ds (stepF (.ref a) wr (oKey (ownO r.k b)) (.str (txt (r.hs (ownO r.k b)))) cv (ovV (r.cs (r.cell b)))))) (ha : SqT K H' a [.int b, .int o]) (ck : Ck K H' cv (cellD r.k r.x b.toNat (r.hs (ownO r.k b)))) (hw : (!wr) = decide (prd r.wd (r.val b) = o)) : Led P w K CM CS CP H' (r.next b o s) (ps ++ [(b, o)]) := by
  refine ⟨R, ?_, ?_, fun y hy => ?_⟩
  · rw [next_ms, L.ms, ← msOf_snoc]
    rfl
  · refine StepsF.snoc (L.st.keep (t.keep L.pr) (fun _ _ _ _ _ _ _ _ e => t.step L.pr e) fun _ _ e => t.tup L.pr e) ?_
    show StepF K CS H' (.ref s) r.par (msOf r.par ps) (b, o)
    rw [← L.ms]
    exact ⟨s, ds, a, wr, cv, rfl, hs, ha, ck, hw⟩
  · rcases List.mem_append.mp hy with h | h
    · exact L.fair y h
    · rw [List.mem_singleton.mp h]
      exact ⟨⟨b0, b7⟩, ho⟩
/-- the predictor as it was ahead of its last pair -/
def Pd.back (r : Pd) (qs : List (Int × Int)) : Pd := { r with
  steps := r.steps.dropLast
  hs := (msOf r.par qs).hs
  cs := (msOf r.par qs).cs
  ks := (msOf r.par qs).ks
  n := (msOf r.par qs).n
  many := r.many + 1 }
end
end Pf
namespace Pf
open PySem PySem.Spec PyProof.Rows L2 Gk Fold
/-! ### learn and undo over lists of pairs -/
theorem ms_len (π : Par) : ∀ (n : Nat) (ps : List (Int × Int)), ps.length = n → ∀ o, ((msOf π ps).hs o).length = π.L
  | 0, ps, h, o => by
    obtain rfl := List.length_eq_zero_iff.mp h
    exact List.length_replicate
  | n + 1, ps, h, o => by
    have ne : ps ≠ [] := fun z => by rw [z] at h; cases h
    obtain ⟨qs, p, rfl⟩ : ∃ qs p, ps = qs ++ [p] := ⟨ps.dropLast, ps.getLast ne, (List.dropLast_concat_getLast ne).symm⟩
    rw [List.length_append] at h
    have i := ms_len π n qs (Nat.succ.inj h)
    rw [msOf_snoc]
    show (if o = ownO π.k p.1 then ((msOf π qs).hs (ownO π.k p.1) ++ [decide (p.2 = 1)]).drop 1 else (msOf π qs).hs o).length = _
    split
    · rw [List.length_drop, List.length_append, i]
      show π.L + 1 - 1 = _
      omega
    · exact i o
theorem ms_vals (π : Par) (w1 : 1 ≤ π.wd) (v1 : 0 ≤ π.v0) (v2 : π.v0 ≤ top π.wd) : ∀ (n : Nat) (ps : List (Int × Int)), ps.length = n → ∀ q, 0 ≤ ((msOf π ps).cs q).getD π.v0 ∧ ((msOf π ps).cs q).getD π.v0 ≤ top π.wd
  | 0, ps, h, q => by
    obtain rfl := List.length_eq_zero_iff.mp h
    exact ⟨v1, v2⟩
  | n + 1, ps, h, q => by
    have ne : ps ≠ [] := fun z => by rw [z] at h; cases h
    obtain ⟨qs, p, rfl⟩ : ∃ qs p, ps = qs ++ [p] := ⟨ps.dropLast, ps.getLast ne, (List.dropLast_concat_getLast ne).symm⟩
    rw [List.length_append] at h
    have i := ms_vals π w1 v1 v2 n qs (Nat.succ.inj h)
    rw [msOf_snoc]
    show 0 ≤ ((if q = (msOf π qs).cell π p.1 then some (aft π.wd ((msOf π qs).val π p.1) p.2) else (msOf π qs).cs q) : Option Int).getD π.v0 ∧ ((if q = (msOf π qs).cell π p.1 then some (aft π.wd ((msOf π qs).val π p.1) p.2) else (msOf π qs).cs q) : Option Int).getD π.v0 ≤ top π.wd
    by_cases e : q = (msOf π qs).cell π p.1
    · rw [if_pos e]
      have := i ((msOf π qs).cell π p.1)
      exact aft_in w1 this.1 this.2
    · rw [if_neg e]
      exact i q
section
variable {P : Program} {w : World} {K : PySem.W.Frag} {mg : Str → Option Value} {base : Heap} {CM CS CP : Addr} {H H' : Hp} {r : Pd} {ps : List (Int × Int)}
theorem back_par (r : Pd) (qs : List (Int × Int)) : (r.back qs).par = r.par := rfl
/-- the pair taken back -/
theorem Led.back {qs : List (Int × Int)} {p : Int × Int} {s0 : List V} {v : V} (L : Led P w K CM CS CP H r (qs ++ [p])) (es : r.steps = s0 ++ [v]) (st : StepsF K CS H s0 r.par qs) (t : Oth r H H')
    (M : MemAt P w CM r.k H' r.m r.dx r.st r.hd r.cd s0 (msOf r.par qs).hs r.z.toNat (msOf r.par qs).cs (msOf r.par qs).ks (msOf r.par qs).n (r.many + 1)) : Led P w K CM CS CP H' (r.back qs) qs := by
  have R := L.pr
  have kp := t.keep R
  refine ⟨⟨⟨t.obj R R.1.hpr (.inr (.inr ⟨_, _, _, rfl⟩)) R.1.pm, kp _ _ R.1.hsc, R.1.okp, kp _ _ R.1.hga, R.1.w1, R.1.w4, R.1.v1, R.1.v2, ?_, R.1.pm⟩, ?_, ?_⟩, rfl, ?_, fun y hy => L.fair y (List.mem_append_left _ hy)⟩
  · show MemAt P w CM r.k H' r.m r.dx r.st r.hd r.cd r.steps.dropLast _ _ _ _ _ _
    rw [es, List.dropLast_concat]
    exact M
  · exact ms_len r.par _ qs rfl
  · exact ms_vals r.par R.1.w1 R.1.v1 R.1.v2 _ qs rfl
  · show StepsF K CS H' r.steps.dropLast r.par qs
    rw [es, List.dropLast_concat]
    exact st.keep kp (fun _ _ _ _ _ _ _ _ e => t.step R e) fun _ _ e => t.tup R e
abbrev sUndo : Stmt := inClass (topS 37) 11
theorem scUndo : FnScope ["self"] ["self"] (defScope sUndo) := ⟨rfl, rfl, rfl, by decide +kernel, rfl, by decide +kernel, by decide +kernel⟩
def spUndo (P : Program) (w : World) (K : PySem.W.Frag) (CM CS CP : Addr) : Sp := fun vs H Q _ => ∃ (r : Pd) (qs : List (Int × Int)) (p : Int × Int), vs = [.ref r.p] ∧ Led P w K CM CS CP H r (qs ++ [p]) ∧ r.many ≤ 100000 ∧
  ∀ H' a, Oth r H H' → Led P w K CM CS CP H' (r.back qs) qs → SqT K H' a [.int p.1, .int p.2] → Q (.ref a) H'
theorem ok_undo {f CM CS CP fB : Addr} {fd fdB : FuncData} (T : TPr K mg CP) (TM : TMem K mg CM) (mB : Meth K CM "take_back" fB) (GB : FnOk P w K mg base L2.CX0 1 fB fdB ["self"] (spTakeBack P w K CM CS)) (bB : Binds K fdB ["self"] []) (ml : mg "len" = none)
    (F : L2.Fun K "undo" "Predictor.undo" sUndo f fd) : FnOk P w K mg base L2.CX0 2 f fd ["self"] (spUndo P w K CM CS CP) := by
  refine F.ok scUndo (fun vs H Q E h => ?_) (fun cdv A outer s H vs Q E hr h => ?_)
  · obtain ⟨r, qs, p, rfl, _⟩ := h
    rfl
  · obtain ⟨r, qs, p, rfl, L, ml', q⟩ := h
    refine ⟨_, pss_cons (ps_if (pt_cmpR op_eq (pe_callB call_len_seq (by rfl) ml PySem.boot_len (pa_cons (pe_fld (pe_fld (pv 0) rfl) rfl) pa_nil)) pe_int (nomark _)) (pss_one ps_dead) pss_nil)
      (pss_one (ps_ret (pe_meth0 (pe_fld (pv 0) rfl) TM.cl mB GB (hr.mono (by decide)) bB .nil pass0))), ?_⟩
    have R := L.pr
    have M := R.1.mem
    obtain ⟨s0, v, es, st0, sp, ds, a, wr, cv, rfl, h1, h2, h3, h4⟩ := L.st.back
    obtain ⟨i1, i2, i3, i4, i5⟩ := ms_inv r.par _ qs rfl
    have em : r.ms = (msOf r.par qs).next r.par p := by rw [L.ms, msOf_snoc]
    obtain ⟨b1, b2, b3⟩ := ms_back r.par (msOf r.par qs) p (fun c hm => (i1 _).mp hm c)
    rw [← em] at b1 b2 b3
    have en : r.n = (msOf r.par qs).n + if decide (prd r.wd ((msOf r.par qs).val r.par p.1) = p.2) then 0 else 1 := congrArg Ms.n em
    refine ⟨_, rfl, r.p, CP, r.dp, _, _, rfl, R.1.hpr, T.cl, T.n2, prF_memory _ _ _, r.m, CM, r.dx, _, _, rfl, M.hob, TM.cl, TM.n0, memF_steps _ _ _ _, r.st, _, rfl, .inl (SqL.of M.hst), rfl, _, rfl, ?_⟩
    rw [es] at M ⊢
    rw [if_neg (by rw [decide_eq_true_eq]; intro z; injection z with z; rw [List.length_append] at z; simp at z; omega)]
    refine ⟨_, rfl, r.p, CP, r.dp, _, _, rfl, R.1.hpr, T.cl, T.n2, prF_memory _ _ _, r.m, r.dx, _, rfl, M.hob, rfl, ?_⟩
    refine ⟨r.m, r.dx, r.st, r.hd, r.cd, sp, ds, r.k, r.x, s0, r.hs, r.z.toNat, r.cs, r.ks, r.n, r.many, .ref a, wr, ownO r.k p.1, cv, (msOf r.par qs).hs (ownO r.k p.1), (msOf r.par qs).cs ((msOf r.par qs).cell r.par p.1), p.1.toNat, (msOf r.par qs).hs (ownO r.k p.1), rfl, M, h1, h3, ?_, ml', fun H' t M' => ?_⟩
    · have : r.cs = ((msOf r.par qs).next r.par p).cs := congrArg Ms.cs em
      rw [this]
      show ((if (msOf r.par qs).cell r.par p.1 = (msOf r.par qs).cell r.par p.1 then some _ else _ : Option Int)).isSome = true
      rw [if_pos rfl]
      rfl
    · have t' : Oth r H H' := t
      refine q H' a t' (L.back es st0 t' ?_) (t'.keep R _ _ h2)
      have e1 : (fun q => if q = ownO r.k p.1 then (msOf r.par qs).hs (ownO r.k p.1) else r.hs q) = (msOf r.par qs).hs := b1
      have e2 : (fun q => if q = cK r.k r.x p.1.toNat ((msOf r.par qs).hs (ownO r.k p.1)) then (msOf r.par qs).cs ((msOf r.par qs).cell r.par p.1) else r.cs q) = (msOf r.par qs).cs := b2
      have e3 : (if (msOf r.par qs).cs ((msOf r.par qs).cell r.par p.1) = none then r.ks.filter (fun q => decide (q ≠ cK r.k r.x p.1.toNat ((msOf r.par qs).hs (ownO r.k p.1)))) else r.ks) = (msOf r.par qs).ks := b3
      have e4 : r.n - (if wr = true then 1 else 0) = (msOf r.par qs).n := by
        have h4 : (!wr) = decide (prd r.wd ((msOf r.par qs).val r.par p.1) = p.2) := h4
        rw [en, ← h4]
        cases wr <;> simp
      rw [e1, e2, e3, e4] at M'
      exact M'
/-- learn, by the pairs that were learned -/
def spLearnL (P : Program) (w : World) (K : PySem.W.Frag) (CM CS CP : Addr) : Sp := fun vs H Q _ => ∃ (r : Pd) (ps : List (Int × Int)) (b o : Int), vs = [.ref r.p, .int b, .int o] ∧ Led P w K CM CS CP H r ps ∧ 0 ≤ b ∧ b ≤ 7 ∧ (o = 0 ∨ o = 1) ∧ ps.length ≤ 99999 ∧ r.many ≤ 99999 ∧
  ∀ H' s, Oth r H H' → Led P w K CM CS CP H' (r.next b o s) (ps ++ [(b, o)]) → Q (.bl (decide (prd r.wd (r.val b) = o))) H'
theorem learnL {Q : VK} {E : XK} {vs : List V} (h : spLearnL P w K CM CS CP vs H Q E) : spTakeF P w K CM CS CP vs H Q E := by
  obtain ⟨r, ps, b, o, rfl, L, b0, b7, ho, pl, mm, q⟩ := h
  obtain ⟨i1, i2, i3, i4, i5⟩ := ms_inv r.par _ ps rfl
  have en : r.n = (msOf r.par ps).n := congrArg Ms.n L.ms
  refine ⟨r, b, o, rfl, L.pr, b0, b7, ho, by rw [L.st.1]; exact pl, mm, by omega, by omega, fun H' s ds a wr cv t R hs ha ck hw => q H' s t (L.next b0 b7 ho t R hs ha ck hw)⟩
end
end Pf
namespace Pf
open PySem PySem.Spec PyProof.Rows L2 Gk Fold
/-! ### learn, __call__, learn_all by the pairs that were learned -/
structure Pd.Akin (r r0 : Pd) : Prop where
  p : r.p = r0.p
  par : r.par = r0.par
  m : r.m = r0.m
  st : r.st = r0.st
  hd : r.hd = r0.hd
  cd : r.cd = r0.cd
theorem Pd.Akin.refl (r : Pd) : r.Akin r := ⟨rfl, rfl, rfl, rfl, rfl, rfl⟩
theorem Pd.Akin.next {r r0 : Pd} (h : r.Akin r0) (b o : Int) (s : Addr) : (r.next b o s).Akin r0 := ⟨h.p, h.par, h.m, h.st, h.hd, h.cd⟩
theorem Pd.Akin.back {r r0 : Pd} (h : r.Akin r0) (qs : List (Int × Int)) : (r.back qs).Akin r0 := ⟨h.p, h.par, h.m, h.st, h.hd, h.cd⟩
theorem Pd.Akin.trans {r r1 r0 : Pd} (h : r.Akin r1) (g : r1.Akin r0) : r.Akin r0 := ⟨h.p.trans g.p, h.par.trans g.par, h.m.trans g.m, h.st.trans g.st, h.hd.trans g.hd, h.cd.trans g.cd⟩
theorem Oth.trans {H H1 H2 : Hp} {r r1 : Pd} (t : Oth r H H1) (k : r1.Akin r) (t1 : Oth r1 H1 H2) : Oth r H H2 := fun q u a b c d e => t1 q u (by rw [k.m]; exact a) (by rw [k.st]; exact b) (by rw [k.hd]; exact c) (by rw [k.cd]; exact d) (t q u a b c d e)
theorem Oth.of_same {H H' : Hp} {r : Pd} (s : Same H H') : Oth r H H' := fun q u _ _ _ _ e => s q u e
section
variable {P : Program} {w : World} {K : PySem.W.Frag} {mg : Str → Option Value} {base : Heap}
theorem ok_learnL {f CM CS CP fT : Addr} {fd fdT : FuncData} (T : TPr K mg CP) (mT : Meth K CP "_take" fT) (GT : FnOk P w K mg base L2.CX0 4 fT fdT SBO (spTakeF P w K CM CS CP)) (bT : Binds K fdT SBO []) (DB : Dfn P w K mg base 3 "is_branch" ["value"] (spLook0 K (isInt 0 7))) (DO : Dfn P w K mg base 3 "is_outcome" ["value"] (spLook0 K (isInt 0 1)))
    (F : L2.Fun K "learn" "Predictor.learn" sLearn f fd) : FnOk P w K mg base L2.CX0 5 f fd SBO (spLearnL P w K CM CS CP) := by
  refine F.ok scLearn (fun vs H Q E h => ?_) (fun cdv A outer s H vs Q E hr h => ?_)
  · obtain ⟨r, ps, b, o, rfl, _⟩ := h
    rfl
  · have h' := learnL h
    obtain ⟨r, ps, b, o, rfl, L, b0, b7, ho, rest⟩ := h
    refine ⟨_, pss_cons (ps_if (pt_not (pt_val (pe_d DB hr (by decide) (by rfl) (pa_cons (pv 1) pa_nil)))) (pss_one ps_dead) pss_nil)
      (pss_cons (ps_if (pt_not (pt_val (pe_d DO hr (by decide) (by rfl) (pa_cons (pv 2) pa_nil)))) (pss_one ps_dead) pss_nil)
      (pss_one (ps_ret (pe_meth (pv 0) T.cl mT GT (hr.mono (by decide)) bT .nil pass0 (pa_cons (pv 1) (pa_cons (pv 2) pa_nil)))))), ?_⟩
    refine ⟨.int b, rfl, fun _ => False, .int b, _, rfl, .int b, ?_⟩
    rw [isInt_yes b0 b7]
    refine ⟨_, rfl, .int o, rfl, fun _ => False, .int o, _, rfl, .int o, ?_⟩
    rw [isInt_yes (by omega) (by omega)]
    refine ⟨_, rfl, ?_⟩
    exact ⟨_, rfl, r.p, r.dp, _, rfl, L.pr.1.hpr, rfl, .int b, rfl, .int o, rfl, h'⟩
abbrev sLearnAllL : Stmt := inClass (topS 37) 10
abbrev nLearnAllL : List Str := ["self", "trace", "rounds", "before", "_", "branch", "outcome"]
theorem scLearnAllL : FnScope nLearnAllL ["self", "trace", "rounds"] (defScope sLearnAllL) := ⟨rfl, rfl, rfl, by decide +kernel, rfl, by decide +kernel, by decide +kernel⟩
/-- so many rounds of a trace -/
def roundsOf (l : List (Int × Int)) (R : Nat) : List (Int × Int) := (List.replicate R l).flatten
theorem roundsOf_succ (l : List (Int × Int)) (R : Nat) : roundsOf l (R + 1) = roundsOf l R ++ l := by
  unfold roundsOf
  rw [List.replicate_succ', List.flatten_append]
  simp
theorem roundsOf_len (l : List (Int × Int)) : ∀ R, (roundsOf l R).length = R * l.length
  | 0 => by rw [Nat.zero_mul]; rfl
  | R + 1 => by rw [roundsOf_succ, List.length_append, roundsOf_len l R, Nat.succ_mul]
def spLearnAllL (P : Program) (w : World) (K : PySem.W.Frag) (CM CS CP : Addr) : Sp := fun vs H Q _ => ∃ (r : Pd) (ps : List (Int × Int)) (t : Addr) (l : List (Int × Int)) (R : Nat), vs = [.ref r.p, .ref t, .int (R : Int)] ∧ Led P w K CM CS CP H r ps ∧ PairsAt K H t l ∧ Fair l ∧ R ≤ 1000 ∧ ps.length + R * l.length ≤ 90000 ∧ r.many + R * l.length ≤ 90000 ∧
  ∀ H' (r' : Pd), r'.Akin r → Oth r H H' → Led P w K CM CS CP H' r' (ps ++ roundsOf l R) → r'.many = r.many + R * l.length → Q (.int (r'.n - r.n)) H'
theorem ok_learnAllL {f CM CS CP fT : Addr} {fd fdT : FuncData} (T : TPr K mg CP) (TM : TMem K mg CM) (mT : Meth K CP "_take" fT) (GT : FnOk P w K mg base L2.CX0 4 fT fdT SBO (spTakeF P w K CM CS CP)) (bT : Binds K fdT SBO []) (mr : mg "range" = none)
    (F : L2.Fun K "learn_all" "Predictor.learn_all" sLearnAllL f fd) : FnOk P w K mg base L2.CX0 5 f fd ["self", "trace", "rounds"] (spLearnAllL P w K CM CS CP) := by
  refine F.ok scLearnAllL (fun vs H Q E h => ?_) (fun cdv A outer s H vs Q E hr h => ?_)
  · obtain ⟨r, ps, t, l, R, rfl, _⟩ := h
    rfl
  · obtain ⟨r, ps, t, l, R, rfl, L, hl, fair, R1, pl, mm, q⟩ := h
    refine ⟨_, pss_cons (ps_set (i := 3) scLearnAllL.nd rfl (.inl rfl) (pe_fld (pe_fld (pv 0) rfl) rfl))
      (pss_cons (ps_for PassesOwn.never rfl (pi_range1 rfl mr (pa_cons (pv 2) pa_nil)) (pg_name (i := 4) scLearnAllL.nd rfl (.inl rfl))
        (pss_one (ps_for PassesOwn.never rfl (pi_tup (pv 1)) (pg_tup (n := 2) (by rfl) (pgs_cons (pg_name (i := 5) scLearnAllL.nd rfl (.inl rfl)) (pgs_cons (pg_name (i := 6) scLearnAllL.nd rfl (.inl rfl)) pgs_nil)))
          (pss_one (ps_expr (pe_meth (pv 0) T.cl mT GT (hr.mono (by decide)) bT .nil pass0 (pa_cons (pv 5) (pa_cons (pv 6) pa_nil))))))))
      (pss_one (ps_ret (pe_op op_sub (pe_fld (pe_fld (pv 0) rfl) rfl) (pv 3))))), ?_⟩
    obtain ⟨xst, sqt, hAt, lt⟩ := PairsAt.out hl
    have Rp := L.pr
    refine ⟨_, rfl, r.p, CP, r.dp, _, _, rfl, Rp.1.hpr, T.cl, T.n2, prF_memory _ _ _, r.m, CM, r.dx, _, _, rfl, Rp.1.mem.hob, TM.cl, TM.n3, memF_wrong _ _ _ _, go_name ?_⟩
    generalize hI : (fun (qs : List (Int × Int)) (σ : L2.St) (H' : Hp) => (∃ y4 y5 y6, σ = [some (.ref r.p), some (.ref t), some (.int (R : Int)), some (.int r.n), y4, y5, y6]) ∧ ∃ r' : Pd, r'.Akin r ∧ Oth r H H' ∧ Led P w K CM CS CP H' r' (ps ++ qs) ∧ r'.many = r.many + qs.length) = I
    refine ⟨.int (R : Int), rfl, _, rfl, by omega, by omega, ?_⟩
    refine for_range (lo := 0) (n := ((R : Nat) : Int).toNat) (fun i σ H' => I (roundsOf l i) σ H') ?_ (fun i σ H5 hi hp => ?_) (fun σ H5 hp => ?_)
    · rw [← hI]
      refine ⟨⟨_, _, _, rfl⟩, r, Pd.Akin.refl r, fun q u _ _ _ _ e => e, ?_, rfl⟩
      show Led P w K CM CS CP H r (ps ++ [])
      rw [List.append_nil]
      exact L
    · have hiR : i < R := by omega
      have hp0 := hp
      rw [← hI] at hp0
      obtain ⟨⟨y4, y5, y6, rfl⟩, r5, kin5, rest5, L5, ml5⟩ := hp0
      have k5 := Oth.keep Rp rest5
      refine ⟨.ref t, rfl, t, rfl, ⟨_, k5 _ _ sqt⟩, for_tup (K := K) (xs := xst) (fun j σ H' => j ≤ l.length ∧ I (roundsOf l i ++ l.take j) σ H') ⟨Nat.zero_le _, ?_⟩ (fun j σ H' _ hp => ?_) (fun j v σ H6 hv hp => ?_) (fun σ H6 hp => ?_)⟩
      · rw [List.take_zero, List.append_nil, ← hI]
        rw [← hI] at hp
        obtain ⟨_, b⟩ := hp
        exact ⟨⟨_, _, _, rfl⟩, b⟩
      · rw [← hI] at hp
        obtain ⟨_, _, r', kin, rest, _⟩ := hp
        exact (Oth.keep Rp rest) _ _ sqt
      · obtain ⟨_, hp⟩ := hp
        rw [← hI] at hp
        obtain ⟨⟨y4, y5, y6, rfl⟩, r6, kin6, rest6, L6, ml6⟩ := hp
        have hj : j < l.length := by rw [← lt]; exact (List.getElem?_eq_some_iff.mp hv).1
        have k6 := Oth.keep Rp rest6
        obtain ⟨y, ya, hy, ey, sa⟩ := pd_at (pairs_keep hAt k6) hv
        subst ey
        have hf := fair y (List.mem_of_getElem? hy)
        have hmr : (i + 1) * l.length ≤ R * l.length := Nat.mul_le_mul_right _ (by omega)
        rw [Nat.succ_mul] at hmr
        have lq : (roundsOf l i ++ l.take j).length = i * l.length + j := by rw [List.length_append, roundsOf_len, List.length_take]; omega
        have lps : (ps ++ (roundsOf l i ++ l.take j)).length = ps.length + (i * l.length + j) := by rw [List.length_append, lq]
        rw [lq] at ml6
        refine ⟨ya, _, rfl, sa, rfl, _, _, rfl, _, _, rfl, rfl, ?_⟩
        refine ⟨.ref r.p, rfl, r.p, r6.dp, _, rfl, by rw [← kin6.p]; exact L6.pr.1.hpr, rfl, .int y.1, rfl, .int y.2, rfl, ?_⟩
        have key : spLearnL P w K CM CS CP [.ref r.p, .int y.1, .int y.2] H6 (fun _ H7 => j + 1 ≤ l.length ∧ I (roundsOf l i ++ l.take (j + 1)) [some (.ref r.p), some (.ref t), some (.int (R : Int)), some (.int r.n), y4, some (.int y.1), some (.int y.2)] H7) L2.E0 := by
          refine ⟨r6, _, y.1, y.2, by rw [kin6.p], L6, hf.1.1, hf.1.2, hf.2, by rw [lps]; omega, by omega, fun H7 s t7 L7 => ⟨by omega, ?_⟩⟩
          rw [← hI]
          have tk : l.take (j + 1) = l.take j ++ [y] := by
            rw [List.take_succ, hy]
            rfl
          refine ⟨⟨_, _, _, rfl⟩, r6.next y.1 y.2 s, kin6.next _ _ _, rest6.trans kin6 t7, ?_, ?_⟩
          · rw [tk, ← List.append_assoc, ← List.append_assoc]
            rw [← List.append_assoc] at L7
            exact L7
          · show r6.many + 1 = _
            rw [tk, ← List.append_assoc, List.length_append, lq]
            show _ = r.many + (i * l.length + j + 1)
            omega
        exact learnL key
      · obtain ⟨_, hp⟩ := hp
        rw [lt, List.take_length, ← roundsOf_succ] at hp
        exact hp
    · rw [show ((R : Nat) : Int).toNat = R by omega, ← hI] at hp
      obtain ⟨⟨y4, y5, y6, rfl⟩, r5, kin5, rest5, L5, ml5⟩ := hp
      rw [roundsOf_len] at ml5
      have R5 := L5.pr
      refine ⟨_, rfl, r.p, CP, r5.dp, _, _, rfl, by rw [← kin5.p]; exact R5.1.hpr, T.cl, T.n2, prF_memory _ _ _, r5.m, CM, r5.dx, _, _, rfl, R5.1.mem.hob, TM.cl, TM.n3, memF_wrong _ _ _ _, .int r.n, rfl, _, _, rfl, rfl, ?_⟩
      exact q H5 r5 kin5 rest5 L5 ml5
end
end Pf
namespace Pf
open PySem PySem.Spec PyProof.Rows L2 Gk Fold
section
variable {P : Program} {w : World} {K : PySem.W.Frag} {mg : Str → Option Value} {base : Heap}
theorem ok_callL {f CM CS CP fT : Addr} {fd fdT : FuncData} (T : TPr K mg CP) (mT : Meth K CP "learn" fT) (GT : FnOk P w K mg base L2.CX0 5 fT fdT SBO (spLearnL P w K CM CS CP)) (bT : Binds K fdT SBO [])
    (F : L2.Fun K "__call__" "Predictor.__call__" sCallP f fd) : FnOk P w K mg base L2.CX0 6 f fd SBO (spLearnL P w K CM CS CP) := by
  refine F.ok scCallP (fun vs H Q E h => ?_) (fun cdv A outer s H vs Q E hr h => ?_)
  · obtain ⟨r, ps, b, o, rfl, _⟩ := h
    rfl
  · have h' := h
    obtain ⟨r, ps, b, o, rfl, L, b0, b7, ho, rest⟩ := h
    refine ⟨_, pss_one (ps_ret (pe_meth (pv 0) T.cl mT GT (hr.mono (by decide)) bT .nil pass0 (pa_cons (pv 1) (pa_cons (pv 2) pa_nil)))), ?_⟩
    exact ⟨_, rfl, r.p, r.dp, _, rfl, L.pr.1.hpr, rfl, .int b, rfl, .int o, rfl, h'⟩
end
end Pf
namespace Pf
open PySem PySem.Spec PyProof.Rows L2 Gk Fold
/-! ### _law_state -/
def optD : Option Int → PyData
  | none => .none
  | some u => .int u
def optV : Option Int → V
  | none => .non
  | some u => .int u
def homeD (π : Par) (S : Ms) (b : Nat) : PyData := .tuple [.str (txt (S.hs (ownO π.k b))), cellD π.k π.x b (S.hs (ownO π.k b)), .int (prd π.wd (S.val π b)), optD (S.cs (S.cell π b))]
def stateD (π : Par) (ps : List (Int × Int)) : PyData := .list ([planD π.k (π.L : Int) π.x, .tuple [.int π.wd, .int π.v0], .tuple (ps.map pd), .int (msOf π ps).n, .int (((msOf π ps).ks.length : Nat) : Int)] ++ (List.range 8).map (homeD π (msOf π ps)))
theorem home_tame {π : Par} {S : Ms} {z : Int} (ok : PlanOk π.k z π.x) (w4 : π.wd ≤ 4) (b : Nat) (hb : b < 8) (hl : (S.hs (ownO π.k b)).length ≤ 64) (hv : ∀ q u, S.cs q = some u → 0 ≤ u ∧ u ≤ top π.wd) : Gk.tame (homeD π S b) = true ∧ cost (homeD π S b) ≤ 1000 ∧ (homeD π S b).depth ≤ 5 := by
  obtain ⟨t, c, d⟩ := cell_tame (b := b) ok hb hl
  have t0 := tame_txt (S.hs (ownO π.k b))
  have c0 := cost_txt (S.hs (ownO π.k b))
  have tb : top π.wd ≤ 16 := top_le (n := 4) w4
  have t2 : tame (.int (prd π.wd (S.val π b))) = true := by unfold prd; split <;> decide
  have c2 : cost (.int (prd π.wd (S.val π b))) = 70 := rfl
  have t3 : tame (optD (S.cs (S.cell π b))) = true := by
    cases e : S.cs (S.cell π b) with
    | none => rfl
    | some u =>
      have := hv _ _ e
      show tame (.int u) = true
      simp only [Gk.tame, decide_eq_true_eq]
      omega
  have c3 : cost (optD (S.cs (S.cell π b))) = 70 := by cases S.cs (S.cell π b) <;> rfl
  have d3 : (optD (S.cs (S.cell π b))).depth ≤ 1 := by cases S.cs (S.cell π b) <;> (simp only [optD, PyData.depth]; omega)
  refine ⟨?_, ?_, ?_⟩
  · show (tame (.str (txt (S.hs (ownO π.k b)))) && (tame (cellD π.k π.x b (S.hs (ownO π.k b))) && (tame (.int (prd π.wd (S.val π b))) && (tame (optD (S.cs (S.cell π b))) && true)))) = true
    rw [t, t0, t2, t3]
    rfl
  · simp only [homeD, cost, costAll] at c0 c2 c3 ⊢
    omega
  · simp only [homeD, PyData.depth, PyData.depthAll]
    omega
theorem stateD_eight (π : Par) (ps : List (Int × Int)) : stateD π ps = .list [planD π.k (π.L : Int) π.x, .tuple [.int π.wd, .int π.v0], .tuple (ps.map pd), .int (msOf π ps).n, .int (((msOf π ps).ks.length : Nat) : Int), homeD π (msOf π ps) 0, homeD π (msOf π ps) 1, homeD π (msOf π ps) 2, homeD π (msOf π ps) 3, homeD π (msOf π ps) 4, homeD π (msOf π ps) 5, homeD π (msOf π ps) 6, homeD π (msOf π ps) 7] := rfl
theorem state_fine {π : Par} {ps : List (Int × Int)} (ok : PlanOk π.k (π.L : Int) π.x) (w1 : 1 ≤ π.wd) (v1 : 0 ≤ π.v0) (v2 : π.v0 ≤ top π.wd) (w4 : π.wd ≤ 4) (hL : π.L ≤ 64) (hv : ∀ q u, (msOf π ps).cs q = some u → 0 ≤ u ∧ u ≤ top π.wd) (fair : Fair ps) (pl : ps.length ≤ 3000) : Fine (stateD π ps) := by
  obtain ⟨i1, i2, i3, i4, i5⟩ := ms_inv π _ ps rfl
  have hm : ∀ b, b < 8 → Gk.tame (homeD π (msOf π ps) b) = true ∧ cost (homeD π (msOf π ps) b) ≤ 1000 ∧ (homeD π (msOf π ps) b).depth ≤ 5 := fun b hb => home_tame ok w4 b hb (by rw [ms_len π _ ps rfl]; exact hL) hv
  rw [stateD_eight]
  obtain ⟨t0, c0, d0⟩ := hm 0 (by decide)
  obtain ⟨t1, c1, d1⟩ := hm 1 (by decide)
  obtain ⟨t2, c2, d2⟩ := hm 2 (by decide)
  obtain ⟨t3, c3, d3⟩ := hm 3 (by decide)
  obtain ⟨t4, c4, d4⟩ := hm 4 (by decide)
  obtain ⟨t5, c5, d5⟩ := hm 5 (by decide)
  obtain ⟨t6, c6, d6⟩ := hm 6 (by decide)
  obtain ⟨t7, c7, d7⟩ := hm 7 (by decide)
  obtain ⟨pt, pc, pdp⟩ := plan_tame ok
  have tb : top π.wd ≤ 16 := top_le (n := 4) w4
  have tp := tame_pd fair
  have cp := cost_pd ps
  have dp := depth_pd ps
  generalize homeD π (msOf π ps) 0 = e0 at t0 c0 d0 ⊢
  generalize homeD π (msOf π ps) 1 = e1 at t1 c1 d1 ⊢
  generalize homeD π (msOf π ps) 2 = e2 at t2 c2 d2 ⊢
  generalize homeD π (msOf π ps) 3 = e3 at t3 c3 d3 ⊢
  generalize homeD π (msOf π ps) 4 = e4 at t4 c4 d4 ⊢
  generalize homeD π (msOf π ps) 5 = e5 at t5 c5 d5 ⊢
  generalize homeD π (msOf π ps) 6 = e6 at t6 c6 d6 ⊢
  generalize homeD π (msOf π ps) 7 = e7 at t7 c7 d7 ⊢
  refine Fine.tame ?_ ?_ ?_
  · have a1 : tame (.int (msOf π ps).n) = true := by simp only [Gk.tame, decide_eq_true_eq]; omega
    have a2 : tame (.int (((msOf π ps).ks.length : Nat) : Int)) = true := by simp only [Gk.tame, decide_eq_true_eq]; omega
    have a3 : tame (.tuple (ps.map pd)) = true := by simpa only [Gk.tame] using tp
    have a4 : tame (.int π.wd) = true := by simp only [Gk.tame, decide_eq_true_eq]; omega
    have a5 : tame (.int π.v0) = true := by simp only [Gk.tame, decide_eq_true_eq]; omega
    show (tame (planD π.k (π.L : Int) π.x) && ((tame (.int π.wd) && (tame (.int π.v0) && true)) && (tame (.tuple (ps.map pd)) && (tame (.int (msOf π ps).n) && (tame (.int (((msOf π ps).ks.length : Nat) : Int)) && (tame e0 && (tame e1 && (tame e2 && (tame e3 && (tame e4 && (tame e5 && (tame e6 && (tame e7 && true)))))))))))) ) = true
    rw [pt, a4, a5, a1, a2, a3, t0, t1, t2, t3, t4, t5, t6, t7]
    rfl
  · simp only [PyData.depth, PyData.depthAll]
    omega
  · simp only [Gk.cost, costAll]
    omega
theorem dps_keep {K : PySem.W.Frag} {H H' : Hp} (kp : Keep K H H') : ∀ {ds : List PyData} {xs : List V}, (∀ d ∈ ds, tups d = true) → DpAll K H xs ds → DpAll K H' xs ds
  | [], _, _, .nil => .nil
  | d :: ds, _, t, .cons h r => .cons (Dp.keep kp _ _ (t d List.mem_cons_self) h) (dps_keep kp (fun e he => t e (List.mem_cons_of_mem _ he)) r)
theorem home_tups (π : Par) (S : Ms) (b : Nat) : tups (homeD π S b) = true := by
  show (tups (.str (txt (S.hs (ownO π.k b)))) && (tups (cellD π.k π.x b (S.hs (ownO π.k b))) && (tups (.int (prd π.wd (S.val π b))) && (tups (optD (S.cs (S.cell π b))) && true)))) = true
  rw [cell_tups]
  cases S.cs (S.cell π b) <;> rfl
theorem pds_tups (ps : List (Int × Int)) : tups (.tuple (ps.map pd)) = true := by
  show tupsAll (ps.map pd) = true
  induction ps with
  | nil => rfl
  | cons p r ih =>
    show (tups (pd p) && tupsAll (r.map pd)) = true
    rw [ih]
    rfl
abbrev sState : Stmt := topS 49
abbrev nState : List Str := ["_law_made", "_law_some", "_law_home", "_law_spot"]
theorem scState : FnScope nState ["_law_made"] (defScope sState) := ⟨rfl, rfl, rfl, by decide +kernel, rfl, by decide +kernel, by decide +kernel⟩
section
variable {P : Program} {w : World} {K : PySem.W.Frag} {mg : Str → Option Value} {base : Heap}
def spState (P : Program) (w : World) (K : PySem.W.Frag) (CM CS CP : Addr) : Sp := fun vs H Q _ => ∃ (r : Pd) (ps : List (Int × Int)), vs = [.ref r.p] ∧ Led P w K CM CS CP H r ps ∧ ps.length ≤ 3000 ∧ ∀ H', Same H H' → Q (.str (stateD r.par ps).shown) H'
theorem ok_state {f CM CS CP fH fC fP fE fL fS fG fN fI fX pE pL pS pG : Addr} {fd fdH fdC fdP fdS fdG fdE fdL fdN fdI fdX : FuncData} (T : TPr K mg CP)
    (mH : Meth K CP "history" fH) (GH : FnOk P w K mg base L2.CX0 4 fH fdH ["self", "branch"] (spHistoryP P w K CM CP)) (bH : Binds K fdH ["self", "branch"] [])
    (mC : Meth K CP "cell" fC) (GC : FnOk P w K mg base L2.CX0 5 fC fdC ["self", "branch"] (spCellP P w K CM CP)) (bC : Binds K fdC ["self", "branch"] [])
    (mP : Meth K CP "predict" fP) (GP : FnOk P w K mg base L2.CX0 6 fP fdP ["self", "branch"] (spPredictP P w K CM CP)) (bP : Binds K fdP ["self", "branch"] [])
    (qS : PropOf K CP "scheme" pS fS) (GS : FnOk P w K mg base L2.CX0 1 fS fdS ["self"] (spPropS P w K CM CP)) (bS : Binds K fdS ["self"] [])
    (qG : PropOf K CP "counter" pG fG) (GG : FnOk P w K mg base L2.CX0 1 fG fdG ["self"] (spPropC P w K CM CP)) (bG : Binds K fdG ["self"] [])
    (qE : PropOf K CP "errors" pE fE) (GE : FnOk P w K mg base L2.CX0 1 fE fdE ["self"] (spPropE P w K CM CP)) (bE : Binds K fdE ["self"] [])
    (qL : PropOf K CP "learned" pL fL) (GL : FnOk P w K mg base L2.CX0 1 fL fdL ["self"] (spPropL P w K CM CS CP)) (bL : Binds K fdL ["self"] [])
    (iN : PySem.W.findIn K (.ref CP) "__len__" = some (some (.ref fN))) (kN : PySem.W.isFn K (.ref fN) = true) (GN : FnOk P w K mg base L2.CX0 1 fN fdN ["self"] (spLenP P w K CM CP)) (bN : Binds K fdN ["self"] [])
    (iI : PySem.W.findIn K (.ref CP) "__contains__" = some (some (.ref fI))) (kI : PySem.W.isFn K (.ref fI) = true) (GI : FnOk P w K mg base L2.CX0 4 fI fdI ["self", "x"] (spHas P w K CM CP)) (bI : Binds K fdI ["self", "x"] [])
    (iX : PySem.W.findIn K (.ref CP) "__getitem__" = some (some (.ref fX))) (nX : PySem.W.fnIn K fX = true) (kX : PySem.W.isFn K (.ref fX) = true) (GX : FnOk P w K mg base L2.CX0 4 fX fdX ["self", "at"] (spGetP P w K CM CP)) (bX : Binds K fdX ["self", "at"] [])
    (mr : mg "range" = none) (mp : mg "repr" = none) (ml : mg "len" = none) (F : L2.Fun K "_law_state" "_law_state" sState f fd) : FnG P w K mg base 8 f fd ["_law_made"] (spState P w K CM CS CP) := by
  refine fnG F scState (fun vs H Q E h => ?_) (fun cdv A outer s H vs Q hr hg h => ?_)
  · obtain ⟨r, ps, rfl, _⟩ := h
    rfl
  · obtain ⟨r, ps, rfl, L, pl, q⟩ := h
    refine ⟨_, pss_cons (ps_set (i := 1) scState.nd rfl (.inl rfl) (pe_lst (pa_cons (pe_prop (pv 0) T.cl qS GS (hr.mono (by decide)) bS .nil pass0 rfl) (pa_cons (pe_prop (pv 0) T.cl qG GG (hr.mono (by decide)) bG .nil pass0 rfl) (pa_cons (pe_prop (pv 0) T.cl qL GL (hr.mono (by decide)) bL .nil pass0 rfl) (pa_cons (pe_prop (pv 0) T.cl qE GE (hr.mono (by decide)) bE .nil pass0 rfl) (pa_cons (pe_callB (cr_lenOwn (C := CP) iN kN GN (hr.mono (by decide)) bN pass0) (by rfl) ml PySem.boot_len (pa_cons (pv 0) pa_nil)) pa_nil)))))))
      (pss_cons (ps_for PassesOwn.never rfl (pi_range1 rfl mr (pa_cons pe_int pa_nil)) (pg_name (i := 2) scState.nd rfl (.inl rfl))
        (pss_cons (ps_set (i := 3) scState.nd rfl (.inl rfl) (pe_meth (pv 0) T.cl mC GC (hr.mono (by decide)) bC .nil pass0 (pa_cons (pv 2) pa_nil)))
        (pss_one (ps_expr (pe_bm PySem.F.plainAttrs_list PySem.F.slot_list_append PySem.F.type_list_append mt_append (pv 1) (pa_cons (pe_tup (pa_cons (pe_meth (pv 0) T.cl mH GH (hr.mono (by decide)) bH .nil pass0 (pa_cons (pv 2) pa_nil)) (pa_cons (pv 3) (pa_cons (pe_meth (pv 0) T.cl mP GP (hr.mono (by decide)) bP .nil pass0 (pa_cons (pv 2) pa_nil))
            (pa_cons (pe_mid (pe_ifExp (pt_cmpR (op_inOwn (C := CP) iI kI GI (hr.mono (by decide)) bI pass0) (pv 3) (pv 0) (by rfl)) (pe_ixOwn (C := CP) iX nX kX GX (hr.mono (by decide)) bX pass0 (pv 0) (pv 3) (fun _ _ => rfl)) pe_non)) pa_nil))))) pa_nil))))))
      (pss_one (ps_ret (pe_callB (call_reprF hr hg) (by rfl) mp (by decide +kernel) (pa_cons (pv 1) pa_nil))))), ?_⟩
    have R := L.pr
    have ok := R.1.okp
    have w4 := R.1.w4
    have z64 := ok.2.1
    have en : r.n = (msOf r.par ps).n := congrArg Ms.n L.ms
    have ek : r.ks = (msOf r.par ps).ks := congrArg Ms.ks L.ms
    have ehs : r.hs = (msOf r.par ps).hs := congrArg Ms.hs L.ms
    have ecs : r.cs = (msOf r.par ps).cs := congrArg Ms.cs L.ms
    have eL : ((r.par.L : Nat) : Int) = r.z := Int.toNat_of_nonneg ok.1
    have okL : PlanOk r.par.k (r.par.L : Int) r.par.x := by rw [eL]; exact ok
    refine ⟨.ref r.p, rfl, r.p, r.dp, _, rfl, R.1.hpr, r, rfl, R, .ref r.p, rfl, r.p, r.dp, _, rfl, R.1.hpr, r, rfl, R, .ref r.p, rfl, r.p, r.dp, _, rfl, R.1.hpr, r, ps, rfl, R, L.st.at, by omega, fun H1 tt as s1 htt dp => ?_⟩
    have R1 := R.same s1
    refine ⟨.ref r.p, rfl, r.p, r.dp, _, rfl, R1.1.hpr, r, rfl, R1, .ref r.p, rfl, r.p, r.dp, _, rfl, R1.1.hpr, r, rfl, R1, _, rfl, by omega, ?_, ?_⟩
    · have := (ms_inv r.par _ ps rfl).2.2.1
      rw [← ek] at this
      omega
    refine ⟨by show 5 ≤ sizeLine; decide, fun D nD => go_name ?_⟩
    have s12 : Same H1 (upd H1 D (.lst [.ref r.c, .ref r.g, .ref tt, .int r.n, .int ((r.ks.length : Nat) : Int)])) := same_new nD
    have hD : (upd H1 D (.lst [.ref r.c, .ref r.g, .ref tt, .int r.n, .int ((r.ks.length : Nat) : Int)])) D = some (.lst [.ref r.c, .ref r.g, .ref tt, .int r.n, .int ((r.ks.length : Nat) : Int)]) := upd_same
    have nD0 : H D = none := by
      cases e : H D with
      | none => rfl
      | some o => rw [s1 _ _ e] at nD; cases nD
    generalize upd H1 D (.lst [.ref r.c, .ref r.g, .ref tt, .int r.n, .int ((r.ks.length : Nat) : Int)]) = H2 at s12 hD
    have s02 := s1.trans s12
    have tH : ∀ i, ∀ d ∈ planD r.par.k (r.par.L : Int) r.par.x :: .tuple [.int r.par.wd, .int r.par.v0] :: (.tuple (ps.map pd) : PyData) :: .int (msOf r.par ps).n :: .int (((msOf r.par ps).ks.length : Nat) : Int) :: (List.range i).map (homeD r.par (msOf r.par ps)), tups d = true := by
      intro i d hd
      rcases List.mem_cons.mp hd with rfl | hd
      · cases r.par.x <;> rfl
      rcases List.mem_cons.mp hd with rfl | hd
      · rfl
      rcases List.mem_cons.mp hd with rfl | hd
      · exact pds_tups ps
      rcases List.mem_cons.mp hd with rfl | hd
      · rfl
      rcases List.mem_cons.mp hd with rfl | hd
      · rfl
      obtain ⟨b, _, rfl⟩ := List.mem_map.mp hd
      exact home_tups _ _ _
    refine ⟨_, rfl, by decide, by decide, ?_⟩
    refine for_range (lo := 0) (n := (8 : Int).toNat) (fun i σ H' => (∃ y2 y3, σ = [some (.ref r.p), some (.ref D), y2, y3]) ∧ Same H H' ∧ ∃ vs, H' D = some (.lst vs) ∧ vs.length = i + 5 ∧ DpAll K H' vs (planD r.par.k (r.par.L : Int) r.par.x :: .tuple [.int r.par.wd, .int r.par.v0] :: (.tuple (ps.map pd) : PyData) :: .int (msOf r.par ps).n :: .int (((msOf r.par ps).ks.length : Nat) : Int) :: (List.range i).map (homeD r.par (msOf r.par ps)))) ⟨⟨_, _, rfl⟩, s02, _, hD, rfl, ?_⟩ (fun i σ H3 hi hp => ?_) (fun σ H3 hp => ?_)
    · rw [en, ek]
      rw [eL]
      exact .cons (plan_dp (Same.seqT s02 R.1.hsc)) (.cons (.tup (Same.seqT s02 R.1.hga) (.cons (.int _) (.cons (.int _) .nil))) (.cons (.tup (Same.seqT s12 htt) (pairs_keep dp (Same.keep s12))) (.cons (.int _) (.cons (.int _) .nil))))
    · obtain ⟨⟨y2, y3, rfl⟩, s03, vs, hD3, lv, dv⟩ := hp
      have hi : i < 8 := hi
      have R3 := R.same s03
      refine ⟨.ref r.p, rfl, r.p, r.dp, _, rfl, R3.1.hpr, rfl, .int (0 + (i : Nat)), rfl, r, 0 + (i : Nat), rfl, R3, by omega, by omega, fun H4 cv s34 ck => go_name ?_⟩
      have s04 := s03.trans s34
      have R4 := R.same s04
      refine ⟨.ref D, rfl, .inl ⟨rfl, _, SqL.of (s34 _ _ hD3)⟩, ?_⟩
      refine ⟨.ref r.p, rfl, r.p, r.dp, _, rfl, R4.1.hpr, rfl, .int (0 + (i : Nat)), rfl, r, 0 + (i : Nat), rfl, R4, by omega, by omega, cv, rfl, ?_⟩
      refine ⟨.ref r.p, rfl, r.p, r.dp, _, rfl, R4.1.hpr, rfl, .int (0 + (i : Nat)), rfl, r, 0 + (i : Nat), rfl, R4, by omega, by omega, fun H5 s45 => ?_⟩
      have s05 := s04.trans s45
      have R5 := R.same s05
      have ei : (0 + ((i : Nat) : Int)) = ((i : Nat) : Int) := by omega
      have et : (0 + ((i : Nat) : Int)).toNat = i := by omega
      have ck5 : Ck K H5 cv (cellD r.k r.x (0 + ((i : Nat) : Int)).toNat (r.hs (ownO r.k (0 + (i : Nat))))) := ⟨Dp.keep (Same.keep s45) _ _ (cell_tups _ _ _ _) ck.1, ck.2.same fun b ts e => s45 _ _ e⟩
      refine ⟨fun v H' => H' = H5 ∧ v = optV (r.cs (cK r.k r.x (0 + ((i : Nat) : Int)).toNat (r.hs (ownO r.k (0 + (i : Nat)))))), ?_, fun v H' hv => ?_⟩
      · refine ⟨cv, rfl, .ref r.p, rfl, r.p, r.dp, _, rfl, R5.1.hpr, r, cv, (0 + ((i : Nat) : Int)).toNat, r.hs (ownO r.k (0 + (i : Nat))), rfl, R5, ck5, _, rfl, _, rfl, ?_⟩
        cases hu : r.cs (cK r.k r.x (0 + ((i : Nat) : Int)).toNat (r.hs (ownO r.k (0 + (i : Nat))))) with
        | none =>
          refine iteF ?_
          exact ⟨rfl, rfl⟩
        | some u =>
          refine iteT ?_
          exact ⟨.ref r.p, rfl, cv, rfl, r.p, r.dp, _, rfl, R5.1.hpr, r, cv, (0 + ((i : Nat) : Int)).toNat, r.hs (ownO r.k (0 + (i : Nat))), u, rfl, R5, ck5, hu, rfl, rfl⟩
      obtain ⟨rfl, rfl⟩ := hv
      refine ⟨by show 4 ≤ sizeLine; decide, fun TT nTT => ?_⟩
      have s56 : Same H' (upd H' TT (.tup [.str (txt (r.hs (ownO r.k (0 + (i : Nat))))), cv, .int (prd r.wd (r.val (0 + (i : Nat)))), optV (r.cs (cK r.k r.x (0 + ((i : Nat) : Int)).toNat (r.hs (ownO r.k (0 + (i : Nat))))))])) := same_new nTT
      have hTT : (upd H' TT (.tup [.str (txt (r.hs (ownO r.k (0 + (i : Nat))))), cv, .int (prd r.wd (r.val (0 + (i : Nat)))), optV (r.cs (cK r.k r.x (0 + ((i : Nat) : Int)).toNat (r.hs (ownO r.k (0 + (i : Nat))))))])) TT = some (.tup [.str (txt (r.hs (ownO r.k (0 + (i : Nat))))), cv, .int (prd r.wd (r.val (0 + (i : Nat)))), optV (r.cs (cK r.k r.x (0 + ((i : Nat) : Int)).toNat (r.hs (ownO r.k (0 + (i : Nat))))))]) := upd_same
      generalize upd H' TT (.tup [.str (txt (r.hs (ownO r.k (0 + (i : Nat))))), cv, .int (prd r.wd (r.val (0 + (i : Nat)))), optV (r.cs (cK r.k r.x (0 + ((i : Nat) : Int)).toNat (r.hs (ownO r.k (0 + (i : Nat))))))]) = H6 at s56 hTT ⊢
      have s36 := (s34.trans s45).trans s56
      have s06 := s03.trans s36
      have hD6 := s36 _ _ hD3
      have k6 : Keep K H6 (upd H6 D (.lst (vs ++ [.ref TT]))) := keep_wr hD6
      have ck6 := Dp.keep (Same.keep s56) _ _ (cell_tups _ _ _ _) ck5.1
      refine ⟨D, _, .ref TT, rfl, rfl, hD6, by rw [lv, sizeLine_eq]; omega, ⟨_, _, rfl⟩, fun b o e => by rw [upd_ne (ne_of_none e nD0)]; exact s06 _ _ e, vs ++ [.ref TT], upd_same, by rw [List.length_append, lv]; rfl, ?_⟩
      rw [List.range_succ, List.map_append]
      refine DpAll.app (us := [.ref TT]) (ds := planD r.par.k (r.par.L : Int) r.par.x :: .tuple [.int r.par.wd, .int r.par.v0] :: (.tuple (ps.map pd) : PyData) :: .int (msOf r.par ps).n :: .int (((msOf r.par ps).ks.length : Nat) : Int) :: (List.range i).map (homeD r.par (msOf r.par ps))) (dps_keep ((Same.keep s36).trans k6) (tH i) dv) (.cons ?_ .nil)
      have dt : Dp K H6 (.ref TT) (homeD r.par (msOf r.par ps) i) := by
        have dopt : Dp K H6 (optV (r.cs (cK r.k r.x (0 + ((i : Nat) : Int)).toNat (r.hs (ownO r.k (0 + (i : Nat))))))) (optD (r.cs (cK r.k r.x (0 + ((i : Nat) : Int)).toNat (r.hs (ownO r.k (0 + (i : Nat))))))) := by
          cases r.cs (cK r.k r.x (0 + ((i : Nat) : Int)).toNat (r.hs (ownO r.k (0 + (i : Nat))))) with
          | none => exact .non
          | some u => exact .int u
        have all : Dp K H6 (.ref TT) (.tuple [.str (txt (r.hs (ownO r.k (0 + (i : Nat))))), cellD r.k r.x (0 + ((i : Nat) : Int)).toNat (r.hs (ownO r.k (0 + (i : Nat)))), .int (prd r.wd (r.val (0 + (i : Nat)))), optD (r.cs (cK r.k r.x (0 + ((i : Nat) : Int)).toNat (r.hs (ownO r.k (0 + (i : Nat))))))]) := .tup (.inl (.inl hTT)) (.cons (.str _) (.cons ck6 (.cons (.int _) (.cons dopt .nil))))
        have eh : homeD r.par (msOf r.par ps) i = .tuple [.str (txt (r.hs (ownO r.k (0 + (i : Nat))))), cellD r.k r.x (0 + ((i : Nat) : Int)).toNat (r.hs (ownO r.k (0 + (i : Nat)))), .int (prd r.wd (r.val (0 + (i : Nat)))), optD (r.cs (cK r.k r.x (0 + ((i : Nat) : Int)).toNat (r.hs (ownO r.k (0 + (i : Nat))))))] := by
          rw [et, ei, ← L.ms]
          unfold homeD Ms.val Ms.cell
          rfl
        rw [eh]
        exact all
      exact Dp.keep k6 _ _ (home_tups _ _ _) dt
    · obtain ⟨⟨y2, y3, rfl⟩, s03, vs, hD3, lv, dv⟩ := hp
      refine ⟨.ref D, rfl, .ref D, stateD r.par ps, rfl, .lst (SqL.of hD3) dv, state_fine okL R.1.w1 R.1.v1 R.1.v2 w4 (by show r.z.toNat ≤ 64; omega) (fun q u e => ?_) L.fair pl, ?_⟩
      · rw [← ecs] at e
        have := R.2.2 q
        rw [e] at this
        exact this
      · exact q H3 s03
end
end Pf
/-! o == x, x any value, and o != p, by the class's own __eq__ -/
namespace Gk
open PySem PySem.Spec PyProof.Rows L2
section
variable {X : Cx} {CX : CXT} {k : Nat} {C f : Addr} {fd : FuncData} {ps : List Str} {sp : Sp} {E : XK}
/-- o == x: o an instance of the class at C; t: the other's type, which has no say ahead of C -/
def rEqOwn (K : PySem.W.Frag) (C : Addr) (sp : Sp) (E : XK) : R2 := fun x y H Q => ∃ a dx fs t, x = .ref a ∧ H a = some (.ins C dx fs) ∧ TyX K H y t ∧ PySem.W.notFirst K C t = true ∧ sp [.ref a, y] H (fun v H' => ∃ b, v = .bl b ∧ Q (.bl b) H') E
theorem op_eqOwn (hs : PySem.W.findIn X.K (.ref C) "__eq__" = some (some (.ref f))) (hf : PySem.W.isFn X.K (.ref f) = true) (F : FnOk X.prog X.w X.K X.mg X.base CX k f fd ps sp) (hr : Room k X.A) (hb : Binds X.K fd ps []) (hx : Passes CX X E) :
    OpR X (compareOp .Eq) (rEqOwn X.K C sp E) := by
  intro pins s σ H x y v u Q I rx ry h
  obtain ⟨a, dx, fs, t, rfl, ha, ty, hn, hq⟩ := h
  obtain rfl : v = Value.ref a := rx
  obtain ⟨ox, od, J, _⟩ := inst_at I ha
  obtain ⟨m, hF⟩ := I.fr
  obtain ⟨P, Z, p, _⟩ := kit_of I ry ty
  have go : wpAny (model X.prog X.w) X.A (richCompare .Eq (.ref a) u) (EP X pins σ Q) X.xe s :=
    PySem.W.cmp_K (op := .Eq) (tb := t) hr.units0 hF I.ok.mod.kin J (Z.ty _ _ I.kIn p) hn hs hf (wpAny_mono (call_below ⟨hr, rfl⟩ I F hb hx (.cons (show RelV (.ref a) (.ref a) from rfl) (.cons ry .nil)) hq) (fun v s' q => by
      obtain ⟨z, H', I', rz, b, rfl, q⟩ := q
      cases rz
      exact ⟨.bl b, H', I', rfl, q⟩) fun _ _ z => z)
  exact go
end
/-- a special name that the class leaves to a built-in one -/
theorem bound_slot {M : Model} {A : Around} {E : Value → Shared → Prop} {s : Shared} {K : PySem.W.Frag} {x C : Addr} {ox : Obj} {od : Option Obj} {name : Str} {B id : String} {args : List Value} {Q : Option Value → Shared → Prop} (X : K.In s.heap) (I : PySem.W.InstAt s.heap x ox C od)
    (hs : PySem.W.findIn K (.ref C) name = some (some (.builtin id))) (S : Slot B name id) (h : wpAny M A (call (.builtin id) (.ref x :: args)) (fun v s' => Q (some v) s') E s) : wpAny M A (callSpecialIfBound? (.ref x) name args) Q E s := by
  have last : wpAny M A (call (.builtin id) ([.ref x] ++ args) >>= fun v => pure (some v)) Q E s := wpAny_bind (wpAny_mono h (fun v s' z => wpAny_pure z) fun _ _ z => z)
  unfold callSpecialIfBound? bindSpecialIfBound?
  refine wpAny_holding ?_
  refine wpAny_bind (wpAny_bind ?_)
  refine wpAny_bind (I.type.here ?_)
  refine (PySem.W.looks_findIn X hs).here ?_
  simp only [S.bind]
  refine wpAny_bind (wpAny_askSetting ?_)
  refine wpAny_ite ?_
  split
  · exact wpAny_bind (wpAny_pure (wpAny_pure last))
  · exact wpAny_tryCatch (wpAny_bind (wpAny_pure (wpAny_pure last)))
theorem ne_entry {prog : Program} {w : World} {A : Around} {E : Value → Shared → Prop} {h : Heap} {g : Array GenState} {d : Drawn} {t : Nat} {os : OsState} {K : PySem.W.Frag} {x y C f : Addr} {ox : Obj} {od : Option Obj} (X : K.In h) (I : PySem.W.InstAt h x ox C od) (hs : PySem.W.findIn K (.ref C) "__eq__" = some (some (.ref f)))
    (hf : PySem.W.isFn K (.ref f) = true) (hu : A.units < cLine) {Q : Fin → Shared → Prop} (hc : wpAny (model prog w) A (call (.ref f) [.ref x, .ref y]) (fun v s' => ∃ b, v = .bool b ∧ Q (.done (.ret (.bool (!b)))) s') E ⟨h, g, d, t, os⟩) :
    wpAny (model prog w) A (Builtin.«object.__ne__» ⟨[.ref x, .ref y], []⟩) Q E ⟨h, g, d, t, os⟩ := by
  unfold Builtin.«object.__ne__»
  repeat (first
    | with_reducible refine wpAny_cRoomFor hu ?_
    | (refine wpAny_bind (m := callSpecialIfBound? (.ref x) (Str.ofString "__eq__") [.ref y]) (PySem.W.ifBound_K X I hs hf (wpAny_mono hc (fun r s' hr => by
          obtain ⟨b, rfl, z⟩ := hr
          repeat (first | exact z | exact wpAny_pure z | exact wpAny_truthy_bool z | (refine wpAny_bind (m := truthy (.bool _)) (wpAny_truthy_bool ?_)) | wp_step)) fun _ _ e => e)))
    | wp_step)
section
variable {X : Cx} {CX : CXT} {k : Nat} {C f N : Addr} {fd : FuncData} {ps : List Str} {sp : Sp} {E : XK} {nm q : Str} {bs : List Value} {hdct : Bool} {sn : List Str} {sub : List Value} {ab : Bool} {col : Option Bool} {dd : Option Addr} {k0 k1 k2 k3 k5 : Option Value} {newId : String}
/-- o != p: both instances of the class at C -/
def rNeOwn (C : Addr) (sp : Sp) (E : XK) : R2 := fun x y H Q => ∃ a dx fs b dy gs, x = .ref a ∧ y = .ref b ∧ H a = some (.ins C dx fs) ∧ H b = some (.ins C dy gs) ∧ sp [.ref a, .ref b] H (fun v H' => ∃ z, v = .bl z ∧ Q (.bl (!z)) H') E
theorem op_neOwn (hs : PySem.W.findIn X.K (.ref C) "__eq__" = some (some (.ref f))) (hne : PySem.W.findIn X.K (.ref C) "__ne__" = some (some (.builtin "object.__ne__"))) (hC : X.K.lookup C = some (excClassObj nm q C N bs [.type "object"] hdct sn sub ab col dd k0 k1 k2 k3 k5 newId))
    (hf : PySem.W.isFn X.K (.ref f) = true) (F : FnOk X.prog X.w X.K X.mg X.base CX k f fd ps sp) (hr : Room (k + 1) X.A) (hb : Binds X.K fd ps []) (hx : Passes CX X E) : OpR X (compareOp .NotEq) (rNeOwn C sp E) := by
  intro pins s σ H x y v u Q I rx ry h
  obtain ⟨a, dx, fs, b, dy, gs, rfl, rfl, ha, hb', hq⟩ := h
  obtain rfl : v = Value.ref a := rx
  obtain rfl : u = Value.ref b := ry
  obtain ⟨ox, od, J, _⟩ := inst_at I ha
  obtain ⟨oy, oe, J', _⟩ := inst_at I hb'
  have kin := I.kIn
  have call2 := call_below (Q := fun v H' => ∃ z, v = .bl z ∧ Q (.bl (!z)) H') (A := X.A.in1) ⟨hr.in1, rfl⟩ I F hb hx (.cons (show RelV (.ref a) (.ref a) from rfl) (.cons (show RelV (.ref b) (.ref b) from rfl) .nil)) hq
  have hu : X.A.units + 1 < cLine := hr.in1.units0
  have go : wpAny (model X.prog X.w) X.A (richCompare .NotEq (.ref a) (.ref b)) (EP X pins σ Q) X.xe s := by
    obtain ⟨hp, g, d, t, os⟩ := s
    have one : wpAny (model X.prog X.w) X.A (tryCompare (.ref a) "__ne__" (.ref b)) (fun r s' => ∃ v, r = some v ∧ EP X pins σ Q v s') X.xe ⟨hp, g, d, t, os⟩ := by
      unfold tryCompare
      refine wpAny_bind (bound_slot kin J hne PySem.F.cmp_object.ne ?_)
      refine wpAny_call (codeAny_call_builtin PySem.F.cmp_object.ne.plain PySem.F.cmpEntry_ne ?_)
      refine wpAny_check_slot_inst PySem.F.cmpKind_ne PySem.F.cmpSplit_ne (PySem.F.cmpArgs_ne _ _) PySem.F.cmp_object.hasObject J.at_ J.cls (kin _ _ hC) ?_
      refine ne_entry kin J hs hf hu (wpAny_mono call2 (fun v s' z => ?_) fun _ _ e => e)
      obtain ⟨v1, H', I', rz, z, rfl, q⟩ := z
      cases rz
      exact ⟨z, rfl, wpAny_pure ⟨_, rfl, .bl (!z), H', I', rfl, q⟩⟩
    unfold richCompare
    simp only [oneThing_ref]
    refine wpAny_holding ?_
    refine wpAny_bind (wpAny_cRoomFor (Nat.lt_of_succ_lt hu) ?_)
    rw [cmpInfo_NotEq]
    dsimp only
    refine wpAny_bind (J.type.here ?_)
    refine wpAny_bind (J'.type.here ?_)
    rw [show (Value.ref C != Value.ref C) = false from by simp]
    simp only [Bool.false_eq_true, if_false]
    refine wpAny_bind (wpAny_pure ?_)
    simp only [Bool.false_eq_true, if_false]
    refine wpAny_bind (wpAny_mono one (fun r s' z => ?_) fun _ _ e => e)
    obtain ⟨v, rfl, z⟩ := z
    exact wpAny_pure z
  exact go
end
end Gk
namespace Pf
open PySem PySem.Spec PyProof.Rows L2 Gk Fold
/-! ### Predictor.__eq__ -/
abbrev sEqP : Stmt := inClass (topS 37) 17
abbrev nEqP : List Str := ["self", "other"]
theorem scEqP : FnScope nEqP nEqP (defScope sEqP) := ⟨rfl, rfl, rfl, by decide +kernel, rfl, by decide +kernel, by decide +kernel⟩
theorem isi_is7 : bootBuiltins "isinstance" = some (.builtin "isinstance") := by decide +kernel
def tys : List Value := [.type "NoneType", .type "bool", .type "int", .type "str", .type "list", .type "tuple", .type "dict"]
theorem tyD_mem (d : PyData) : tyD d ∈ tys := by
  cases d <;> simp [tyD, tys]
/-- what isinstance and == ask of the class -/
structure IsP (K : PySem.W.Frag) (CP : Addr) : Prop where
  ins : C8.InsC K CP
  no : ∀ t ∈ tys, PySem.W.kitOne K t (.ref CP) = some false
  nf : ∀ t ∈ tys, PySem.W.notFirst K CP t = true
theorem IsP.nfC {K : PySem.W.Frag} {CP : Addr} : PySem.W.notFirst K CP (.ref CP) = true := by
  unfold PySem.W.notFirst
  rw [beq_self_eq_true]
  rfl
def gaD (r : Pd) : PyData := .tuple [.int r.wd, .int r.v0]
def leD (ps : List (Int × Int)) : PyData := .tuple (ps.map pd)
/-- whether two predictors are equal -/
def eqP (r o : Pd) (ps os : List (Int × Int)) : Bool := PyData.eqv (planD r.k r.z r.x) (planD o.k o.z o.x) && (PyData.eqv (gaD r) (gaD o) && PyData.eqv (leD ps) (leD os))
theorem plan_sh {k : Str} {z : Int} {x : Option Int} (ok : PlanOk k z x) : SeqAt.shaped (planD k z x) = true := by
  obtain ⟨a, _, c⟩ := plan_tame ok
  exact tame_shaped a (by omega)
theorem ga_sh {r : Pd} (w1 : 1 ≤ r.wd) (w4 : r.wd ≤ 4) (v1 : 0 ≤ r.v0) (v2 : r.v0 ≤ top r.wd) : SeqAt.shaped (gaD r) = true := by
  have tb : top r.wd ≤ 16 := top_le (n := 4) w4
  refine tame_shaped ?_ (by simp only [gaD, PyData.depth, PyData.depthAll]; omega)
  simp only [gaD, Gk.tame, tameAll, Bool.and_true, Bool.and_eq_true, decide_eq_true_eq]
  omega
theorem le_sh {ps : List (Int × Int)} (h : Fair ps) : SeqAt.shaped (leD ps) = true := by
  refine tame_shaped (by simpa only [leD, Gk.tame] using tame_pd h) ?_
  have := depth_pd ps
  simp only [leD, PyData.depth]
  omega
section
variable {P : Program} {w : World} {K : PySem.W.Frag} {mg : Str → Option Value} {base : Heap}
def spEqP (P : Program) (w : World) (K : PySem.W.Frag) (CM CS CP : Addr) : Sp := fun vs H Q _ => ∃ (r : Pd) (ps : List (Int × Int)) (y : V), vs = [.ref r.p, y] ∧ Led P w K CM CS CP H r ps ∧ ps.length ≤ 3000 ∧
  ((∃ t ∈ tys, TyX K H y t ∧ Q (.bl false) H) ∨ ∃ (o : Pd) (os : List (Int × Int)), y = .ref o.p ∧ Led P w K CM CS CP H o os ∧ os.length ≤ 3000 ∧ ∀ H', Same H H' → Q (.bl (eqP r o ps os)) H')
theorem ok_eqP {f CM CS CP fS fG fL pS pG pL : Addr} {fd fdS fdG fdL : FuncData} (T : TPr K mg CP) (TI : IsP K CP)
    (qS : PropOf K CP "scheme" pS fS) (GS : FnOk P w K mg base L2.CX0 1 fS fdS ["self"] (spPropS P w K CM CP)) (bS : Binds K fdS ["self"] [])
    (qG : PropOf K CP "counter" pG fG) (GG : FnOk P w K mg base L2.CX0 1 fG fdG ["self"] (spPropC P w K CM CP)) (bG : Binds K fdG ["self"] [])
    (qL : PropOf K CP "learned" pL fL) (GL : FnOk P w K mg base L2.CX0 1 fL fdL ["self"] (spPropL P w K CM CS CP)) (bL : Binds K fdL ["self"] [])
    (mis : mg "isinstance" = none) (F : L2.Fun K "__eq__" "Predictor.__eq__" sEqP f fd) : FnOk P w K mg base L2.CX0 3 f fd nEqP (spEqP P w K CM CS CP) := by
  refine F.ok scEqP (fun vs H Q E h => ?_) (fun cdv A outer s H vs Q E hr h => ?_)
  · obtain ⟨r, ps, y, rfl, _⟩ := h
    rfl
  · obtain ⟨r, ps, y, rfl, L, pl, h⟩ := h
    refine ⟨_, pss_one (ps_ret (pe_and (pe_callB call_isi (by rfl) mis isi_is7 (pa_cons (pv 1) (pa_cons (pe_glob (v := .ref CP) (by rfl) T.mgC rfl) pa_nil)))
      (pe_and (pe_cmpR (op_eqD hr.units) (pe_prop (pv 0) T.cl qS GS (hr.mono (by decide)) bS .nil pass0 rfl) (pe_prop (pv 1) T.cl qS GS (hr.mono (by decide)) bS .nil pass0 rfl) (nomark _))
      (pe_and (pe_cmpR (op_eqD hr.units) (pe_prop (pv 0) T.cl qG GG (hr.mono (by decide)) bG .nil pass0 rfl) (pe_prop (pv 1) T.cl qG GG (hr.mono (by decide)) bG .nil pass0 rfl) (nomark _))
      (pe_one (pe_cmpR (op_eqD hr.units) (pe_prop (pv 0) T.cl qL GL (hr.mono (by decide)) bL .nil pass0 rfl) (pe_prop (pv 1) T.cl qL GL (hr.mono (by decide)) bL .nil pass0 rfl) (nomark _))))))), ?_⟩
    rcases h with ⟨t, ht, ty, q⟩ | ⟨o, os, rfl, Lo, ol, q⟩
    · exact ⟨y, rfl, y, .ref CP, t, .ref CP, false, rfl, .own CP, ty, TI.no t ht, false, rfl, iteF q⟩
    have R := L.pr
    have O := Lo.pr
    have c := TI.ins
    refine ⟨.ref o.p, rfl, .ref o.p, .ref CP, .ref CP, .ref CP, true, rfl, .own CP, .base (.ins O.1.hpr c.cl c.ha c.hn c.htk c.hm), c.me, true, rfl, iteT ?_⟩
    refine ⟨.ref r.p, rfl, r.p, r.dp, _, rfl, R.1.hpr, r, rfl, R, .ref o.p, rfl, o.p, o.dp, _, rfl, O.1.hpr, o, rfl, O, ?_⟩
    refine ⟨_, _, plan_dp R.1.hsc, plan_dp O.1.hsc, plan_sh R.1.okp, plan_sh O.1.okp, _, rfl, ?_⟩
    unfold eqP at q
    split
    rotate_left
    · rename_i e
      rw [Bool.not_eq_true] at e
      rw [e] at q
      exact q H (Same.refl H)
    rename_i e
    rw [e] at q
    refine ⟨.ref r.p, rfl, r.p, r.dp, _, rfl, R.1.hpr, r, rfl, R, .ref o.p, rfl, o.p, o.dp, _, rfl, O.1.hpr, o, rfl, O, ?_⟩
    refine ⟨gaD r, gaD o, .tup R.1.hga (.cons (.int _) (.cons (.int _) .nil)), .tup O.1.hga (.cons (.int _) (.cons (.int _) .nil)), ga_sh R.1.w1 R.1.w4 R.1.v1 R.1.v2, ga_sh O.1.w1 O.1.w4 O.1.v1 O.1.v2, _, rfl, ?_⟩
    split
    rotate_left
    · rename_i e
      rw [Bool.not_eq_true] at e
      rw [e] at q
      exact q H (Same.refl H)
    rename_i e
    rw [e] at q
    refine ⟨.ref r.p, rfl, r.p, r.dp, _, rfl, R.1.hpr, r, ps, rfl, R, L.st.at, by omega, fun H1 t1 as1 s1 h1 d1 => ?_⟩
    have Lo1 := Lo.same s1
    refine ⟨.ref o.p, rfl, o.p, o.dp, _, rfl, Lo1.pr.1.hpr, o, os, rfl, Lo1.pr, Lo1.st.at, by omega, fun H2 t2 as2 s2 h2 d2 => ?_⟩
    exact ⟨leD ps, leD os, .tup (Same.seqT s2 h1) (pairs_keep d1 (Same.keep s2)), .tup h2 d2, le_sh L.fair, le_sh Lo.fair, q H2 (s1.trans s2)⟩
end
end Pf
namespace Pf
open PySem PySem.Spec PyProof.Rows L2 Gk Fold
/-! ### a new predictor has learned nothing -/
def freshPd (p dp c g m dx st hd cd : Addr) (k : Str) (z : Int) (x : Option Int) (wd v0 : Int) : Pd := ⟨p, dp, c, g, m, dx, st, hd, cd, k, z, x, wd, v0, [], fun _ => List.replicate z.toNat false, fun _ => none, [], 0, 0⟩
theorem Led.fresh {P : Program} {w : World} {K : PySem.W.Frag} {CM CS CP : Addr} {H : Hp} {p dp c g m dx st hd cd : Addr} {k : Str} {z : Int} {x : Option Int} {wd v0 : Int}
    (pr : PrAt P w K CM CP H p dp c g m dx st hd cd k z x wd v0 [] (fun _ => List.replicate z.toNat false) (fun _ => none) [] 0 0) : Led P w K CM CS CP H (freshPd p dp c g m dx st hd cd k z x wd v0) [] :=
  ⟨⟨pr, fun _ => List.length_replicate, fun _ => ⟨pr.v1, pr.v2⟩⟩, rfl, ⟨rfl, fun i v p e _ => by cases e⟩, fun _ h => (nomatch h)⟩
/-- predictors of one scheme and counter that have learned the same pairs agree in all that can be asked -/
theorem Led.alike {P : Program} {w : World} {K : PySem.W.Frag} {CM CS CP : Addr} {H H' : Hp} {r r' : Pd} {ps : List (Int × Int)} (L : Led P w K CM CS CP H r ps) (L' : Led P w K CM CS CP H' r' ps) (e : r.par = r'.par) : r.ms = r'.ms := by
  rw [L.ms, L'.ms, e]
end Pf
/-! {k: d[k] for k in d}: a dict comprehension that makes a dict of any of the kinds that are kept. -/
namespace Gk
open PySem PySem.Spec PyProof.Rows L2
/-- a kind of dict: what stands there when it is new, and what a store leaves -/
structure DNew (P : Program) (w : World) (nd : Addr → HO) (put : Hp → Addr → V → V → Hp → Prop) : Prop where
  lay : ∀ {X : Cx} {pins : List (Addr × Obj)} {σ : L2.St} {H : Hp} {s : Shared}, X.prog = P → X.w = w → Inv X pins σ H s →
    ∀ H' : Hp, ObjOk P w H' (s.heap.push { cls := .type "dict", data := .dict #[] }) s.heap.objs.size (nd s.heap.objs.size)
  store : ∀ {X : Cx} {pins : List (Addr × Obj)} {σ : L2.St} {H H' : Hp} {s : Shared} {E : Value → Shared → Prop} {D : Addr} {y z : V} {u r : Value} {Q : Unit → Shared → Prop},
    X.prog = P → X.w = w → X.A.units < cLine → Inv X pins σ H s → put H D y z H' → RelV y u → RelV z r → (∀ s', Inv X pins σ H' s' → Q () s') →
    wpAny (model X.prog X.w) X.A (dictSet D u r) Q E s
theorem dnew_k {P : Program} {w : World} : DNew P w (fun _ => .dK []) DPut where
  lay := fun e1 e2 I H' => by
    subst e1 e2
    exact dk_empty _ I.big
  store := fun {X pins σ H H' s E D y z u r Q} e1 e2 hu I p ry rv h => by
    subst e1 e2
    rcases p with ⟨kvs, k, e, ey, l, eH⟩ | ⟨kvs, k, b, e, ey, eb, l, eH⟩
    · subst ey eH
      exact d_dictSet I e l ry rv h
    · subst ey eH
      cases (show u = Value.ref b from ry)
      obtain ⟨lz, hd, xs, rel, dd⟩ := dt_of I.hok e
      have hx : xs.length ≤ sizeLine := by rw [← Paired.length rel]; exact lz
      have hp : (putK kvs k z).length ≤ sizeLine := by have := length_putK kvs k z; omega
      refine wpAny_dictSet_heap (hsz := hx) hu (key_of I.hok eb) dd fun h' dd' hs => h _ ?_
      obtain ⟨q, es, ep, hq, h2, h3, h4, _, h5⟩ := dd'
      exact d_write I (by rw [e]; exact True.intro) hs ⟨q, hq⟩ ⟨hp, hd, _, (rel.put k eb rv).keeps (fun c ys ec => (by rw [upd_ne (ne_of ec e (fun z => nomatch z))]; exact ec)), q, es, ep, hq, h2, h3, h4, h5⟩
theorem dnew_t {P : Program} {w : World} : DNew P w (fun _ => .dT []) DPut where
  lay := fun e1 e2 I H' => by
    subst e1 e2
    exact dt_empty _ I.big
  store := dnew_k.store
/-- D[y] = z where D's keys are None or whole numbers -/
def NPut (P : Program) (w : World) (H : Hp) (D : Addr) (y z : V) (H' : Hp) : Prop := ∃ kvs k, H D = some (dN P w D kvs) ∧ y = oKey k ∧ kvs.length < sizeLine ∧ H' = upd H D (dN P w D (putK kvs k z))
theorem dnew_n {P : Program} {w : World} : DNew P w (fun a => dN P w a []) (NPut P w) where
  lay := fun e1 e2 I H' => by
    subst e1 e2
    exact dn_ok (Nat.zero_le _) (not_modules I) .nil (Heap.DictOf.new _)
  store := fun {X pins σ H H' s E D y z u r Q} e1 e2 hu I p ry rv h => by
    subst e1 e2
    obtain ⟨kvs, k, e, ey, l, eH⟩ := p
    subst ey eH
    obtain ⟨lz, hd, vs, rel, dd⟩ := dn_at I.hok e
    have hx : vs.length ≤ sizeLine := by rw [← rel.length]; exact lz
    have hp : (putK kvs k z).length ≤ sizeLine := by have := length_putK kvs k z; omega
    refine wpAny_dictSet_pairs (hsz := hx) (oKey_is ry) dd fun h' dd' hs => h _ ?_
    have he : ∃ q, h'.get? D = some q := let ⟨q, _, _, hq, _⟩ := dd'; ⟨q, hq⟩
    exact d_write I (by rw [e]; exact True.intro) hs he (dn_ok hp hd (rel.put k rv) dd')
section
variable {X : Cx}
/-- one turn of the comprehension: what it takes and what it leaves -/
def DTurn (put : Hp → Addr → V → V → Hp → Prop) (D : Addr) (g : TG) (tt : TT) (tk tv : TE) (vs : List Nat) (σ : L2.St) (Nx : Hp → Prop) (x : V) (H : Hp) : Prop :=
  g x (wipe σ vs) H fun σ2 H2 => wipe σ2 vs = wipe σ vs ∧ tt σ2 H2 fun b H3 => if b = true then tk σ2 H3 fun y H4 => tv σ2 H4 fun z H5 => ∃ H6, put H5 D y z H6 ∧ Nx H6 else Nx H3
theorem dturn_yes {put : Hp → Addr → V → V → Hp → Prop} {D : Addr} {g : TG} {tk tv : TE} {vs : List Nat} {σ : L2.St} {Nx : Hp → Prop} {x : V} {H : Hp} (h : g x (wipe σ vs) H fun σ2 H2 => wipe σ2 vs = wipe σ vs ∧ tk σ2 H2 fun y H4 => tv σ2 H4 fun z H5 => ∃ H6, put H5 D y z H6 ∧ Nx H6) :
    DTurn put D g tYes tk tv vs σ Nx x H := by
  exact h
/-- {k: v for target in iter if ..}, D the new dict -/
def tDcG (nd : Addr → HO) (put : Hp → Addr → V → V → Hp → Prop) (wi : TI) (g : TG) (tt : TT) (tk tv : TE) (vs : List Nat) : TE := fun σ H Q => wi σ H fun J H1 => ∀ D, H1 D = none →
  ∃ W : Nat → Nat → Hp → Prop, (∃ m, W 0 m (upd H1 D (nd D))) ∧ ∀ i m H, W i m H → (J.stop i H ∧ Q (.ref D) H) ∨ (J.go i H ∧ ∃ Nx : Hp → Prop, (∀ H', Nx H' → ∃ m', m' < m ∧ W (i + 1) m' H') ∧ ∀ x H', J.yld i H x H' → DTurn put D g tt tk tv vs σ Nx x H')
theorem pe_dcG {kx vx tg iter : Expr} {ifs : List Expr} {scope : Scope} {own : List (Str × Nat)} {pos : Pos} {wi : TI} {g : TG} {tt : TT} {tk tv : TE} {nd : Addr → HO} {put : Hp → Addr → V → V → Hp → Prop} (hnd : DNew X.prog X.w nd put) (hu : X.A.units < cLine) (hc : X.calm = true) (hN : X.N.Nodup) (hi : PI X tg iter wi) (ok : BlkOk X.N X.env.scope scope own)
    (hg : ∀ (s : Shared) (H : Hp) (C : Addr) (cl : List (Str × Addr)) (fp : List Addr), PG (X.blk s H scope (compEnvC scope cl C X.env) fp) tg g) (ht : ∀ (s : Shared) (H : Hp) (C : Addr) (cl : List (Str × Addr)) (fp : List Addr), PTs (X.blk s H scope (compEnvC scope cl C X.env) fp) ifs tt)
    (hk : ∀ (s : Shared) (H : Hp) (C : Addr) (cl : List (Str × Addr)) (fp : List Addr), PE (X.blk s H scope (compEnvC scope cl C X.env) fp) kx tk) (hv : ∀ (s : Shared) (H : Hp) (C : Addr) (cl : List (Str × Addr)) (fp : List Addr), PE (X.blk s H scope (compEnvC scope cl C X.env) fp) vx tv)
    (hs : ∀ x, foldedSetIterable iter X.env x = pure x := by intro _; rfl) : PE X (.DictComp kx vx [⟨tg, iter, ifs, 0⟩] scope pos) (tDcG nd put wi g tt tk tv (own.map (·.2))) := by
  refine ⟨fun pins s σ H Q I h => ?_⟩
  rw [arm_eval_DictComp]
  refine wpAny_comprehension_free (use := none) rfl hs (closure_ok fun y hy e => (ok.free y hy e).elim (fun k => I.ok.has _ (.inl k)) fun k => I.ok.has _ (.inr k)) ok.kind (fun y hy e => by rw [ok.uniq y hy, e]) (thn (hi.run pins s σ H _ I h) fun xv s1 hx => thn hx fun itv s2 hh => ?_)
  obtain ⟨it, fp, tn, J, H2, eit, I2, T, st2, f2, q⟩ := hh
  subst eit
  refine wpAny_newObj_type (newEnv_comp ?_)
  generalize eD : s2.heap.objs.size = D
  have freeD : H2 D = none := I2.hok.fresh (Nat.le_of_eq eD)
  obtain ⟨W, ⟨m0, w0⟩, turn⟩ := q D freeD
  -- the new dict
  generalize e3 : ({ s2 with heap := s2.heap.push { cls := .type "dict", data := .dict #[] } } : Shared) = s3
  have hp3 : s3.heap = s2.heap.push { cls := .type "dict", data := .dict #[] } := by rw [← e3]
  have I3 : Inv X pins σ (upd H2 D (nd D)) s3 := by
    rw [← e3, ← eD]
    exact I2.laid (t' := s2.toks) (fun b o e => Heap.get?_push_of_some _ e) (Nat.le_refl _) (hnd.lay rfl rfl I2 _)
  have small : ∀ b ∈ fp, b < s2.heap.objs.size := fun b hb => let ⟨o, e, _⟩ := T.obj _ _ st2 b hb; Heap.lt_size e
  have f3 : ∀ b ∈ fp, FpOk X pins (upd H2 D (nd D)) b ∧ b < s3.heap.objs.size := fun b hb =>
    ⟨⟨by rw [upd_ne (by rw [← eD]; exact Nat.ne_of_lt (small b hb))]; exact (f2 b hb).1, (f2 b hb).2⟩, by rw [hp3, Heap.size_push]; exact Nat.lt_succ_of_lt (small b hb)⟩
  have I4 := block_start I3 ok hN f3
  have pg := hg s3 (upd H2 D (nd D)) s3.heap.objs.size (cellsFrom (s3.heap.objs.size + 1) scope.names (cloFrom X.env.cells scope.names [])) fp
  have pt := ht s3 (upd H2 D (nd D)) s3.heap.objs.size (cellsFrom (s3.heap.objs.size + 1) scope.names (cloFrom X.env.cells scope.names [])) fp
  have pk := hk s3 (upd H2 D (nd D)) s3.heap.objs.size (cellsFrom (s3.heap.objs.size + 1) scope.names (cloFrom X.env.cells scope.names [])) fp
  have pv := hv s3 (upd H2 D (nd D)) s3.heap.objs.size (cellsFrom (s3.heap.objs.size + 1) scope.names (cloFrom X.env.cells scope.names [])) fp
  show codeAny _ _ (.compStart (.DictComp kx vx [⟨tg, iter, ifs, 0⟩] scope pos) 0 (.ref it) (.ref D) (compEnvC scope (cellsFrom (s3.heap.objs.size + 1) scope.names (cloFrom X.env.cells scope.names [])) s3.heap.objs.size X.env)) (compPost (model X.prog X.w) X.A X.xe none _ (.ref D) s3.heap.objs.size)
    { s3 with heap := pushCells (s3.heap.push { cls := .type "dict", data := .dict #[] }) scope.names }
  have none3 : ∀ b ∈ fp, (upd H2 D (nd D)) b = none := fun b hb => (f3 b hb).1.1
  generalize ece : compEnvC scope (cellsFrom (s3.heap.objs.size + 1) scope.names (cloFrom X.env.cells scope.names [])) s3.heap.objs.size X.env = ce at I4 pg pt pk pv ⊢
  have locs : ce.locals = s3.heap.objs.size := by subst ece; rfl
  generalize eH3 : upd H2 D (nd D) = H3 at I3 I4 pg pt pk pv w0 none3 f3
  have st3 : tn 0 s3.heap := T.keep _ _ _ st2 fun b _ o e => by rw [hp3]; exact Heap.get?_push_of_some _ e
  generalize e4 : ({ s3 with heap := pushCells (s3.heap.push { cls := .type "dict", data := .dict #[] }) scope.names } : Shared) = s4 at I4 ⊢
  have st4 : tn 0 s4.heap := T.keep _ _ _ st3 fun b _ o e => by rw [← e4]; exact pushCells_keeps _ _ _ _ (Heap.get?_push_of_some _ e)
  have foot : ∀ {σ' : L2.St} {H' : Hp} {s' : Shared}, Inv (X.blk s3 H3 scope ce fp) [] σ' H' s' → (∀ b ∈ fp, H' b = none) → ∀ b ∈ fp, FpOk (X.blk s3 H3 scope ce fp) [] H' b := fun {σ' H' s'} I' hn b hb =>
    ⟨hn b hb, (I'.ok.exf b hb).1, I'.ok.exfs b hb, .inl hb, fun x c e => (I'.ok.exf b hb).2 x c e, fun p hp => absurd (show p ∈ ([] : List (Addr × Obj)) ++ [] from hp) (by simp)⟩
  have body : codeAny (model X.prog X.w) X.A (.compLoop (.DictComp kx vx [⟨tg, iter, ifs, 0⟩] scope pos) 0 (.ref it) (.ref D) ce) (compPost (model X.prog X.w) X.A X.xe none (fun v s => ∃ y H', Inv X pins σ H' s ∧ RelV y v ∧ Q y H') (.ref D) s3.heap.objs.size) s4 := by
    refine compLoop_anyD (fun n s' => ∃ i H', Inv (X.blk s3 H3 scope ce fp) [] (wipe σ (own.map (·.2))) H' s' ∧ tn i s'.heap ∧ (∀ b ∈ fp, H' b = none) ∧ W i n H') ?_ m0 ⟨0, H3, I4, st4, none3, w0⟩
    rintro n s5 ⟨i, H5, I5, st5, n5, w5⟩
    rcases turn i n H5 w5 with ⟨stop, qq⟩ | ⟨go, Nx, hNx, step⟩
    · refine thnF (T.done (X.blk s3 H3 scope ce fp) rfl rfl rfl hc i [] s5 _ H5 (fun _ _ => False) I5 (foot I5 n5) st5 stop) fun r s6 ⟨er, I6⟩ => ?_
      subst er
      have I7 : Inv X pins σ H5 s6 := I3.call' (ch := fp) I6.os I6.base I6.hok I6.bare fun b hb => ⟨(f3 b hb).1.2.2.2.1, (f3 b hb).1.2.1, (f3 b hb).1.2.2.2.2.1, (f3 b hb).1.2.2.2.2.2⟩
      have noC : H5 s3.heap.objs.size = none := by rw [← locs]; exact I6.free
      obtain ⟨m, hn, _⟩ := I6.loc
      have hn : s6.heap.Ns ce.locals m := hn
      rw [locs] at hn
      refine ⟨m, hn, fun h'' sb => ?_⟩
      obtain ⟨g0, g1, g2, g3, g4, g5⟩ := I3.fpOk (Nat.le_refl _) noC
      exact ⟨.ref D, H5, I7.turned (t' := s6.toks) (fun b o hb e => (sb.2 b hb).trans e) g0 g1 g3 g4 g5, rfl, qq⟩
    · refine thnF (T.item (X.blk s3 H3 scope ce fp) rfl rfl rfl hc i [] s5 _ H5 (fun _ _ => False) I5 (foot I5 n5) st5 go) fun r s6 ⟨u, er, hh⟩ => ?_
      subst er
      refine thnF hh fun _ s7 ⟨x, H7, I7, r7, y7, st7, n7⟩ => ?_
      refine thnF (pg.run _ s7 _ H7 x u _ (I7.pinned (foot I7 n7) (T.obj _ _ st7)) r7 (step x H7 y7)) fun _ s8 ⟨σ8, H8, I8, hw, q8⟩ => ?_
      refine thnF (pt.run _ s8 σ8 H8 _ I8 q8) fun b s9 ⟨H9, I9, q9⟩ => ?_
      have next : ∀ {s' : Shared} {H' : Hp}, Inv (X.blk s3 H3 scope ce fp) ([] ++ pinsAt fp s7.heap) σ8 H' s' → Nx H' → ∃ m, m < n ∧ ∃ i H', Inv (X.blk s3 H3 scope ce fp) [] (wipe σ (own.map (·.2))) H' s' ∧ tn i s'.heap ∧ (∀ b ∈ fp, H' b = none) ∧ W i m H' := fun {s' H'} I' nx => by
        obtain ⟨m', hm, w'⟩ := hNx H' nx
        have at' : ∀ b ∈ fp, ∀ o, s7.heap.get? b = some o → s'.heap.get? b = some o ∧ H' b = none := fun b hb o e =>
          let z := I'.pin (b, o) (List.mem_append_right _ (List.mem_append_right _ (mem_pinsAt hb e)))
          ⟨z.1, z.2.1⟩
        refine ⟨m', hm, i + 1, H', (I'.unpinned (pins := [])).weak (by rw [← hw, wipe_length]) (fun j v e => (wipe_some (by rw [hw]; exact e)).1), T.keep _ _ _ st7 fun b hb o e => (at' b hb o e).1, fun b hb => ?_, w'⟩
        obtain ⟨o, e, _⟩ := T.obj _ _ st7 b hb
        exact (at' b hb o e).2
      cases b with
      | false =>
        simp only [Bool.false_eq_true, if_false] at q9 ⊢
        exact next I9 q9
      | true =>
        simp only [if_true] at q9 ⊢
        refine thnF (pk.run _ s9 σ8 H9 _ I9 q9) fun z s10 ⟨yk, H10, I10, r10, q10⟩ => ?_
        refine thnF (pv.run _ s10 σ8 H10 _ I10 q10) fun z2 s11 ⟨yv, H11, I11, r11, H12, hput, nx⟩ => ?_
        exact hnd.store (X := X.blk s3 H3 scope ce fp) rfl rfl hu I11 hput r10 r11 fun s12 I12 => next I12 nx
  exact codeAny_compStart_dict body (T.self X.A 0 _ _ _ st4 body)
end
end Gk
/-! for k in d, d[k]: dicts whose keys are None or whole numbers, locked. -/
namespace Gk
open PySem PySem.Spec PyProof.Rows L2
section
variable {X : Cx} {pins : List (Addr × Obj)} {σ : L2.St} {H : Hp} {s : Shared} {d : Addr} {o : Obj} {kvs : List (Option Int × V)}
theorem dn_rd {P : Program} {w : World} {h : Heap} {a : Addr} (ok : HOk P w H h) (e : Rd H a (dN P w a kvs)) : kvs.length ≤ sizeLine ∧ (a == sysModules) = false ∧ ∃ vs, KV kvs vs ∧ h.DictOf (ownKind P w) a vs := by
  obtain ⟨x, _, _⟩ := (show ObjOk P w H h a (dN P w a kvs) from e.ok ok)
  exact x
theorem frzN (I : Inv X pins σ H s) (h : H d = some (.frz o (dN X.prog X.w d kvs))) :
    (d == sysModules) = false ∧ s.heap.get? d = some o ∧ o.ExactDict ∧ ∃ (es : Array DictEntry) (ep : Nat) (vs : List (Option Int × Value)), o.data = .dict es ep ∧ es.size = kvs.length ∧ KV kvs vs ∧ s.heap.DictAt (ownKind X.prog X.w) d vs ep := by
  obtain ⟨hd, x, _, _⟩ := (show ObjOk X.prog X.w H s.heap d (.frz o (dN X.prog X.w d kvs)) from I.hok d _ h)
  obtain ⟨z, hs, vs, kv, o', es, ep, ho, hx, hdt, r⟩ := x
  rw [hd] at ho
  cases ho
  refine ⟨hs, hd, hx, es, ep, vs, hdt, ?_, kv, o, es, hd, hx, hdt, r⟩
  have l1 := r.2.1.length
  have l2 : kvs.length = vs.length := Paired.length kv
  rw [Array.length_toList] at l1
  omega
theorem relV_own {P : Program} {w : World} {k : Option Int} {u : Value} (h : (ownKind P w).is k u = true) : RelV (oKey k) u := by
  rcases ownIs_shape h with ⟨rfl, rfl⟩ | ⟨i, t, rfl, rfl⟩
  · rfl
  · exact ⟨t, rfl⟩
end
/-- the keys of the locked dict at d, in their order -/
def ItkN (P : Program) (w : World) (d : Addr) (o : Obj) (kvs : List (Option Int × V)) : It :=
  ⟨fun i H => H d = some (.frz o (dN P w d kvs)) ∧ i < kvs.length, fun i H x H' => H' = H ∧ ∃ k v, kvs[i]? = some (k, v) ∧ x = oKey k, fun i H => H d = some (.frz o (dN P w d kvs)) ∧ kvs.length ≤ i⟩
theorem turn_keysN {P : Program} {w : World} {K : PySem.W.Frag} {tg : Expr} {d : Addr} {o : Obj} {es : Array DictEntry} {ep : Nat} {kvs : List (Option Int × V)} (it : Addr) (hod : o.data = .dict es ep) : Turn P w K tg (ItkN P w d o kvs) [it] it (fun i h => h.IsKeyIter it d i kvs.length ep) where
  mem := by simp
  obj := fun i h st b hb => by
    obtain rfl : b = it := by simpa using hb
    obtain ⟨oi, e, c, dd⟩ := st
    exact ⟨oi, e, fun v z => by rw [dd] at z; cases z⟩
  keep := fun i h h' st k => st.at fun oi e => k it (by simp) oi e
  item := by
    intro X hP hw hK hc i pins s σ H E I hf st hg
    subst hP hw hK
    obtain ⟨hd, hi⟩ := hg
    obtain ⟨f0, f1, f2, f3, f4, f5⟩ := hf it (by simp)
    obtain ⟨hs, hgd, hx, es', ep', vs, hdt, hsz, kv, hm⟩ := frzN I hd
    obtain ⟨rfl, rfl⟩ := dict_ep hod hdt
    obtain ⟨⟨k, v⟩, hkv⟩ : ∃ p, kvs[i]? = some p := ⟨kvs[i], List.getElem?_eq_getElem hi⟩
    obtain ⟨u, eu, ru⟩ := kv_get kv hkv
    have hl : kvs.length = vs.length := Paired.length kv
    rw [hl] at st
    refine wpAny_pyNext_dict_item st hm eu fun key h' kis st' sb => ?_
    have I1 : Inv X pins σ H { s with heap := h' } := I.turned (t' := s.toks) (fun b ob hb e => (sb.2 b hb).trans e) f0 f1 f3 f4 f5
    obtain ⟨oi, e, c, dd⟩ := id st'
    exact ⟨key, rfl, go_of (s := { s with heap := h' }) e c dd (by decide) ⟨oKey k, H, I1, relV_own kis, ⟨rfl, k, v, hkv, rfl⟩, (by rw [hl]; exact st'), fun b hb => (hf b hb).1⟩⟩
  done := by
    intro X hP hw hK hc i pins s σ H E I hf st hg
    subst hP hw hK
    obtain ⟨hd, hi⟩ := hg
    obtain ⟨f0, f1, f2, f3, f4, f5⟩ := hf it (by simp)
    obtain ⟨hs, hgd, hx, es', ep', vs, hdt, hsz, kv, hm⟩ := frzN I hd
    obtain ⟨rfl, rfl⟩ := dict_ep hod hdt
    exact next_key_end (I.ok.hd hc) st hgd hdt hsz hi fun h' eb => ⟨rfl, I.turned (t' := s.toks) (fun b ob hb e => eb b ob hb e) f0 f1 f3 f4 f5⟩
  self := fun A i s Q E st h => wpAny_pyIter_keyiter st h
/-- the dict is locked -/
def iKeysN (P : Program) (w : World) (td : TE) : TI := fun σ H R => td σ H fun x H1 => ∃ d o kvs, x = .ref d ∧ H1 d = some (.frz o (dN P w d kvs)) ∧ R (ItkN P w d o kvs) H1
theorem pi_keysN {X : Cx} {tg e : Expr} {td : TE} (P : Program) (w : World) (he : PE X e td) (h1 : X.prog = P := by rfl) (h2 : X.w = w := by rfl) : PI X tg e (iKeysN P w td) := by
  subst h1 h2
  refine ⟨fun pins s σ H R I h => ?_⟩
  refine thn (he.run pins s σ H _ I h) fun u s1 ⟨x, H1, I1, rx, d, o, kvs, ex, hd, q⟩ => ?_
  subst ex
  obtain rfl : u = Value.ref d := rx
  obtain ⟨hs, hgd, hx, es, ep, vs, hdt, hsz, kv, hm⟩ := frzN I1 hd
  refine iter_keys hs hgd hx hdt (pi_one (tk := s1.toks) I1 _ (turn_keysN _ hdt) ⟨_, Heap.get?_push_size _ rfl, rfl, ?_⟩ q)
  rw [hsz] <;> rfl
/-- d[k], there; the dict may be locked -/
def tIxN (P : Program) (w : World) (td ty : TE) : TE := fun σ H Q => td σ H fun x H1 => ty σ H1 fun y H2 => ∃ a kvs k v, x = .ref a ∧ Rd H2 a (dN P w a kvs) ∧ y = oKey k ∧ valV kvs k = some v ∧ Q v H2
theorem pe_ixN {X : Cx} {o i : Expr} {pos : Pos} {td ty : TE} (P : Program) (w : World) (ho : PE X o td) (hi : PE X i ty) (hs : NoSl i) (h1 : X.prog = P := by rfl) (h2 : X.w = w := by rfl) : PE X (.Subscript o i pos) (tIxN P w td ty) := by
  subst h1 h2
  refine ⟨fun pins s σ H Q I h => ?_⟩
  refine subD_of PySem.F.slot_dict_getitem.lookup hs (thn (ho.run pins s σ H _ I h) fun u s1 ⟨x, H1, I1, rx, q1⟩ => thn (hi.run pins s1 σ H1 _ I1 q1) fun iv s2 ⟨y, H2, I2, ry, a, kvs, k, v, ex, rd, ey, ev, q2⟩ => ?_)
  subst ex ey
  obtain rfl : u = Value.ref a := rx
  obtain ⟨z, hd, vs, rel, dd⟩ := dn_rd I2.hok rd
  obtain ⟨w', hw, rw'⟩ := RelO.some_of (v := v) (o := valueAt vs k) (by rw [← ev]; exact rel.val k)
  exact ⟨dd.typeIs, wpAny_getItem_of (oKey_is ry) dd.mapOf hw ⟨v, H2, I2.tok _, rw', q2⟩⟩
/-! ### a dict copied pair by pair -/
section
variable {κ : Type} [DecidableEq κ]
def copyK (kvs : List (κ × V)) : Nat → List (κ × V)
  | 0 => []
  | i + 1 => match kvs[i]? with
    | none => copyK kvs i
    | some p => putK (copyK kvs i) p.1 ((valV kvs p.1).getD .non)
theorem copyK_succ {kvs : List (κ × V)} {i : Nat} {k : κ} {u v : V} (h : kvs[i]? = some (k, u)) (hv : valV kvs k = some v) : copyK kvs (i + 1) = putK (copyK kvs i) k v := by
  show (match kvs[i]? with | none => copyK kvs i | some p => putK (copyK kvs i) p.1 ((valV kvs p.1).getD .non)) = _
  rw [h]
  show putK (copyK kvs i) k ((valV kvs k).getD .non) = _
  rw [hv]
  rfl
theorem copyK_len (kvs : List (κ × V)) : ∀ i, (copyK kvs i).length ≤ i
  | 0 => Nat.le_refl _
  | i + 1 => by
    have ih := copyK_len kvs i
    show (match kvs[i]? with | none => copyK kvs i | some p => putK (copyK kvs i) p.1 ((valV kvs p.1).getD .non)).length ≤ _
    split
    · omega
    · exact Nat.le_trans (length_putK _ _ _) (by omega)
theorem valV_mem {kvs : List (κ × V)} {i : Nat} {k : κ} {u : V} (h : kvs[i]? = some (k, u)) : ∃ v, valV kvs k = some v := by
  have m := List.mem_of_getElem? h
  unfold valV
  cases e : kvs.find? fun p => decide (p.1 = k) with
  | some p => exact ⟨p.2, by simp⟩
  | none => exact absurd (List.find?_eq_none.mp e _ m) (by simp)
theorem copyK_val (kvs : List (κ × V)) (q : κ) : ∀ i, i ≤ kvs.length → valV (copyK kvs i) q = if q ∈ (kvs.take i).map (·.1) then valV kvs q else none
  | 0, _ => rfl
  | i + 1, hi => by
    have ih := copyK_val kvs q i (by omega)
    obtain ⟨⟨k, u⟩, hk⟩ : ∃ p, kvs[i]? = some p := ⟨kvs[i], List.getElem?_eq_getElem hi⟩
    obtain ⟨v, hv⟩ := valV_mem hk
    rw [copyK_succ hk hv, valV_put, ih]
    have et : (kvs.take (i + 1)).map (·.1) = (kvs.take i).map (·.1) ++ [k] := by rw [List.take_succ, hk, List.map_append]; rfl
    rw [et]
    by_cases e : q = k
    · rw [if_pos e, if_pos (by simp [e]), e, hv]
    · rw [if_neg e]
      by_cases m : q ∈ (kvs.take i).map (·.1)
      · rw [if_pos m, if_pos (List.mem_append_left _ m)]
      · rw [if_neg m, if_neg (by rw [List.mem_append, List.mem_singleton]; exact fun h => h.elim m e)]
theorem copyK_all (kvs : List (κ × V)) (q : κ) : valV (copyK kvs kvs.length) q = valV kvs q := by
  rw [copyK_val kvs q _ (Nat.le_refl _), List.take_length]
  by_cases m : q ∈ kvs.map (·.1)
  · rw [if_pos m]
  · rw [if_neg m]
    unfold valV
    cases e : kvs.find? fun p => decide (p.1 = q) with
    | none => rfl
    | some p =>
      have h1 := List.mem_of_find?_eq_some e
      have h2 := List.find?_some e
      simp at h2
      exact absurd (List.mem_map.mpr ⟨p, h1, h2⟩) m
theorem copyK_keys (kvs : List (κ × V)) (nd : (kvs.map (·.1)).Nodup) : ∀ i, i ≤ kvs.length → (copyK kvs i).map (·.1) = (kvs.take i).map (·.1)
  | 0, _ => rfl
  | i + 1, hi => by
    have ih := copyK_keys kvs nd i (by omega)
    obtain ⟨⟨k, u⟩, hk⟩ : ∃ p, kvs[i]? = some p := ⟨kvs[i], List.getElem?_eq_getElem hi⟩
    obtain ⟨v, hv⟩ := valV_mem hk
    have et : (kvs.take (i + 1)).map (·.1) = (kvs.take i).map (·.1) ++ [k] := by rw [List.take_succ, hk, List.map_append]; rfl
    have new : k ∉ (copyK kvs i).map (·.1) := by
      rw [ih]
      intro m
      have n2 : ((kvs.take (i + 1)).map (·.1)).Nodup := nd.sublist ((List.take_sublist _ _).map _)
      rw [et] at n2
      exact (List.nodup_append.mp n2).2.2 _ m _ (List.mem_singleton.mpr rfl) rfl
    rw [copyK_succ hk hv, et, ← ih]
    have hn : (copyK kvs i).any (fun p => decide (p.1 = k)) = false := by
      rw [List.any_eq_false]
      intro p hp e
      exact new (List.mem_map.mpr ⟨p, hp, by simpa using e⟩)
    unfold putK
    rw [if_neg (by rw [hn]; exact Bool.false_ne_true), List.map_append]
    rfl
end
/-- the turns, where what stands at each of them is known -/
theorem dc_runs {J : It} {nd : Addr → HO} {put : Hp → Addr → V → V → Hp → Prop} {g : TG} {tt : TT} {tk tv : TE} {vs : List Nat} {σ : L2.St} {H1 : Hp} {D : Addr} {Qd : Hp → Prop} (n : Nat) (St : Nat → Hp) (h0 : St 0 = upd H1 D (nd D)) (go : ∀ i, i < n → J.go i (St i)) (stop : J.stop n (St n))
    (hs : ∀ i x H', i < n → J.yld i (St i) x H' → DTurn put D g tt tk tv vs σ (fun H => H = St (i + 1)) x H') (hq : Qd (St n)) :
    ∃ W : Nat → Nat → Hp → Prop, (∃ m, W 0 m (upd H1 D (nd D))) ∧ ∀ i m H, W i m H → (J.stop i H ∧ Qd H) ∨ (J.go i H ∧ ∃ Nx : Hp → Prop, (∀ H', Nx H' → ∃ m', m' < m ∧ W (i + 1) m' H') ∧ ∀ x H', J.yld i H x H' → DTurn put D g tt tk tv vs σ Nx x H') := by
  refine ⟨fun i m H => m = n - i ∧ i ≤ n ∧ H = St i, ⟨n, by omega, Nat.zero_le _, h0.symm⟩, ?_⟩
  rintro i m H ⟨rfl, hi, rfl⟩
  by_cases hlt : i < n
  · exact .inr ⟨go i hlt, fun H => H = St (i + 1), fun H' e => ⟨n - (i + 1), by omega, rfl, hlt, e⟩, fun x H' y => hs i x H' hlt y⟩
  · obtain rfl : i = n := by omega
    exact .inl ⟨stop, hq⟩
end Gk
namespace Pf
open PySem PySem.Spec PyProof.Rows L2 Gk Fold
/-! ### a memory copied -/
abbrev sCopied : Stmt := inClass (topS 34) 3
abbrev nCopied : List Str := ["self", "other", "owner", "cell"]
theorem scCopied : FnScope nCopied ["self"] (defScope sCopied) := ⟨rfl, rfl, rfl, by decide +kernel, rfl, by decide +kernel, by decide +kernel⟩
theorem nodup_map_of {α β : Type} {f : α → β} {l : List α} (h : (l.map f).Nodup) : l.Nodup := by
  induction l with
  | nil => exact List.nodup_nil
  | cons a r ih =>
    rw [List.map_cons, List.nodup_cons] at h
    exact List.nodup_cons.mpr ⟨fun m => h.1 (List.mem_map.mpr ⟨a, m, rfl⟩), ih h.2⟩
theorem map2_keys {κ : Type} {g : κ → CK} {xs ys : List (κ × V)} (h : xs.map (·.1) = (ys.take ys.length).map (·.1)) : xs.map (fun e => g e.1) = ys.map (fun e => g e.1) := by
  rw [List.take_length] at h
  have e : ∀ l : List (κ × V), l.map (fun e => g e.1) = (l.map (·.1)).map g := fun l => by rw [List.map_map]; rfl
  rw [e, e, h]
section
variable {P : Program} {w : World} {K : PySem.W.Frag} {mg : Str → Option Value} {base : Heap}
theorem memF_putS (st hd cd st' : Addr) (n : Int) : putF "steps" (.ref st') (memF st hd cd n) = memF st' hd cd n := rfl
theorem memF_putH (st hd cd hd' : Addr) (n : Int) : putF "histories" (.ref hd') (memF st hd cd n) = memF st hd' cd n := by
  unfold memF
  rw [putF_ne (by decide +kernel), putF_eq]
theorem memF_putC (st hd cd cd' : Addr) (n : Int) : putF "cells" (.ref cd') (memF st hd cd n) = memF st hd cd' n := by
  unfold memF
  rw [putF_ne (by decide +kernel), putF_ne (by decide +kernel), putF_eq]
def spCopied (P : Program) (w : World) (CM : Addr) : Sp := fun vs H Q _ => ∃ (m dx st hd cd : Addr) (k : Str) (steps : List V) (hs : Option Int → List Bool) (L : Nat) (cs : CK → Option Int) (ks : List CK) (n : Int) (many : Nat),
  vs = [.ref m] ∧ MemAt P w CM k H m dx st hd cd steps hs L cs ks n many ∧ ks.Nodup ∧ steps.length ≤ 100000 ∧ many ≤ 100000 ∧
  ∀ H' m' dx' st' hd' cd', Same H H' → H m' = none → H st' = none → H hd' = none → H cd' = none → MemAt P w CM k H' m' dx' st' hd' cd' steps hs L cs ks n many → Q (.ref m') H'
theorem ok_copied {f CM fI : Addr} {fd fdI : FuncData} (T : TMem K mg CM) (MM : Mk K CM fI) (GI : FnOk P w K mg base L2.CX0 1 fI fdI ["self"] (spMemI P w CM)) (bI : Binds K fdI ["self"] []) (mls : mg "list" = none)
    (F : L2.Fun K "copied" "Memory.copied" sCopied f fd) : FnOk P w K mg base L2.CX0 3 f fd ["self"] (spCopied P w CM) := by
  refine F.ok scCopied (fun vs H Q E h => ?_) (fun cdv A outer s H vs Q E hr h => ?_)
  · obtain ⟨m, dx, st, hd, cd, k, steps, hs, L, cs, ks, n, many, rfl, _⟩ := h
    rfl
  · obtain ⟨m, dx, st, hd, cd, k, steps, hs, L, cs, ks, n, many, rfl, M, nd, sl, ml, q⟩ := h
    have hu : (A.deeper (envOfC "Memory.copied" (defScope sCopied) s.heap.objs.size f cdv)).units + 1 < cLine := Nat.lt_of_le_of_lt (Nat.add_le_add_left (by decide : 1 ≤ 64) _) hr.units
    have hu0 : (A.deeper (envOfC "Memory.copied" (defScope sCopied) s.heap.objs.size f cdv)).units < cLine := Nat.lt_of_succ_lt hu
    refine ⟨_, pss_cons (ps_set (i := 1) scCopied.nd rfl (.inl rfl) (pe_make0 MM GI (hr.mono (by decide)) (by rfl) T.mgC bI .nil pass0))
      (pss_cons (ps_fld (pv 1) (pe_callTy call_list_of (by rfl) mls (by decide +kernel) (pa_cons (pe_fld (pv 0) rfl) pa_nil)) rfl)
      (pss_cons (ps_fld (pv 1) (pe_lock (pe_dcG (own := [("owner", 2)]) (g := gName 2) (dnew_n (P := P) (w := w)) hu0 (by rfl) scCopied.nd (pi_keysN P w (pe_fld (pv 0) rfl)) (blkOk_by (N := nCopied) (sc := defScope sCopied) (by decide +kernel))
          (fun _ _ _ _ _ => pg_name (i := 2) scCopied.nd rfl (.inl rfl)) (fun _ _ _ _ _ => pts_nil) (fun _ _ _ _ _ => pv 2) (fun _ _ _ _ _ => pe_ixN P w (pe_fldK K (pv 0) rfl) (pv 2) (fun _ _ => rfl)))) rfl)
      (pss_cons (ps_fld (pv 1) (pe_lock (pe_either (pe_dcG (own := [("cell", 3)]) (g := gName 3) (dnew_k (P := P) (w := w)) hu0 (by rfl) scCopied.nd (pi_keys (pe_fld (pv 0) rfl)) (blkOk_by (N := nCopied) (sc := defScope sCopied) (by decide +kernel))
          (fun _ _ _ _ _ => pg_name (i := 3) scCopied.nd rfl (.inl rfl)) (fun _ _ _ _ _ => pts_nil) (fun _ _ _ _ _ => pv 3) (fun _ _ _ _ _ => pe_dget hu (pe_fldK K (pv 0) rfl) (pv 3) (fun _ _ => rfl)))
          (pe_dcG (own := [("cell", 3)]) (g := gName 3) (dnew_t (P := P) (w := w)) hu0 (by rfl) scCopied.nd (pi_keys (pe_fld (pv 0) rfl)) (blkOk_by (N := nCopied) (sc := defScope sCopied) (by decide +kernel))
          (fun _ _ _ _ _ => pg_name (i := 3) scCopied.nd rfl (.inl rfl)) (fun _ _ _ _ _ => pts_nil) (fun _ _ _ _ _ => pv 3) (fun _ _ _ _ _ => pe_dget hu (pe_fldK K (pv 0) rfl) (pv 3) (fun _ _ => rfl))))) rfl)
      (pss_cons (ps_fld (pv 1) (pe_fld (pv 0) rfl) rfl) (pss_one (ps_ret (pv 1))))))), ?_⟩
    obtain ⟨hm, hst, ⟨kvs, hhd, hkl, hkv⟩, hvd, hks, d1, d2, d3⟩ := M
    intro p dp np ndp nex
    have s1 : Same H (upd (upd H dp (.own p)) p (.ins CM dp [])) := fun b o e => by rw [upd_ne (ne_of_none e np), upd_ne (ne_of_none e ndp)]; exact e
    have p1 : (upd (upd H dp (.own p)) p (.ins CM dp [])) p = some (.ins CM dp []) := upd_same
    generalize upd (upd H dp (.own p)) p (.ins CM dp []) = H1 at s1 p1
    have mp : m ≠ p := ne_of_none hm np
    refine ⟨p, dp, k, L, rfl, p1, fun H2 st0 hd0 cd0 keep2 nst0 nhd0 ncd0 M0 => ⟨rfl, go_name ?_⟩⟩
    obtain ⟨hp2, _⟩ := M0
    have k02 : ∀ b o, b ≠ p → H b = some o → H2 b = some o := fun b o nb e => keep2 b o nb (s1 _ _ e)
    have n02 : ∀ b, b ≠ p → H2 b = none → H b = none := fun b nb e => by
      cases e' : H b with
      | none => rfl
      | some o => rw [k02 b o nb e'] at e; cases e
    have hm2 := k02 m _ mp hm
    have hst2 := k02 st _ (ne_of_none hst np) hst
    -- the steps
    refine ⟨_, rfl, m, CM, dx, _, _, rfl, hm2, T.cl, T.n0, memF_steps _ _ _ _, st, steps, rfl, .inl (SqL.of hst2), fun l nl => ⟨_, rfl, p, CM, dp, _, rfl, same_new nl _ _ hp2, T.cl, T.n0, by show 4 < 1000; decide, ?_⟩⟩
    rw [memF_putS]
    have pl : l ≠ p := (ne_of_none hp2 nl).symm
    have k3 : ∀ b o, b ≠ p → H b = some o → (upd (upd H2 l (.lst steps)) p (.ins CM dp (memF l hd0 cd0 0))) b = some o := fun b o nb e => by rw [upd_ne nb]; exact same_new nl _ _ (k02 b o nb e)
    have l3 : (upd (upd H2 l (.lst steps)) p (.ins CM dp (memF l hd0 cd0 0))) l = some (.lst steps) := by rw [upd_ne pl]; exact upd_same
    have p3 : (upd (upd H2 l (.lst steps)) p (.ins CM dp (memF l hd0 cd0 0))) p = some (.ins CM dp (memF l hd0 cd0 0)) := upd_same
    have nl0 := n02 l pl nl
    generalize upd (upd H2 l (.lst steps)) p (.ins CM dp (memF l hd0 cd0 0)) = H3 at k3 l3 p3
    have n03 : ∀ b, b ≠ p → H3 b = none → H b = none := fun b nb e => by
      cases e' : H b with
      | none => rfl
      | some o => rw [k3 b o nb e'] at e; cases e
    have hm3 := k3 m _ mp hm
    have hd3 := k3 hd _ (ne_of_none hhd np) hhd
    -- the histories
    refine ⟨hd, dN P w hd kvs, hd3, True.intro, fun od => ?_⟩
    have mhd : m ≠ hd := d2.symm
    refine ⟨_, rfl, m, CM, dx, _, _, rfl, by rw [upd_ne mhd]; exact hm3, T.cl, T.n1, memF_hist _ _ _ _, hd, od, kvs, rfl, upd_same, fun D nD => ?_⟩
    have Dhd : D ≠ hd := fun z => by rw [z, upd_same] at nD; cases nD
    refine dc_runs (J := ItkN P w hd od kvs) (nd := fun a => dN P w a []) (H1 := upd H3 hd (.frz od (dN P w hd kvs))) (D := D) kvs.length (fun i => upd (upd H3 hd (.frz od (dN P w hd kvs))) D (dN P w D (copyK kvs i))) rfl (fun i hi => ⟨by rw [upd_ne Dhd.symm]; exact upd_same, hi⟩) ⟨by rw [upd_ne Dhd.symm]; exact upd_same, Nat.le_refl _⟩ (fun i x H' hi y => ?_) ?_
    · obtain ⟨rfl, k', u, hk, rfl⟩ := y
      obtain ⟨v, hv⟩ := valV_mem hk
      have Dm : m ≠ D := ne_of_none (by rw [upd_ne mhd]; exact hm3) nD
      refine dturn_yes ⟨rfl, _, rfl, _, rfl, m, CM, dx, _, _, rfl, by rw [upd_ne Dm, upd_ne mhd]; exact hm3, T.cl, T.n1, memF_hist _ _ _ _, _, rfl, hd, kvs, k', v, rfl, .inr ⟨od, by rw [upd_ne Dhd.symm]; exact upd_same⟩, rfl, hv, _, ⟨copyK kvs i, k', upd_same, rfl, Nat.lt_of_le_of_lt (Nat.le_trans (copyK_len kvs i) (by omega : i ≤ 100000)) (by decide), rfl⟩, ?_⟩
      rw [L2.upd_upd, copyK_succ hk hv]
    · refine ⟨by rw [upd_ne Dhd.symm]; exact upd_same, ?_⟩
      have nD3 : H3 D = none := by have z := nD; rw [upd_ne Dhd] at z; exact z
      have e4 : ∀ b, b ≠ D → (upd (upd (upd H3 hd (.frz od (dN P w hd kvs))) D (dN P w D (copyK kvs kvs.length))) hd (dN P w hd kvs)) b = H3 b := fun b nb => by
        by_cases c : b = hd
        · rw [c, upd_same, hd3]
        · rw [upd_ne c, upd_ne nb, upd_ne c]
      have D4 : (upd (upd (upd H3 hd (.frz od (dN P w hd kvs))) D (dN P w D (copyK kvs kvs.length))) hd (dN P w hd kvs)) D = some (dN P w D (copyK kvs kvs.length)) := by rw [upd_ne Dhd]; exact upd_same
      generalize upd (upd (upd H3 hd (.frz od (dN P w hd kvs))) D (dN P w D (copyK kvs kvs.length))) hd (dN P w hd kvs) = H4 at e4 D4
      have Dp : p ≠ D := ne_of_none p3 nD3
      have Dl : l ≠ D := ne_of_none l3 nD3
      refine ⟨_, rfl, p, CM, dp, _, rfl, by rw [e4 p Dp]; exact p3, T.cl, T.n1, by show 4 < 1000; decide, ?_⟩
      rw [memF_putH]
      have k5 : ∀ b o, b ≠ p → H b = some o → (upd H4 p (.ins CM dp (memF l D cd0 0))) b = some o := fun b o nb e => by
        have e3 := k3 b o nb e
        rw [upd_ne nb, e4 b (ne_of_none e3 nD3)]
        exact e3
      have l5 : (upd H4 p (.ins CM dp (memF l D cd0 0))) l = some (.lst steps) := by rw [upd_ne pl, e4 l Dl]; exact l3
      have D5 : (upd H4 p (.ins CM dp (memF l D cd0 0))) D = some (dN P w D (copyK kvs kvs.length)) := by rw [upd_ne Dp.symm]; exact D4
      have p5 : (upd H4 p (.ins CM dp (memF l D cd0 0))) p = some (.ins CM dp (memF l D cd0 0)) := upd_same
      have nD0 := n03 D Dp.symm nD3
      generalize upd H4 p (.ins CM dp (memF l D cd0 0)) = H5 at k5 l5 D5 p5
      clear e4 D4 H4
      have n05 : ∀ b, b ≠ p → H5 b = none → H b = none := fun b nb e => by
        cases e' : H b with
        | none => rfl
        | some o => rw [k5 b o nb e'] at e; cases e
      have hm5 := k5 m _ mp hm
      have p0 : H p = none := by
        cases e' : H p with
        | none => rfl
        | some o => exact absurd (ne_of_none e' np) (by simp)
      -- the cells, and the rest
      have last : ∀ (H6 : Hp) (cd' : Addr), (∀ b o, b ≠ cd' → H5 b = some o → H6 b = some o) → H5 cd' = none → DK H6 cd' k (fun q => (cs q).map V.int) ks →
          sFld K (tVar 1) (tFld K (tVar 0) "wrong") "wrong" { nx := fun σ H' => tRet (tVar 1) { nx := fun _ H' => Q .non H', rt := Q } σ H', rt := Q, bk := fun _ _ => False, ct := fun _ _ => False } [some (.ref m), some (.ref p), none, none] (upd H6 p (.ins CM dp (memF l D cd' 0))) := fun H6 cd' k56 ncd5 dk6 => by
        have pcd : p ≠ cd' := ne_of_none p5 ncd5
        have lcd : l ≠ cd' := ne_of_none l5 ncd5
        have Dcd : D ≠ cd' := ne_of_none D5 ncd5
        have mcd : m ≠ cd' := ne_of_none hm5 ncd5
        have ncd0 := n05 cd' pcd.symm ncd5
        refine ⟨_, rfl, m, CM, dx, _, _, rfl, by rw [upd_ne mp]; exact k56 m _ mcd hm5, T.cl, T.n3, memF_wrong _ _ _ _, _, rfl, p, CM, dp, _, rfl, upd_same, T.cl, T.n3, by show 4 < 1000; decide, ?_⟩
        rw [memF_put, L2.upd_upd]
        refine ⟨_, rfl, q _ p dp l D cd' (fun b o e => ?_) p0 nl0 nD0 ncd0 ⟨upd_same, by rw [upd_ne pl]; exact k56 l _ lcd l5, ⟨copyK kvs kvs.length, by rw [upd_ne Dp.symm]; exact k56 D _ Dcd D5, Nat.le_trans (copyK_len _ _) hkl, fun o => by rw [copyK_all]; exact hkv o⟩, dk6.same fun o e => by rw [upd_ne pcd.symm]; exact e, hks, Dl.symm, Dp.symm, Dcd⟩⟩
        have nb : b ≠ p := ne_of_none e p0
        rw [upd_ne nb]
        exact k56 b o (ne_of_none (k5 b o nb e) ncd5) (k5 b o nb e)
      rcases hvd with ⟨tk, kvc, hc, ek, lc⟩ | ⟨tk, kvc, hc, ek, lc⟩
      · have hc5 := k5 cd _ (ne_of_none hc np) hc
        have mcd : m ≠ cd := fun z => by rw [z, hc] at hm; cases hm
        refine ⟨cd, .dK kvc, hc5, True.intro, fun oc => .inl ?_⟩
        refine ⟨_, rfl, m, CM, dx, _, _, rfl, by rw [upd_ne mcd]; exact hm5, T.cl, T.n2, memF_cells _ _ _ _, cd, oc, rfl, .inl ⟨kvc, upd_same, fun D' nD' => ?_⟩⟩
        have Dcd : D' ≠ cd := fun z => by rw [z, upd_same] at nD'; cases nD'
        have nD5 : H5 D' = none := by have z := nD'; rw [upd_ne Dcd] at z; exact z
        have Dm' : m ≠ D' := ne_of_none hm5 nD5
        refine dc_runs (J := Itk cd oc kvc) (nd := fun _ => .dK []) (H1 := upd H5 cd (.frz oc (.dK kvc))) (D := D') kvc.length (fun i => upd (upd H5 cd (.frz oc (.dK kvc))) D' (.dK (copyK kvc i))) rfl (fun i hi => ⟨by rw [upd_ne Dcd.symm]; exact upd_same, hi⟩) ⟨by rw [upd_ne Dcd.symm]; exact upd_same, Nat.le_refl _⟩ (fun i x H' hi y => ?_) ?_
        · obtain ⟨rfl, k', u, hk, rfl⟩ := y
          obtain ⟨v, hv⟩ := valV_mem hk
          refine dturn_yes ⟨rfl, _, rfl, _, rfl, m, CM, dx, _, _, rfl, by rw [upd_ne Dm', upd_ne mcd]; exact hm5, T.cl, T.n2, memF_cells _ _ _ _, _, rfl, cd, v, rfl, .inl ⟨kvc, k', .inr ⟨oc, by rw [upd_ne Dcd.symm]; exact upd_same⟩, rfl, hv.symm⟩, _, .inl ⟨copyK kvc i, k', upd_same, rfl, ?_, rfl⟩, ?_⟩
          · have := copyK_len kvc i
            have e2 : kvc.length = ks.length := by rw [← ek, List.length_map]
            exact Nat.lt_of_le_of_lt (by omega : (copyK kvc i).length ≤ 100000) (by decide)
          · rw [L2.upd_upd, copyK_succ hk hv]
        · refine ⟨by rw [upd_ne Dcd.symm]; exact upd_same, ?_⟩
          have e6 : ∀ b, b ≠ D' → (upd (upd (upd H5 cd (.frz oc (.dK kvc))) D' (.dK (copyK kvc kvc.length))) cd (.dK kvc)) b = H5 b := fun b nb => by
            by_cases c : b = cd
            · rw [c, upd_same, hc5]
            · rw [upd_ne c, upd_ne nb, upd_ne c]
          have D6 : (upd (upd (upd H5 cd (.frz oc (.dK kvc))) D' (.dK (copyK kvc kvc.length))) cd (.dK kvc)) D' = some (.dK (copyK kvc kvc.length)) := by rw [upd_ne Dcd]; exact upd_same
          generalize upd (upd (upd H5 cd (.frz oc (.dK kvc))) D' (.dK (copyK kvc kvc.length))) cd (.dK kvc) = H6 at e6 D6
          have Dp' : p ≠ D' := ne_of_none p5 nD5
          refine ⟨_, rfl, p, CM, dp, _, rfl, by rw [e6 p Dp']; exact p5, T.cl, T.n2, by show 4 < 1000; decide, ?_⟩
          rw [memF_putC]
          have nk : (kvc.map (·.1)).Nodup := by
            have z : ((kvc.map (·.1)).map (fun e => (Sum.inl e : CK))).Nodup := by rw [List.map_map]; rw [← ek] at nd; exact nd
            exact nodup_map_of z
          exact last H6 D' (fun b o nb e => by rw [e6 b nb]; exact e) nD5 (.inl ⟨tk, _, D6, by rw [← ek]; exact map2_keys (copyK_keys kvc nk _ (Nat.le_refl _)), fun q => by rw [copyK_all]; exact lc q⟩)
      · have hc5 := k5 cd _ (ne_of_none hc np) hc
        have mcd : m ≠ cd := fun z => by rw [z, hc] at hm; cases hm
        refine ⟨cd, .dT kvc, hc5, True.intro, fun oc => .inr ?_⟩
        refine ⟨_, rfl, m, CM, dx, _, _, rfl, by rw [upd_ne mcd]; exact hm5, T.cl, T.n2, memF_cells _ _ _ _, cd, oc, rfl, .inr ⟨kvc, upd_same, fun D' nD' => ?_⟩⟩
        have Dcd : D' ≠ cd := fun z => by rw [z, upd_same] at nD'; cases nD'
        have nD5 : H5 D' = none := by have z := nD'; rw [upd_ne Dcd] at z; exact z
        have Dm' : m ≠ D' := ne_of_none hm5 nD5
        refine dc_runs (J := Itkt cd oc kvc) (nd := fun _ => .dT []) (H1 := upd H5 cd (.frz oc (.dT kvc))) (D := D') kvc.length (fun i => upd (upd H5 cd (.frz oc (.dT kvc))) D' (.dT (copyK kvc i))) rfl (fun i hi => ⟨by rw [upd_ne Dcd.symm]; exact upd_same, hi⟩) ⟨by rw [upd_ne Dcd.symm]; exact upd_same, Nat.le_refl _⟩ (fun i x H' hi y => ?_) ?_
        · obtain ⟨rfl, k', u, kq, hk, rfl, hkq⟩ := y
          obtain ⟨v, hv⟩ := valV_mem hk
          refine dturn_yes ⟨rfl, _, rfl, _, rfl, m, CM, dx, _, _, rfl, by rw [upd_ne Dm', upd_ne mcd]; exact hm5, T.cl, T.n2, memF_cells _ _ _ _, _, rfl, cd, v, rfl, .inr ⟨kvc, k', kq, .inr ⟨oc, by rw [upd_ne Dcd.symm]; exact upd_same⟩, rfl, hkq, hv.symm⟩, _, .inr ⟨copyK kvc i, k', kq, upd_same, rfl, hkq, ?_, rfl⟩, ?_⟩
          · have := copyK_len kvc i
            have e2 : kvc.length = ks.length := by rw [← ek, List.length_map]
            exact Nat.lt_of_le_of_lt (by omega : (copyK kvc i).length ≤ 100000) (by decide)
          · rw [L2.upd_upd, copyK_succ hk hv]
        · refine ⟨by rw [upd_ne Dcd.symm]; exact upd_same, ?_⟩
          have e6 : ∀ b, b ≠ D' → (upd (upd (upd H5 cd (.frz oc (.dT kvc))) D' (.dT (copyK kvc kvc.length))) cd (.dT kvc)) b = H5 b := fun b nb => by
            by_cases c : b = cd
            · rw [c, upd_same, hc5]
            · rw [upd_ne c, upd_ne nb, upd_ne c]
          have D6 : (upd (upd (upd H5 cd (.frz oc (.dT kvc))) D' (.dT (copyK kvc kvc.length))) cd (.dT kvc)) D' = some (.dT (copyK kvc kvc.length)) := by rw [upd_ne Dcd]; exact upd_same
          generalize upd (upd (upd H5 cd (.frz oc (.dT kvc))) D' (.dT (copyK kvc kvc.length))) cd (.dT kvc) = H6 at e6 D6
          have Dp' : p ≠ D' := ne_of_none p5 nD5
          refine ⟨_, rfl, p, CM, dp, _, rfl, by rw [e6 p Dp']; exact p5, T.cl, T.n2, by show 4 < 1000; decide, ?_⟩
          rw [memF_putC]
          have nk : (kvc.map (·.1)).Nodup := by
            have z : ((kvc.map (·.1)).map (fun e => (Sum.inr e : CK))).Nodup := by rw [List.map_map]; rw [← ek] at nd; exact nd
            exact nodup_map_of z
          exact last H6 D' (fun b o nb e => by rw [e6 b nb]; exact e) nD5 (.inr ⟨tk, _, D6, by rw [← ek]; exact map2_keys (copyK_keys kvc nk _ (Nat.le_refl _)), fun q => by rw [copyK_all]; exact lc q⟩)
end
end Pf
namespace Pf
open PySem PySem.Spec PyProof.Rows L2 Gk Fold
/-! ### a predictor copied; two that stand apart -/
abbrev sCopyP : Stmt := inClass (topS 37) 12
theorem scCopyP : FnScope ["self", "other"] ["self"] (defScope sCopyP) := ⟨rfl, rfl, rfl, by decide +kernel, rfl, by decide +kernel, by decide +kernel⟩
/-- what the one's memory writes is none of the other's things -/
def Apart (r o : Pd) : Prop := ∀ a, (a = r.p ∨ a = r.m ∨ a = r.st ∨ a = r.hd ∨ a = r.cd) → a ≠ o.m ∧ a ≠ o.st ∧ a ≠ o.hd ∧ a ≠ o.cd
section
variable {P : Program} {w : World} {K : PySem.W.Frag} {mg : Str → Option Value} {base : Heap} {CM CS CP : Addr} {H H' : Hp} {r o : Pd} {ps qs : List (Int × Int)}
theorem Apart.kin {r' o' : Pd} (h : Apart r o) (k : r'.Akin r) (k' : o'.Akin o) : Apart r' o' := by
  intro a ha
  rw [k.p, k.m, k.st, k.hd, k.cd] at ha
  rw [k'.m, k'.st, k'.hd, k'.cd]
  exact h a ha
/-- a predictor stays as it is while another one that stands apart is led -/
theorem Led.oth (L : Led P w K CM CS CP H r ps) (Lo : Led P w K CM CS CP H o qs) (t : Oth o H H') (ap : Apart r o) : Led P w K CM CS CP H' r ps := by
  have Ro := Lo.pr
  have kp := Oth.keep Ro t
  have at_ : ∀ a u, (a = r.p ∨ a = r.m ∨ a = r.st ∨ a = r.hd ∨ a = r.cd) → H a = some u → H' a = some u := fun a u ha e => by
    obtain ⟨n1, n2, n3, n4⟩ := ap a ha
    exact t a u n1 n2 n3 n4 e
  obtain ⟨⟨⟨a1, a2, a3, a4, a5, a6, a7, a8, ⟨b1, b2, ⟨kvs, b3, b4, b5⟩, b6, b7, b8, b9, b10⟩, a10⟩, c1, c2⟩, m, s, fr⟩ := L
  exact ⟨⟨⟨at_ _ _ (.inl rfl) a1, kp _ _ a2, a3, kp _ _ a4, a5, a6, a7, a8, ⟨at_ _ _ (.inr (.inl rfl)) b1, at_ _ _ (.inr (.inr (.inl rfl))) b2, ⟨kvs, at_ _ _ (.inr (.inr (.inr (.inl rfl)))) b3, b4, b5⟩, b6.same fun u e => at_ _ _ (.inr (.inr (.inr (.inr rfl)))) e, b7, b8, b9, b10⟩, a10⟩, c1, c2⟩, m,
    s.keep kp (fun _ _ _ _ _ _ _ _ e => t.step Ro e) (fun _ _ e => t.tup Ro e), fr⟩
def spCopyP (P : Program) (w : World) (K : PySem.W.Frag) (CM CS CP : Addr) : Sp := fun vs H Q _ => ∃ (r : Pd) (ps : List (Int × Int)), vs = [.ref r.p] ∧ Led P w K CM CS CP H r ps ∧ ps.length ≤ 90000 ∧ r.many ≤ 90000 ∧
  ∀ H' (o : Pd), Same H H' → o.par = r.par → o.many = r.many → H o.p = none → H o.m = none → H o.st = none → H o.hd = none → H o.cd = none → Apart r o → Apart o r → Led P w K CM CS CP H' r ps → Led P w K CM CS CP H' o ps → Q (.ref o.p) H'
theorem Led.used (L : Led P w K CM CS CP H r ps) {a : Addr} (h : a = r.p ∨ a = r.m ∨ a = r.st ∨ a = r.hd ∨ a = r.cd) : H a ≠ none := by
  obtain ⟨⟨⟨a1, _, _, _, _, _, _, _, ⟨b1, b2, ⟨kvs, b3, _⟩, b6, _⟩, _⟩, _⟩, _⟩ := L
  rcases h with rfl | rfl | rfl | rfl | rfl
  · rw [a1]; simp
  · rw [b1]; simp
  · rw [b2]; simp
  · rw [b3]; simp
  · obtain ⟨u, e, _⟩ := b6.there
    rw [e]; simp
theorem ok_copyP {f fC fI : Addr} {fd fdC fdI : FuncData} (T : TPr K mg CP) (MK : Mk K CP fI) (GI : FnOk P w K mg base L2.CX0 4 fI fdI ["self", "scheme", "counter"] (spPrI P w K CM CP)) (bI : Binds K fdI ["self", "scheme", "counter"] [])
    (TM : TMem K mg CM) (mC : Meth K CM "copied" fC) (GC : FnOk P w K mg base L2.CX0 3 fC fdC ["self"] (spCopied P w CM)) (bC : Binds K fdC ["self"] [])
    (F : L2.Fun K "copy" "Predictor.copy" sCopyP f fd) : FnOk P w K mg base L2.CX0 6 f fd ["self"] (spCopyP P w K CM CS CP) := by
  refine F.ok scCopyP (fun vs H Q E h => ?_) (fun cdv A outer s H vs Q E hr h => ?_)
  · obtain ⟨r, ps, rfl, _⟩ := h
    rfl
  · obtain ⟨r, ps, rfl, L, pl, ml, q⟩ := h
    refine ⟨_, pss_cons (ps_set (i := 1) scCopyP.nd rfl (.inl rfl) (pe_make MK GI (hr.mono (by decide)) (by rfl) T.mgC bI .nil pass0 (pa_cons (pe_fld (pv 0) rfl) (pa_cons (pe_fld (pv 0) rfl) pa_nil))))
      (pss_cons (ps_fld (pv 1) (pe_meth0 (pe_fld (pv 0) rfl) TM.cl mC GC (hr.mono (by decide)) bC .nil pass0) rfl) (pss_one (ps_ret (pv 1)))), ?_⟩
    have R := L.pr
    refine ⟨_, rfl, r.p, CP, r.dp, _, _, rfl, R.1.hpr, T.cl, T.n0, prF_scheme _ _ _, _, rfl, r.p, CP, r.dp, _, _, rfl, R.1.hpr, T.cl, T.n1, prF_counter _ _ _, ?_⟩
    intro p dp np ndp nex
    have s1 : Same H (upd (upd H dp (.own p)) p (.ins CP dp [])) := fun b o e => by rw [upd_ne (ne_of_none e np), upd_ne (ne_of_none e ndp)]; exact e
    have p1 : (upd (upd H dp (.own p)) p (.ins CP dp [])) p = some (.ins CP dp []) := upd_same
    generalize upd (upd H dp (.own p)) p (.ins CP dp []) = H1 at s1 p1
    have L1 := L.same s1
    have R1 := L1.pr
    have n01 : ∀ b, H1 b = none → H b = none := fun b e => by
      cases e' : H b with
      | none => rfl
      | some o => rw [s1 _ _ e'] at e; cases e
    refine ⟨p, dp, r.c, r.g, r.k, r.z, r.x, r.wd, r.v0, rfl, p1, R1.1.hsc, R1.1.okp, R1.1.hga, R1.1.w1, R1.1.w4, R1.1.v1, R1.1.v2, fun H2 m0 dx0 st0 hd0 cd0 keep2 nm0 nst0 nhd0 ncd0 pr2 => ⟨rfl, go_name ?_⟩⟩
    have nb : ∀ {b o}, H b = some o → b ≠ p := fun e => ne_of_none e np
    have s2 : Same H H2 := fun b o e => keep2 b o (nb e) (s1 _ _ e)
    have L2' := L.same s2
    have R2 := L2'.pr
    obtain ⟨i1, i2, i3, i4, i5⟩ := ms_inv r.par _ ps rfl
    have ek : r.ks = (msOf r.par ps).ks := congrArg Ms.ks L.ms
    refine ⟨_, rfl, r.p, CP, r.dp, _, _, rfl, R2.1.hpr, T.cl, T.n2, prF_memory _ _ _, r.m, r.dx, _, rfl, R2.1.mem.hob, rfl, r.m, r.dx, r.st, r.hd, r.cd, r.k, r.steps, r.hs, r.z.toNat, r.cs, r.ks, r.n, r.many, rfl, R2.1.mem, by rw [ek]; exact i2, by rw [L.st.1]; omega, by omega, fun H3 m' dx' st' hd' cd' s3 nm nst nhd ncd mem => ?_⟩
    have p2 := pr2.hpr
    have p3 := s3 _ _ p2
    refine ⟨_, rfl, p, CP, dp, _, rfl, p3, T.cl, T.n2, by show 3 < 1000; decide, ?_⟩
    have ef : putF "_memory" (.ref m') (prF r.c r.g m0) = prF r.c r.g m' := by
      unfold prF
      rw [putF_ne (by decide +kernel), putF_ne (by decide +kernel), putF_eq]
    rw [ef]
    have np0 : H p = none := np
    have k3 : ∀ b o, b ≠ p → H3 b = some o → (upd H3 p (.ins CP dp (prF r.c r.g m'))) b = some o := fun b o n e => by rw [upd_ne n]; exact e
    have s03 : Same H (upd H3 p (.ins CP dp (prF r.c r.g m'))) := fun b o e => k3 b o (nb e) (s3 _ _ (s2 _ _ e))
    have p4 : (upd H3 p (.ins CP dp (prF r.c r.g m'))) p = some (.ins CP dp (prF r.c r.g m')) := upd_same
    have n03 : ∀ b, H2 b = none → H b = none := fun b e => by
      cases e' : H b with
      | none => rfl
      | some o => rw [s2 _ _ e'] at e; cases e
    have pm : p ≠ m' := ne_of_none p2 nm
    have pst : p ≠ st' := ne_of_none p2 nst
    have phd : p ≠ hd' := ne_of_none p2 nhd
    have pcd : p ≠ cd' := ne_of_none p2 ncd
    have L4 := L.same s03
    refine ⟨_, rfl, q _ { r with p := p, dp := dp, m := m', dx := dx', st := st', hd := hd', cd := cd' } s03 rfl rfl np0 (n03 _ nm) (n03 _ nst) (n03 _ nhd) (n03 _ ncd) ?_ ?_ L4 ?_⟩
    · intro a ha
      have ne := L.used ha
      exact ⟨fun z => ne (by rw [z]; exact n03 _ nm), fun z => ne (by rw [z]; exact n03 _ nst), fun z => ne (by rw [z]; exact n03 _ nhd), fun z => ne (by rw [z]; exact n03 _ ncd)⟩
    · intro a ha
      have na : H a = none := by
        rcases ha with rfl | rfl | rfl | rfl | rfl
        · exact np0
        · exact n03 _ nm
        · exact n03 _ nst
        · exact n03 _ nhd
        · exact n03 _ ncd
      exact ⟨fun z => L.used (.inr (.inl rfl)) (by rw [← z]; exact na), fun z => L.used (.inr (.inr (.inl rfl))) (by rw [← z]; exact na), fun z => L.used (.inr (.inr (.inr (.inl rfl)))) (by rw [← z]; exact na), fun z => L.used (.inr (.inr (.inr (.inr rfl)))) (by rw [← z]; exact na)⟩
    · obtain ⟨b1, b2, ⟨kvs, b3, b4, b5⟩, b6, b7, b8, b9, b10⟩ := mem
      have R4 := L4.pr
      exact ⟨⟨⟨p4, R4.1.hsc, R4.1.okp, R4.1.hga, R4.1.w1, R4.1.w4, R4.1.v1, R4.1.v2, ⟨k3 _ _ pm.symm b1, k3 _ _ pst.symm b2, ⟨kvs, k3 _ _ phd.symm b3, b4, b5⟩, b6.same fun u e => k3 _ _ pcd.symm e, b7, b8, b9, b10⟩, pm⟩, R4.2⟩, L.ms, L4.st, L.fair⟩
end
end Pf
namespace Pf
open PySem PySem.Spec PyProof.Rows L2 Gk Fold
/-! ### predictors led while others stand by -/
section
variable {P : Program} {w : World} {K : PySem.W.Frag} {CM CS CP : Addr} {H H' : Hp} {r o : Pd} {ps qs : List (Int × Int)}
theorem Led.mv (L : Led P w K CM CS CP H r ps) (at_ : ∀ a, (a = r.p ∨ a = r.m ∨ a = r.st ∨ a = r.hd ∨ a = r.cd) → ∀ u, H a = some u → (∀ ps, u ≠ HO.tbl ps) → H' a = some u) (kp : Keep K H H') (stp : ∀ a d pr wr ow oh pl ov, H a = some (.ins CS d (stepF pr wr ow oh pl ov)) → H' a = some (.ins CS d (stepF pr wr ow oh pl ov))) (tp : ∀ a ts, H a = some (.tup ts) → H' a = some (.tup ts)) : Led P w K CM CS CP H' r ps := by
  obtain ⟨⟨⟨a1, a2, a3, a4, a5, a6, a7, a8, ⟨b1, b2, ⟨kvs, b3, b4, b5⟩, b6, b7, b8, b9, b10⟩, a10⟩, c1, c2⟩, m, s, fr⟩ := L
  refine ⟨⟨⟨at_ _ (.inl rfl) _ a1 (fun ps z => by cases z), kp _ _ a2, a3, kp _ _ a4, a5, a6, a7, a8, ⟨at_ _ (.inr (.inl rfl)) _ b1 (fun ps z => by cases z), at_ _ (.inr (.inr (.inl rfl))) _ b2 (fun ps z => by cases z), ⟨kvs, at_ _ (.inr (.inr (.inr (.inl rfl)))) _ b3 (fun ps z => by cases z), b4, b5⟩, ?_, b7, b8, b9, b10⟩, a10⟩, c1, c2⟩, m, s.keep kp stp tp, fr⟩
  rcases b6 with ⟨t, kvc, e, z⟩ | ⟨t, kvc, e, z⟩
  · exact .inl ⟨t, kvc, at_ _ (.inr (.inr (.inr (.inr rfl)))) _ e (fun ps z => by cases z), z⟩
  · exact .inr ⟨t, kvc, at_ _ (.inr (.inr (.inr (.inr rfl)))) _ e (fun ps z => by cases z), z⟩
/-- a list, none of the predictor's own, stands elsewhere than all that the predictor is -/
theorem Led.off (L : Led P w K CM CS CP H r ps) {b : Addr} {xs : List V} (e : H b = some (.lst xs)) (nst : r.st ≠ b) : ∀ a, (a = r.p ∨ a = r.m ∨ a = r.st ∨ a = r.hd ∨ a = r.cd) → a ≠ b := by
  obtain ⟨⟨⟨a1, _, _, _, _, _, _, _, ⟨b1, _, ⟨kvs, b3, _⟩, b6, _⟩, _⟩, _⟩, _⟩ := L
  rintro a (rfl | rfl | rfl | rfl | rfl) z
  · rw [z, e] at a1; cases a1
  · rw [z, e] at b1; cases b1
  · exact nst z
  · rw [z, e] at b3
    have z2 : HO.lst xs = dN P w b kvs := Option.some.inj b3
    unfold dN at z2
    cases z2
  · rw [z] at b6
    obtain ⟨u, e2, _, _, n⟩ := b6.there
    rw [e] at e2
    exact n xs (Option.some.inj e2).symm
/-- only a list changed, none of the predictor's own -/
theorem Led.but (L : Led P w K CM CS CP H r ps) {b : Addr} {xs : List V} (e : H b = some (.lst xs)) (nst : r.st ≠ b) (bt : But b H H') : Led P w K CM CS CP H' r ps := by
  have off := L.off e nst
  have nb : ∀ {a : Addr} {u : HO}, H a = some u → (∀ ys, u ≠ .lst ys) → a ≠ b := fun {a u} h n z => by rw [z, e] at h; exact n xs (Option.some.inj h).symm
  refine L.mv (fun a ha u h _ => bt a u (off a ha) h) (fun a ys h => ?_) (fun a _ _ _ _ _ _ _ h => bt a _ (nb h (fun ys z => by cases z)) h) fun a ts h => bt a _ (nb h (fun ys z => by cases z)) h
  rcases h with (h | ⟨u, h⟩) | h
  · exact .inl (.inl (bt _ _ (nb h (fun ys z => by cases z)) h))
  · exact .inl (.inr ⟨u, bt _ _ (nb h (fun ys z => by cases z)) h⟩)
  · exact .inr h
/-- a list stays while a predictor is led that has another one -/
theorem Led.lst (L : Led P w K CM CS CP H r ps) (t : Oth r H H') {b : Addr} {xs : List V} (e : H b = some (.lst xs)) (nst : r.st ≠ b) : H' b = some (.lst xs) := by
  have off := L.off e nst
  exact t b _ (fun z => off r.m (.inr (.inl rfl)) z.symm) (fun z => nst z.symm) (fun z => off r.hd (.inr (.inr (.inr (.inl rfl)))) z.symm) (fun z => off r.cd (.inr (.inr (.inr (.inr rfl)))) z.symm) e
/-- a predictor and a box change, nothing else -/
def OthB (b : Addr) (r : Pd) (H H' : Hp) : Prop := ∀ a u, a ≠ b → a ≠ r.m → a ≠ r.st → a ≠ r.hd → a ≠ r.cd → H a = some u → H' a = some u
theorem OthB.of_oth {b : Addr} (t : Oth r H H') : OthB b r H H' := fun a u _ h1 h2 h3 h4 e => t a u h1 h2 h3 h4 e
theorem OthB.of_but {b : Addr} (t : But b H H') : OthB b r H H' := fun a u h _ _ _ _ e => t a u h e
theorem OthB.refl {b : Addr} : OthB b r H H := fun _ _ _ _ _ _ _ e => e
theorem OthB.trans {b : Addr} {H1 : Hp} {r1 : Pd} (t : OthB b r H H1) (k : r1.Akin r) (t1 : OthB b r1 H1 H') : OthB b r H H' := fun q u n a b c d e => t1 q u n (by rw [k.m]; exact a) (by rw [k.st]; exact b) (by rw [k.hd]; exact c) (by rw [k.cd]; exact d) (t q u n a b c d e)
theorem Led.othB {b : Addr} {xs : List V} (L : Led P w K CM CS CP H r ps) (Lo : Led P w K CM CS CP H o qs) (t : OthB b o H H') (ap : Apart r o) (e : H b = some (.lst xs)) (rb : r.st ≠ b) : Led P w K CM CS CP H' r ps := by
  have t1 : Oth o H (upd H' b (.lst xs)) := fun q u h1 h2 h3 h4 eq => by
    by_cases n : q = b
    · rw [n] at eq ⊢
      rw [upd_same, ← eq, e]
    · rw [upd_ne n]
      exact t q u n h1 h2 h3 h4 eq
  have L1 := L.oth Lo t1 ap
  exact L1.but (xs := xs) upd_same rb fun a u n eq => by rw [upd_ne n] at eq; exact eq
/-- what stood ahead of all stays: the predictor is new -/
theorem OthB.stay {H0 : Hp} {b : Addr} (bt : But b H0 H) (t : OthB b r H H') (new : ∀ a, (a = r.p ∨ a = r.m ∨ a = r.st ∨ a = r.hd ∨ a = r.cd) → H0 a = none) : But b H0 H' := fun a u n e => by
  have ne : ∀ {c : Addr}, (c = r.p ∨ c = r.m ∨ c = r.st ∨ c = r.hd ∨ c = r.cd) → a ≠ c := fun {c} h z => by rw [z, new c h] at e; cases e
  exact t a u n (ne (.inr (.inl rfl))) (ne (.inr (.inr (.inl rfl)))) (ne (.inr (.inr (.inr (.inl rfl))))) (ne (.inr (.inr (.inr (.inr rfl))))) (bt a u n e)
theorem OthB.keep {b : Addr} {xs : List V} (Lo : Led P w K CM CS CP H o qs) (t : OthB b o H H') (e : H b = some (.lst xs)) {a : Addr} {ys : List V} (h : SqT K H a ys) : SqT K H' a ys := by
  have off : ∀ u, H a = some u → (∃ zs, u = .tup zs) ∨ (∃ q zs, u = .frz q (.tup zs)) → H' a = some u := fun u hu k => by
    obtain ⟨⟨⟨_, _, _, _, _, _, _, _, ⟨b1, b2, ⟨kvs, b3, _⟩, b6, _⟩, _⟩, _⟩, _⟩ := Lo
    refine t a u (fun z => ?_) (fun z => ?_) (fun z => ?_) (fun z => ?_) (fun z => ?_) hu
    · rw [z, e] at hu; cases hu; rcases k with ⟨_, k⟩ | ⟨_, _, k⟩ <;> cases k
    · rw [z, b1] at hu; cases hu; rcases k with ⟨_, k⟩ | ⟨_, _, k⟩ <;> cases k
    · rw [z, b2] at hu; cases hu; rcases k with ⟨_, k⟩ | ⟨_, _, k⟩ <;> cases k
    · rw [z, b3] at hu
      have z2 : u = dN P w o.hd kvs := (Option.some.inj hu).symm
      rw [z2] at k
      unfold dN at k
      rcases k with ⟨_, k⟩ | ⟨_, _, k⟩ <;> cases k
    · rw [z] at hu
      rcases b6 with ⟨_, _, g, _⟩ | ⟨_, _, g, _⟩ <;> rw [g] at hu <;> cases hu <;> rcases k with ⟨_, k⟩ | ⟨_, _, k⟩ <;> cases k
  rcases h with (h | ⟨u, h⟩) | h
  · exact .inl (.inl (off _ h (.inl ⟨_, rfl⟩)))
  · exact .inl (.inr ⟨u, off _ h (.inr ⟨_, _, rfl⟩)⟩)
  · exact .inr h
theorem made_go {c g : Addr} {k : Str} {z : Int} {x : Option Int} {wd v0 : Int} {p dp : Addr} (npm : H p = none) (ndp : H dp = none) (nex : dp ≠ p) {Q : VK} {E : XK} (sc : SqT K H c (planV k z x)) (ok : PlanOk k z x) (ga : SqT K H g [.int wd, .int v0]) (w1 : 1 ≤ wd) (w4 : wd ≤ 4) (v1 : 0 ≤ v0) (v2 : v0 ≤ top wd)
    (q : ∀ H' r, Pd.p r = p → Same H H' → Led P w K CM CS CP H' r [] → r.many = 0 → r.k = k → r.z = z → r.x = x → r.wd = wd → r.v0 = v0 → r.c = c → r.g = g → (∀ a, (a = r.p ∨ a = r.m ∨ a = r.st ∨ a = r.hd ∨ a = r.cd) → H a = none) → Q .non H') :
    spPrI P w K CM CP (.ref p :: ([.ref c, .ref g] ++ [])) (upd (upd H dp (.own p)) p (.ins CP dp [])) Q E := by
  have s45 : Same H (upd (upd H dp (.own p)) p (.ins CP dp [])) := fun b o e => by rw [upd_ne (ne_of_none e npm), upd_ne (ne_of_none e ndp)]; exact e
  have hpm : (upd (upd H dp (.own p)) p (.ins CP dp [])) p = some (.ins CP dp []) := upd_same
  generalize upd (upd H dp (.own p)) p (.ins CP dp []) = H5 at s45 hpm
  refine ⟨p, dp, c, g, k, z, x, wd, v0, rfl, hpm, Same.seqT s45 sc, ok, Same.seqT s45 ga, w1, w4, v1, v2, fun H6 mm mx0 st hd cd keep6 nmm nst nhd ncd pr => ?_⟩
  have s46 : Same H H6 := fun a o e => keep6 a o (ne_of_none e npm) (s45 _ _ e)
  have none0 : ∀ {a : Addr}, H5 a = none → H a = none := fun {a} h => by
    cases e' : H a with
    | none => rfl
    | some o => rw [s45 a o e'] at h; cases h
  refine q H6 (freshPd p dp c g mm mx0 st hd cd k z x wd v0) rfl s46 (Led.fresh pr) rfl rfl rfl rfl rfl rfl rfl rfl fun a ha => ?_
  rcases ha with rfl | rfl | rfl | rfl | rfl
  · exact npm
  · exact none0 nmm
  · exact none0 nst
  · exact none0 nhd
  · exact none0 ncd
theorem eqv_leD (os : List (Int × Int)) : PyData.eqv (leD []) (leD os) = PyData.eqv (leD os) (leD []) := by
  cases os <;> rfl
theorem eqv_plan {k : Str} {z : Int} {x : Option Int} (ok : PlanOk k z x) : PyData.eqv (planD k z x) (planD k z x) = true := eqv_same (plan_tame ok).1
theorem eqv_ga {r : Pd} (w1 : 1 ≤ r.wd) (w4 : r.wd ≤ 4) (v1 : 0 ≤ r.v0) (v2 : r.v0 ≤ top r.wd) : PyData.eqv (gaD r) (gaD r) = true := by
  have tb : top r.wd ≤ 16 := top_le (n := 4) w4
  refine eqv_same ?_
  simp only [gaD, Gk.tame, tameAll, Bool.and_true, Bool.and_eq_true, decide_eq_true_eq]
  omega
theorem par_of (L : Led P w K CM CS CP H r ps) {H1 : Hp} {os : List (Int × Int)} (Lo : Led P w K CM CS CP H1 o os) (e : o.par = r.par) : o.k = r.k ∧ o.z = r.z ∧ o.x = r.x ∧ o.wd = r.wd ∧ o.v0 = r.v0 := by
  have z1 := L.pr.1.okp.1
  have z2 := Lo.pr.1.okp.1
  have e1 : o.k = r.k := congrArg Par.k e
  have e2 : o.z.toNat = r.z.toNat := congrArg Par.L e
  have e3 : o.x = r.x := congrArg Par.x e
  have e4 : o.wd = r.wd := congrArg Par.wd e
  have e5 : o.v0 = r.v0 := congrArg Par.v0 e
  exact ⟨e1, by omega, e3, e4, e5⟩
/-- predictors alike in scheme and counter are equal if their pairs are -/
theorem eqP_par (L : Led P w K CM CS CP H r ps) {H1 : Hp} {os qs' : List (Int × Int)} {ps' : List (Int × Int)} (Lo : Led P w K CM CS CP H1 o os) (e : o.par = r.par) : eqP r o ps' qs' = PyData.eqv (leD ps') (leD qs') := by
  obtain ⟨e1, e2, e3, e4, e5⟩ := par_of L Lo e
  have g : gaD o = gaD r := by unfold gaD; rw [e4, e5]
  unfold eqP
  rw [e1, e2, e3, g, eqv_plan L.pr.1.okp, eqv_ga L.pr.1.w1 L.pr.1.w4 L.pr.1.v1 L.pr.1.v2, Bool.true_and, Bool.true_and]
theorem eqv_le {ps : List (Int × Int)} (h : Fair ps) : PyData.eqv (leD ps) (leD ps) = true := eqv_same (by simpa only [leD, Gk.tame] using tame_pd h)
end
end Pf
/-! with e as t: .., e an instance of an own class; nothing is raised within -/
namespace Gk
open PySem PySem.Spec PyProof.Rows L2
/-- spE, spX: what __enter__ and __exit__ promise -/
def tWith (C : Addr) (spE spX : Sp) (te : TE) (g : TG) (tb : TS) : TS := fun D σ H => te σ H fun v H1 => ∃ x dx fs, v = .ref x ∧ H1 x = some (.ins C dx fs) ∧
  spE [.ref x] H1 (fun y H2 => g y σ H2 fun σ3 H3 => tb { nx := fun σ4 H4 => spX [.ref x, .non, .non, .non] H4 (fun _ H5 => D.nx σ4 H5) L2.E0, rt := fun r H4 => spX [.ref x, .non, .non, .non] H4 (fun _ H5 => D.rt r H5) L2.E0 } σ3 H3) L2.E0
section
variable {X : Cx} {k k2 : Nat} {C fe fx : Addr} {fdE fdX : FuncData} {psE psX : List Str} {spE spX : Sp} {te : TE} {g : TG} {tb : TS} {e : Expr} {y : Str} {py pos : Pos} {bd : List Stmt}
theorem ps_with (hX : ∀ v s, X.xe v s → False) (iE : PySem.W.findIn X.K (.ref C) "__enter__" = some (some (.ref fe))) (kE : PySem.W.isFn X.K (.ref fe) = true) (FE : FnOk X.prog X.w X.K X.mg X.base L2.CX0 k fe fdE psE spE) (bE : Binds X.K fdE psE [])
    (iX : PySem.W.findIn X.K (.ref C) "__exit__" = some (some (.ref fx))) (kX : PySem.W.isFn X.K (.ref fx) = true) (FX : FnOk X.prog X.w X.K X.mg X.base L2.CX0 k2 fx fdX psX spX) (bX : Binds X.K fdX psX []) (hr : Room k X.A) (hr2 : Room k2 X.A)
    (ctx : PE X e te) (hg : PG X (.Name y py) g) (body : PSs X bd tb) : PS X (.With [⟨e, some (.Name y py)⟩] bd pos) (tWith C spE spX te g tb) := by
  refine ⟨fun pins s σ H D I h => PySem.W.kw_execN (thn (ctx.run pins s σ H _ I h) fun u s1 ⟨v, H1, I1, r1, x, dx, fs, ev, hx, q⟩ => ?_)⟩
  subst ev
  obtain rfl : u = Value.ref x := r1
  obtain ⟨ox, od, J, _⟩ := inst_at I1 hx
  have leave : ∀ {D2 : Ends} {s4 : Shared} {f : Flow}, SP X pins { nx := fun σ4 H4 => spX [.ref x, .non, .non, .non] H4 (fun _ H5 => D.nx σ4 H5) L2.E0, rt := fun r H4 => spX [.ref x, .non, .non, .non] H4 (fun _ H5 => D.rt r H5) L2.E0 } f s4 →
      wpAny (model X.prog X.w) X.A (call (.ref fx) [.ref x, .none, .none, .none]) (fun _ s5 => SP X pins D f s5) X.xe s4 := fun {D2 s4 f} z => by
    have vals : Vals [V.ref x, .non, .non, .non] [Value.ref x, .none, .none, .none] := .cons rfl (.cons rfl (.cons rfl (.cons rfl .nil)))
    cases f with
    | next =>
      obtain ⟨σ4, H4, I4, q4⟩ := z
      exact thn (call_below ⟨hr2, rfl⟩ I4 FX bX pass0 vals q4) fun _ s5 ⟨_, H5, I5, _, q5⟩ => ⟨σ4, H5, I5, q5⟩
    | ret r =>
      obtain ⟨v, σ4, H4, I4, rv, q4⟩ := z
      exact thn (call_below ⟨hr2, rfl⟩ I4 FX bX pass0 vals q4) fun _ s5 ⟨_, H5, I5, _, q5⟩ => ⟨v, σ4, H5, I5, rv, q5⟩
    | brk => obtain ⟨_, _, _, z⟩ := z; exact z.elim
    | cont => obtain ⟨_, _, _, z⟩ := z; exact z.elim
  have go := PySem.W.kw_core (b := assign (.Name y py) X.env) (bdy := execs bd X.env) (env := X.env) (pos := e.pos) (E := X.xe) (Q := SP X pins D) I1.kIn J iE kE iX kX
    (thn (call_below ⟨hr, rfl⟩ I1 FE bE pass0 (.cons (show RelV (.ref x) (.ref x) from rfl) .nil) q) fun v2 s2 ⟨y2, H2, I2, r2, q2⟩ =>
      wpAny_mono (hg.run pins s2 σ H2 y2 v2 _ I2 r2 q2) (fun _ s3 ⟨σ3, H3, I3, q3⟩ => wpAny_mono (body.run pins s3 σ3 H3 _ I3 q3) (fun f s4 z => leave (D2 := D) z) fun v s z => hX v s z) fun v s z => hX v s z)
  exact go
end
end Gk
/-! Defs whose own code object is known; a law's call where some defs keep tables of code objects. -/
namespace Gk
open PySem PySem.Spec PyProof.Rows L2 LamX
section
variable {P : Program} {w : World} {K : PySem.W.Frag} {mg : Str → Option Value} {base : Heap}
/-- as fnG, with the def's code object told -/
theorem fnGc {x qual : Str} {st : Stmt} {f : Addr} {fd : FuncData} {N ps : List Str} {k : Nat} {sp : Sp} (F : L2.Fun K x qual st f fd) (S : FnScope N ps (defScope st)) (len : ∀ vs H Q E, sp vs H Q E → vs.length = ps.length)
    (hbody : ∀ (A : Around) (outer : List Env) (s : Shared) (H : Hp) (vs : List V) (Q : VK), Room k (A.deeper (envOfC qual (defScope st) s.heap.objs.size f fd.code)) → (A.deeper (envOfC qual (defScope st) s.heap.objs.size f fd.code)).guards = some [] → sp vs H Q L2.E0 →
      ∃ t, PSs (cxOf L2.CX0 P w K mg base N qual (defScope st) f fd.code A outer s H L2.E0).nox (defBody st) t ∧ t { nx := fun _ H' => Q .non H', rt := Q } (start N vs) H) :
    FnG P w K mg base (k + 1) f fd ps sp := by
  obtain ⟨oc, od, kV, doc, pm, an, cdv, ct, osl, rfl, lk, hcd⟩ := F.ex
  refine ⟨len, fun A outer s H args us vs Q room gd en bd rv want => ?_⟩
  have many := len _ _ _ _ want
  have KX : K.In s.heap := en.mod.kin.keeps (fun b o e => (en.bs b o e).1)
  have lim : s.heap.NoLimit := en.mod.nolimit.keeps (fun b o e => (en.bs b o e).1)
  have kinds : ∀ y ∈ ps.zip us, (defScope st).names.lookup y.1 = some .local ∨ ((defScope st).names.lookup y.1 = some .cell ∧ ((cellsFrom (s.heap.objs.size + 1) (defScope st).names []).lookup y.1).isSome = true) :=
    fun y hy => (S.par y.1 (List.of_mem_zip (a := y.1) (b := y.2) hy).1).elim Or.inl fun q => .inr ⟨q, PySem.W.cellsFrom_some _ _ _ (.inl q)⟩
  refine codeAny_call_function room.depth (KX _ _ lk) rfl S.co S.gen rfl (PySem.W.codeRec_of KX hcd) (bd _ _ _ _ (wpAny_newFunctionEnv_cells S.kind kinds fun env he st1 inC => ?_))
  subst he
  obtain ⟨t, ht, hq⟩ := hbody A outer s H vs Q (room.deeper _) (guards_deeper gd) want
  refine ⟨lim.keeps inC.toInCall.keep, codeAny_func (wpAny_mono (ht.nox.run [] st1 (start N vs) H _ (inv_start (CX := L2.CX0) (P := P) (w := w) (mg := mg) (E := L2.E0) S room.hd en many rv inC) hq) (fun fl s' hs => ?_) fun e s' hs => hs)⟩
  cases fl with
  | brk => obtain ⟨_, _, _, z⟩ := hs; exact False.elim z
  | cont => obtain ⟨_, _, _, z⟩ := hs; exact False.elim z
  | next => obtain ⟨σ1, H1, J, z⟩ := hs; exact ⟨V.non, H1, J.os, J.bare, J.base, J.hok, rfl, z⟩
  | ret u => obtain ⟨v, σ1, H1, J, rv1, z⟩ := hs; exact ⟨v, H1, J.os, J.bare, J.base, J.hok, rv1, z⟩
/-- the code object of a def with a table -/
theorem tab_code {x : Str} {f c T : Addr} {oc : Value} {od : Option Addr} {fd : FuncData} {osl : Array (Option Value)} (a : PySem.W.nsIn K mainGlobals x = some (some (.ref f))) (l : K.lookup f = some ⟨oc, od, .func fd, osl⟩) (t : PySem.W.tabIn K x = some (c, T)) : fd.code = .ref c := by
  unfold PySem.W.tabIn at t
  rw [a] at t
  dsimp only at t
  rw [l] at t
  dsimp only at t
  split at t
  · rename_i c2 e
    split at t
    · split at t
      · cases t
        exact e
      · cases t
    · cases t
  · cases t
/-- the law's call, its promise told where nothing is being shown; ts: code objects and their tables, which stand empty -/
theorem callGT {mb : Str → Option Value} {k : Nat} {fa a : Addr} {ts : List (Addr × Addr)} {fd : FuncData} {x : Str} {sp : Sp} {s1 : Shared} {vs : List Value} {ns : List Int} (KX : K.In s1.heap) (n1 : s1.heap.Ns mainGlobals mg) (n2 : s1.heap.Ns builtinsNs mb)
    (n3 : ∀ x : Str, x ≠ "__name__" → mb x = bootBuiltins x) (lim : s1.heap.NoLimit) (gen : s1.gens = #[]) (tabs : ∀ p ∈ ts, s1.heap.get? p.2 = some { cls := .none, data := .fields #[] }) (noK : ∀ p ∈ ts, K.lookup p.2 = none) (codes : ∀ p ∈ ts, PySem.W.CodeHd s1.heap p.1 p.2)
    (main : ∃ (bm : Addr) (ob : Obj), mg "__builtins__" = some (.ref bm) ∧ bm ≠ builtinsNs ∧ s1.heap.get? bm = some ob ∧ ob.cls = .type "module" ∧ ob.dict = some builtinsNs ∧ ob.data = .plain)
    (at_ : s1.heap.get? a = some { cls := .type "list", data := .seq vs.toArray }) (iss : IntsAre vs ns) (few : ns.length ≤ sizeLine) (room : Room k callerA)
    (F : ∀ base : Heap, K.In base → base.Ns mainGlobals mg → (∀ p ∈ ts, TabB base mg p.1 p.2) → FnG P w K mg base k fa fd [x] sp) (binds : ∀ (s : Shared) (u : Value), BindsTo s fd ⟨[u], []⟩ [(x, u)])
    (want : ∀ H : Hp, (∀ p ∈ ts, H p.2 = some (.tbl #[])) → SqL K H a (ns.map V.int) → sp [.ref a] H (fun v _ => v = .bl true) L2.E0) :
    codeAny (model P w) callerA (.call (.ref fa) ⟨[.ref a], []⟩) (fun r s' => r = .ok (.ret (.bool true)) ∧ OldK s1.heap s'.heap ∧ s'.os = s1.os ∧ AllBare s'.gens) s1 := by
  have rv := L2.vals_ints iss
  let TS : List Addr := ts.map (·.2)
  have isT : ∀ b ∈ TS, s1.heap.get? b = some { cls := .none, data := .fields #[] } := fun b hb => by
    obtain ⟨p, hp, rfl⟩ := List.mem_map.mp hb
    exact tabs p hp
  have inT : ∀ p ∈ ts, p.2 ∈ TS := fun p hp => List.mem_map.mpr ⟨p, hp, rfl⟩
  have notT : a ∉ TS := fun z => by
    have q := isT a z
    rw [at_] at q
    exact Data.noConfusion (show Data.seq vs.toArray _ = Data.fields #[] from congrArg Obj.data (Option.some.inj q))
  have go : ∀ H : Hp, (∀ p ∈ ts, H p.2 = some (.tbl #[])) → (∀ b, H b = none ∨ b ∈ TS ∨ ∃ o xs, H b = some (.frz o (.lst xs))) → SqL K H a (ns.map V.int) → HOk P w H s1.heap → (∀ b, H b ≠ none → b = a ∨ b ∈ TS) → (H a ≠ none → K.lookup a = none) →
      codeAny (model P w) callerA (.call (.ref fa) ⟨[.ref a], []⟩) (fun r s' => r = .ok (.ret (.bool true)) ∧ OldK s1.heap s'.heap ∧ s'.os = s1.os ∧ AllBare s'.gens) s1 := by
    intro H tab only there held alone apart
    have kind : ∀ {b : Addr} {u : HO} {o : Obj}, H b = some u → s1.heap.get? b = some o → o.data = .seq vs.toArray ∨ o.data = .fields #[] := fun {b u o} e eo => by
      rcases alone b (fun z => by rw [e] at z; cases z) with rfl | z
      · rw [at_] at eo; cases eo; exact .inl rfl
      · rw [isT b z] at eo; cases eo; exact .inr rfl
    have free : ∀ {b : Addr} {o : Obj}, s1.heap.get? b = some o → (∀ n, o.data ≠ .seq vs.toArray n) → o.data ≠ .fields #[] → H b = none := fun {b o} eo g1 g2 => by
      cases q : H b with
      | none => rfl
      | some u =>
        rcases kind q eo with z | z
        · exact absurd z (g1 _)
        · exact absurd z g2
    have freeD : ∀ {b : Addr} {o : Obj} {es : Array DictEntry} {ep : Nat}, s1.heap.get? b = some o → o.data = .dict es ep → H b = none := fun eo d => free eo (fun n z => by rw [d] at z; cases z) fun z => by rw [d] at z; cases z
    have nsB : ∀ {b : Addr} {m : Str → Option Value}, s1.heap.Ns b m → (hidT s1.heap H).Ns b m := fun {b m} h => by
      obtain ⟨o, es, ep, e, d, r⟩ := h
      exact ⟨o, es, ep, hidT_get e (freeD e d), d, r⟩
    have KB : K.In (hidT s1.heap H) := fun b o e => hidT_get (KX b o e) (by
      cases q : H b with
      | none => rfl
      | some u =>
        rcases alone b (fun z => by rw [q] at z; cases z) with rfl | z
        · rw [apart (fun z => by rw [q] at z; cases z)] at e; cases e
        · obtain ⟨p, hp, ep⟩ := List.mem_map.mp z
          rw [← ep, noK p hp] at e
          cases e)
    obtain ⟨mc, c1, c2⟩ := lim
    have TB : ∀ p ∈ ts, TabB (hidT s1.heap H) mg p.1 p.2 := fun p hp => by
      have tp := tabs p hp
      have notMain : mainGlobals ≠ p.2 := fun z => by
        obtain ⟨o, es, ep, e, d, _⟩ := n1
        rw [z, tp] at e
        cases e
        cases d
      refine ⟨?_, ?_, notMain⟩
      · obtain ⟨o, us, file, tf, flags, tg, inF, text, tt, e1, r1, r2, r3, rest⟩ := codes p hp
        refine ⟨o, us, file, tf, flags, tg, inF, text, tt, hidT_get e1 (free e1 (fun n z => by rw [r2] at z; cases z) fun z => ?_), r1, r2, r3, rest⟩
        rw [r2] at z
        cases z
        simp at r3
      · obtain ⟨bm, ob, b1, b2, b3, b4, b5, b6⟩ := main
        refine ⟨bm, ob, b1, b2, fun q => ?_, fun q => ?_, hidT_get b3 (free b3 (fun n z => by rw [b6] at z; cases z) fun z => by rw [b6] at z; cases z), b4, b5, b6⟩
        · obtain ⟨o, es, ep, e, d, _⟩ := n1
          rw [q, e] at b3
          cases b3
          rw [d] at b6
          cases b6
        · rw [q, tp] at b3
          cases b3
          cases b6
    have en : Env0 P w K mg (hidT s1.heap H) callerA [] s1 H :=
      { frames := rfl, mod := ⟨KB, nsB n1, ⟨mb, nsB n2, n3⟩, ⟨mc, nsB c1, c2⟩⟩, bs := fun b o e => of_hidT e, bsz := Nat.le_of_eq (hidT_size _ _), funs := trivial, frf := fun b hb => (nomatch (show b ∈ ([] : List Addr) from hb)), hok := held, bare := .of_eq gen }
    refine codeAny_mono ((F _ KB (nsB n1) TB).go callerA [] s1 H ⟨[.ref a], []⟩ [.ref a] [.ref a] _ room caller_guards en (binds s1 (.ref a)) (.cons rfl .nil) (want H tab there)) fun r s' res => ?_
    match r, res with
    | .error _, res => exact False.elim res
    | .ok .next, res => exact False.elim res
    | .ok .brk, res => exact False.elim res
    | .ok .cont, res => exact False.elim res
    | .ok (.ret u), res =>
      obtain ⟨v, H1, os, bare, un, held1, rel, qv⟩ := res
      have qv : v = .bl true := qv
      subst qv
      obtain rfl : u = Value.bool true := rel
      have same : ∀ b o, b ∉ TS → s1.heap.get? b = some o → s'.heap.get? b = some o := fun b o nb e => by
        cases q : H b with
        | none => exact un.keep b o e q (fun z => (nomatch (show b ∈ ([] : List Addr) from z))) (fun z => (nomatch z))
        | some u =>
          rcases only b with z | z | ⟨ob, xs, z⟩
          · rw [q] at z
            cases z
          · exact absurd z nb
          · have f1 := (held b _ z).1
            have f2 := (held1 b _ (un.frzs b ob _ z)).1
            rw [e] at f1
            cases f1
            exact f2
      have more : ∀ p ∈ ts, ∃ m : Array Value, s'.heap.get? p.2 = some { cls := .none, data := .fields m } := fun p hp => by
        obtain ⟨m, z⟩ := un.tbls p.2 #[] (tab p hp)
        exact ⟨_, held1 p.2 _ z⟩
      refine ⟨rfl, ⟨fun b o e => ?_, fun b o e => ?_⟩, os, bare⟩
      · by_cases hb : b ∈ TS
        · obtain ⟨p, hp, rfl⟩ := List.mem_map.mp hb
          obtain ⟨m, hm⟩ := more p hp
          rw [tabs p hp] at e
          cases e
          exact .inr (.inl ⟨((codes p hp).tab (tabs p hp)).isCodeTable, rfl, #[], m, rfl, by rw [Array.empty_append]; exact hm⟩)
        · exact .inl (same b o hb e)
      · by_cases hb : b ∈ TS
        · obtain ⟨p, hp, rfl⟩ := List.mem_map.mp hb
          obtain ⟨m, hm⟩ := more p hp
          exact ⟨_, hm⟩
        · exact ⟨o, same b o hb e⟩
  cases kl : K.lookup a with
  | some o =>
    have e := KX a o kl
    rw [at_] at e
    cases e
    refine go (fun b => if b ∈ TS then some (.tbl #[]) else none) (fun p hp => if_pos (inT p hp)) (fun b => ?_) (.inr ⟨_, vs.toArray, _, kl, rfl, rfl, rfl, by rw [List.size_toArray, iss.length]; exact few, by simpa using rv⟩) (fun b u z => ?_) (fun b z => ?_) (fun z => absurd (if_neg notT) z)
    · by_cases h : b ∈ TS
      · exact .inr (.inl h)
      · exact .inl (if_neg h)
    · by_cases h : b ∈ TS
      · obtain rfl := Option.some.inj ((if_pos h).symm.trans z)
        exact isT b h
      · exact (nomatch ((if_neg h).symm.trans z))
    · by_cases h : b ∈ TS
      · exact .inr h
      · exact absurd (if_neg h) z
  | none =>
    refine go (fun b => if b = a then some (.frz { cls := .type "list", data := .seq vs.toArray } (.lst (ns.map V.int))) else if b ∈ TS then some (.tbl #[]) else none) (fun p hp => (if_neg fun z => notT (by rw [← z]; exact inT p hp)).trans (if_pos (inT p hp))) ?_ (.inl (.inr ⟨_, if_pos rfl⟩)) ?_ ?_ (fun _ => kl)
    · intro b
      by_cases h : b = a
      · exact .inr (.inr ⟨_, _, if_pos h⟩)
      · by_cases h2 : b ∈ TS
        · exact .inr (.inl h2)
        · exact .inl ((if_neg h).trans (if_neg h2))
    · intro b u z
      by_cases h : b = a
      · obtain rfl := Option.some.inj ((if_pos h).symm.trans z)
        subst h
        exact ⟨at_, by rw [List.length_map]; exact few, vs, _, rv, at_⟩
      · by_cases h2 : b ∈ TS
        · obtain rfl := Option.some.inj (((if_neg h).trans (if_pos h2)).symm.trans z)
          exact isT b h2
        · exact (nomatch (((if_neg h).trans (if_neg h2)).symm.trans z))
    · intro b z
      by_cases h : b = a
      · exact .inl h
      · by_cases h2 : b ∈ TS
        · exact .inr h2
        · exact absurd ((if_neg h).trans (if_neg h2)) z
end
/-- the goal behind the head; xs: the defs that make lambdas -/
theorem walkGT {l : PySem.W.OpenLaw} {n k : Nat} {q : Program} {loose : List Str} {XP : (Str → Option Value) → Heap → Prop} {YP : World → Heap → Prop} {d : DefRec} {K : Params → PySem.W.Frag} {sp : World → List (Addr × Addr) → Sp} {x : Str}
    (h1 : l.most = some n) (h2 : n ≤ sizeLine) (h3 : d.params.defaults = []) (h4 : Room k callerA) (h5 : ∀ (w : World) (h : Heap), YP w h → (K w.params).In h)
    (F : ∀ (w : World) (mg : Str → Option Value) (fa : Addr) (h : Heap), (K w.params).In h → h.Ns mainGlobals mg → mg d.name = some (.ref fa) →
      ∃ (fd : FuncData) (ts : List (Addr × Addr)), (∀ p ∈ ts, (K w.params).lookup p.2 = none ∧ ∃ y : Str, PySem.W.tabIn (K w.params) y = some p ∧ ((recsOf q).find? (fun e => e.name == y)).isSome = true) ∧ (∀ (s : Shared) (u : Value), BindsTo s fd ⟨[u], []⟩ [(x, u)]) ∧
        ∀ base : Heap, (K w.params).In base → base.Ns mainGlobals mg → (∀ p ∈ ts, TabB base mg p.1 p.2) → FnG l.prog w (K w.params) mg base k fa fd [x] (sp w ts))
    (h6 : ∀ (w : World) (ts : List (Addr × Addr)) (H : Hp) (a : Addr) (ns : List Int), ns.length ≤ n → (∀ p ∈ ts, H p.2 = some (.tbl #[])) → SqL (K w.params) H a (ns.map V.int) → sp w ts [.ref a] H (fun v _ => v = .bl true) L2.E0) :
    PySem.W.WalkO q loose XP YP l.row.toRowW d [] (fun f vs => PySem.call f vs) :=
  Att.attach_call h1 h3 fun w s0 s1 mg mb fa o pm cd doc a vs ns G Y ho hd hcd hmg obj iss len gen => by
    have X := h5 w _ Y
    obtain ⟨fd, ts, hts, hb, hF⟩ := F w mg fa _ X G.T.g hmg
    have tabs : ∀ p ∈ ts, PySem.W.CodeHd s1.heap p.1 p.2 ∧ s1.heap.get? p.2 = some (PySem.W.tabObj #[]) := fun p hp => by
      obtain ⟨_, y, e, hy⟩ := hts p hp
      obtain ⟨d', hd'⟩ := Option.isSome_iff_exists.mp hy
      exact PySem.W.tab_of G.T X hd' e
    exact callGT X G.T.g G.T.b G.T.builtins G.T.nolimit gen (fun p hp => (tabs p hp).2) (fun p hp => (hts p hp).1) (fun p hp => (tabs p hp).1) G.T.bmain obj iss (Nat.le_trans len h2) h4 hF hb (fun H ht hS => h6 w ts H a ns len ht hS)
end Gk
/-! A lambda without parameters handed to a def that calls it; what it raises is told of with the caller's names as they stand. -/
namespace Gk
open PySem PySem.Spec PyProof.Rows L2 LamX
section
variable {X : Cx} {pins : List (Addr × Obj)} {σ : L2.St} {H : Hp} {s : Shared}
/-- x(), x the lambda; W: where what it raises goes -/
theorem pe_actS {Eg : XK} {Ng : List Str} {qg : Str} {sg : Scope} {g f c' : Addr} {cdg pm ctv : Value} {params : Arguments} {body : Expr} {scope : Scope} {k i : Nat} {a : Str} {pn : List (Addr × Obj)} {xe : Value → Shared → Prop} {W : WX} {tb : XK → TE} {p1 p2 : Pos}
    (I : Inv X pins σ H s) (L : LamS X.env.scope scope) (there : s.heap.get? f = some (PySem.W.kla_obj "<lambda>" (X.env.qual ++ "<lambda>") params body scope (cloFrom X.env.cells scope.names []) pm c' ctv)) (mine : H f = none) (noFr : f ∉ frs X.stack)
    (noArgs : bindArgs (PySem.W.kla_fn "<lambda>" (X.env.qual ++ "<lambda>") params body scope (cloFrom X.env.cells scope.names []) pm (.ref c') ctv) ⟨[], []⟩ = pure []) (tk : Takes ((cxOf C8.CX0 X.prog X.w X.K X.mg X.base Ng qg sg g cdg X.A X.stack s H Eg).tr pn xe) W)
    (room : Room (k + 1) (X.A.deeper (envOfC qg sg s.heap.objs.size g cdg))) (inner : ∀ (A : Around) (outer : List Env) (s : Shared) (H : Hp) (E : XK), Room k (A.deeper (lamEnv X scope s.heap.objs.size f c')) → PE (lamCx X A outer s H E scope f c') body (tb E))
    (at_ : Ng[i]? = some a) (vis : Vis sg a) (hd : (a == ("__debug__" : Str)) = false := by decide) (hcd : (a == ("__classdict__" : Str)) = false := by decide) :
    PE ((cxOf C8.CX0 X.prog X.w X.K X.mg X.base Ng qg sg g cdg X.A X.stack s H Eg).tr pn xe) (.Call (.Name a p1) [] [] p2) (fun τ G Q => τ[i]? = some (some (.ref f)) ∧ G c' = some (CodeO c' (X.env.qual ++ "<lambda>")) ∧ tb (WE W τ) σ G Q) := by
  refine ⟨fun pinsG sG τ G Q J ⟨h1, h2, h3⟩ => wpAny_Call_Name_kw (thn ((pe_var (pos := p1) (i := i) at_ vis hd hcd).run pinsG sG τ G (fun v G1 => v = .ref f ∧ G1 = G) J ⟨.ref f, h1, rfl, rfl⟩) fun u s1 z => ?_)⟩
  obtain ⟨v, G1, J1, ru, rfl, rfl⟩ := z
  obtain rfl : u = Value.ref f := ru
  have lamO : s1.heap.get? f = some (PySem.W.kla_obj "<lambda>" (X.env.qual ++ "<lambda>") params body scope (cloFrom X.env.cells scope.names []) pm c' ctv) := J1.base.keep f _ there mine noFr fun z => (nomatch (show f ∈ ([] : List Addr) from z))
  refine PySem.W.callWith_F0 ⟨_, _, _, _, lamO⟩ ?_
  have un : Un (frs X.stack) [] H G1 s.heap s1.heap := J1.base
  obtain ⟨⟨oc, vs, t, o1, o2, o3⟩, _, _⟩ := J1.hok c' _ h2
  have run : codeAny (model X.prog X.w) (X.A.deeper (envOfC qg sg s.heap.objs.size g cdg)) (.call (.ref f) ⟨[], []⟩) (CR (L2.CX X.prog X.w) (envOfC qg sg s.heap.objs.size g cdg :: X.stack) X.prog X.w G1 s1 Q (WE W τ)) s1 := by
    refine PySem.W.kla_callFunE room.depth lamO rfl L.co L.gen rfl ⟨c', oc, vs, t, rfl, o1, o2, o3⟩ ?_
    rw [noArgs]
    refine wpAny_pure (wpAny_newFunctionEnv (fun y hy => (L.own y hy).2) (fun y hy => absurd hy (by simp)) (fun h₁ hns hsb => ⟨J1.nolimit.fresh _ hsb, ?_⟩) L.kind)
    show codeAny _ _ (.expr body (lamEnv X scope s1.heap.objs.size f c')) _ _
    have start := lam_start2 (A := X.A.deeper (envOfC qg sg s.heap.objs.size g cdg)) (outer := envOfC qg sg s.heap.objs.size g cdg :: X.stack) (E := WE W τ) (f := f) (c' := c') (tk := s1.toks + ([] : List (Str × Value)).length) I L J1.env0 room.hd un hns
      (fun b o e => hsb.extBut b o (Nat.ne_of_lt (Heap.lt_size e)) (Heap.get?_push_of_some _ e))
    refine PySem.W.kla_codeExpr (wpAny_mono ((inner _ _ s1 G1 (WE W τ) (room.deeper _)).run [] _ _ G1 Q start h3) (fun v s' ⟨w', H', J', rv, q⟩ => ?_) fun e s' hq => hq)
    exact ⟨w', H', J'.os, J'.bare, J'.base, J'.hok, rv, q⟩
  refine wpAny_call (codeAny_mono run fun r s' hq => ?_)
  match r, hq with
  | .error e, hq => exact passAt tk τ pinsG G1 s1 e s' J1 hq
  | .ok (.ret u), hq => exact J1.after hq
  | .ok .next, hq => exact False.elim hq
  | .ok .brk, hq => exact False.elim hq
  | .ok .cont, hq => exact False.elim hq
end
/-- the def that calls what it got -/
def GivesS (X : Cx) (Ng : List Str) (x : Str) (sg : Scope) (g : Addr) (cdg : Value) (bg : List Stmt) (a : Str) (q : Str) (TT : (XK → Hp → VK → Prop) → Hp → VK → Prop) : Prop :=
  ∀ (f c' : Addr) (s : Shared) (H : Hp) (Q : VK) (tl : XK → Hp → VK → Prop),
    (∀ (W : WX) (pn : List (Addr × Obj)) (xe : Value → Shared → Prop) (p1 p2 : Pos), Takes ((cxOf C8.CX0 X.prog X.w X.K X.mg X.base Ng x sg g cdg X.A X.stack s H C8.E0).tr pn xe) W →
      PE ((cxOf C8.CX0 X.prog X.w X.K X.mg X.base Ng x sg g cdg X.A X.stack s H C8.E0).tr pn xe) (.Call (.Name a p1) [] [] p2) (fun τ G Q => τ[0]? = some (some (.ref f)) ∧ G c' = some (CodeO c' q) ∧ tl (WE W τ) G Q)) →
    H c' = some (CodeO c' q) → TT tl H Q → ∃ t, PSs (cxOf C8.CX0 X.prog X.w X.K X.mg X.base Ng x sg g cdg X.A X.stack s H C8.E0).nox bg t ∧ t { nx := fun _ H' => Q .non H', rt := Q } (L2.start Ng [.ref f]) H
/-- x(lambda: body) -/
theorem pe_lamcallS {X : Cx} {T : List (Addr × Str)} {TT : (XK → Hp → VK → Prop) → Hp → VK → Prop} {x a : Str} {g c P : Addr} {k : Nat} {st : Stmt} {fd : FuncData} {Ng : List Str} {params : Arguments} {body : Expr} {scope : Scope} {t : XK → TE} {p lpos pos : Pos}
    (hg : Gl X x) (hm : X.mg x = some (.ref g)) (F : L2.Fun X.K x x st g fd) (hb : L2.Binds X.K fd [a] []) (Sg : FnScope Ng [a] (defScope st)) (hNg : Ng[0]? = some a) (hva : Vis (defScope st) a) (hG : ∀ cdv, GivesS X Ng x (defScope st) g cdv (defBody st) a (X.env.qual ++ "<lambda>") TT)
    (TB : TabB X.base X.mg c P) (hcode : X.env.code = .ref c) (hmT : (P, X.env.qual ++ "<lambda>") ∈ T) (hu : ∀ p ∈ T, p.1 = P → p.2 = X.env.qual ++ "<lambda>") (hr : Room (k + 2) X.A) (L : LamS X.env.scope scope) (hdef : defaultsOf params X.env = ([], []))
    (hbind : ∀ (q : Str) (cl : List (Str × Addr)) (pm cv ctv : Value), bindArgs (PySem.W.kla_fn "<lambda>" q params body scope cl pm cv ctv) ⟨[], []⟩ = pure []) (hbody : ∀ (A : Around) (outer : List Env) (s : Shared) (H : Hp) (E : XK) (f c' : Addr), Room k (A.deeper (lamEnv X scope s.heap.objs.size f c')) → PE (lamCx X A outer s H E scope f c') body (t E))
    (hdb : (x == ("__debug__" : Str)) = false := by decide) (hd : (a == ("__debug__" : Str)) = false := by decide) (hcd : (a == ("__classdict__" : Str)) = false := by decide) : PE X (.Call (.Name x p) [.Lambda params body scope lpos] [] pos) (tLam T TT t) := by
  obtain ⟨oc, od, kV, doc, pm, an, cdv, ct, osl, rfl, lk, hcg⟩ := F.ex
  refine ⟨fun pins s σ H Q I ⟨hT, h⟩ => wpAny_Call_Name_kw (ld_glob I hg hm (PySem.W.callWith_K (h₀ := X.base) I.ok.mod.kin F.kp ?_ (by rfl) (by rfl)) hdb)⟩
  show wpAny _ _ (spliced ((false, eval (.Lambda params body scope lpos) X.env) :: backTo pos (starEach [] X.env))) _ _ s
  refine Calls.spliced_cons (lam_make2 I TB hcode hmT hu hT hdef (L.has I.ok) fun f c' pm' ctv H1 s' I1 eN T1 hf hfn hfr hco => Calls.spliced_nil ⟨I1.kIn, wpAny_call (codeAny_mono (R := CR C8.CX0 X.stack X.prog X.w H1 s' Q C8.E0) ?_ fun r s2 hq => ?_)⟩)
  · refine run_ofS (N := Ng) (ps := [a]) (us := [.ref f]) (vs := [.ref f]) lk hcg Sg hr I1.env0 (hb s' [.ref f] I1.kIn rfl) (.cons rfl .nil) rfl fun hr' => ?_
    obtain ⟨t', ht', hq'⟩ := hG cdv f c' s' H1 Q (fun E G Q' => t E σ G Q') (fun W pn xe p1 p2 tk => pe_actS (i := 0) I1 L hf hfn hfr (hbind _ _ _ _ _) tk hr' (fun A outer s H E room => hbody A outer s H E f c' room) hNg hva hd hcd) hco (h H1 eN T1)
    exact ⟨t', ht'.nox, hq'⟩
  · match r, hq with
    | .error e, hq => exact (show False from hq).elim
    | .ok (.ret u), hq => exact I1.after hq
    | .ok .next, hq => exact False.elim hq
    | .ok .brk, hq => exact False.elim hq
    | .ok .cont, hq => exact False.elim hq
end Gk
/-! A lambda of one parameter, handed to a def that calls it; nothing is raised. -/
namespace Gk
open PySem PySem.Spec PyProof.Rows L2 LamX
/-- one parameter; else captured names and globals -/
structure LamP (sc lam : Scope) (p : Str) : Prop where
  kind : lam.kind = .function
  co : lam.isCoroutine = false
  gen : lam.isGenerator = false
  par : lam.names.lookup p = some .local
  loc : ∀ z ∈ lam.names, z.2 = .local → z.1 = p
  cel : ∀ z ∈ lam.names, z.2 ≠ .cell
  fre : ∀ z ∈ lam.names, z.2 = .free → sc.names.lookup z.1 = some .cell ∨ sc.names.lookup z.1 = some .free
def lamPB (sc lam : Scope) (p : Str) : Bool :=
  (decide (lam.kind = .function) && (!lam.isCoroutine && !lam.isGenerator)) && (decide (lam.names.lookup p = some .local) && lam.names.all fun z => (!decide (z.2 = .local) || decide (z.1 = p)) && (!decide (z.2 = .cell) && (!decide (z.2 = .free) || (decide (sc.names.lookup z.1 = some .cell) || decide (sc.names.lookup z.1 = some .free)))))
theorem lamP_by {sc lam : Scope} {p : Str} (h : lamPB sc lam p = true) : LamP sc lam p := by
  unfold lamPB at h
  rw [Bool.and_eq_true, Bool.and_eq_true, Bool.and_eq_true, Bool.and_eq_true, List.all_eq_true] at h
  obtain ⟨⟨a1, a2, a3⟩, a4, a5⟩ := h
  refine ⟨of_decide_eq_true a1, by simpa using a2, by simpa using a3, of_decide_eq_true a4, fun z hz e => ?_, fun z hz e => ?_, fun z hz e => ?_⟩
  · have q := a5 z hz
    simp only [Bool.and_eq_true, Bool.or_eq_true, Bool.not_eq_true', decide_eq_true_eq, decide_eq_false_iff_not] at q
    exact q.1.resolve_left fun n => n e
  · have q := a5 z hz
    simp only [Bool.and_eq_true, Bool.or_eq_true, Bool.not_eq_true', decide_eq_true_eq, decide_eq_false_iff_not] at q
    exact q.2.1 e
  · have q := a5 z hz
    simp only [Bool.and_eq_true, Bool.or_eq_true, Bool.not_eq_true', decide_eq_true_eq, decide_eq_false_iff_not] at q
    exact q.2.2.resolve_left fun n => n e
theorem LamP.has {X : Cx} {lam : Scope} {p : Str} (L : LamP X.env.scope lam p) (ok : X.Ok) (z : Str × NameKind) (hz : z ∈ lam.names) (e : z.2 = .free) : ∃ c, X.env.cells.lookup z.1 = some c := ok.has _ (L.fre z hz e)
/-- the context of the body: the caller's names and the parameter -/
def lamCx1 (X : Cx) (A : Around) (outer : List Env) (s : Shared) (H : Hp) (lam : Scope) (f c' : Addr) (p : Str) : Cx := { lamCx X A outer s H L2.E0 lam f c' with N := X.N ++ [p] }
section
variable {X : Cx} {pins : List (Addr × Obj)} {σ : L2.St} {H G : Hp} {s t : Shared}
theorem lam_start1 {A : Around} {outer : List Env} {lam : Scope} {f c' : Addr} {p : Str} {v : V} {u : Value} {hp : Heap} {tk : Nat} (I : Inv X pins σ H s) (L : LamP X.env.scope lam p) (np : p ∉ X.N) (env0 : Env0 X.prog X.w X.K X.mg X.base A outer t G) (calm : A.handled = none)
    (un : Un (frs X.stack) [] H G s.heap t.heap) (ru : RelV v u) (hns : hp.Ns t.heap.objs.size fun y => ([(p, u)] : List (Str × Value)).reverse.lookup y) (more : ∀ b o, t.heap.get? b = some o → hp.get? b = some o) :
    Inv (lamCx1 X A outer t G lam f c' p) [] (σ ++ [some v]) G { t with heap := hp, toks := tk } := by
  have fromX : ∀ {y c}, (cloFrom X.env.cells lam.names []).lookup y = some c → X.env.cells.lookup y = some c := fun {y c} e => by
    rcases cloFrom_mem (PySem.mem_of_lookup e) with z | ⟨z1, z2⟩
    · cases z
    · obtain ⟨c0, e0⟩ := L.has I.ok _ z1 rfl
      have e0 : X.env.cells.lookup y = some c0 := e0
      have same : c = c0 := by rw [z2, e0] <;> rfl
      rw [same, e0]
  have inClo : ∀ {y}, lam.names.lookup y = some .free → ∃ c, (cloFrom X.env.cells lam.names []).lookup y = some c := fun {y} e => mem_lookup (cloFrom_has (cells := X.env.cells) (acc := []) (PySem.mem_of_lookup e))
  have isCell : ∀ {c : Addr} {r : Option Value}, H c = none → s.heap.IsCell c r → hp.IsCell c r := fun {c r} no ⟨o, e1, e2⟩ => by
    obtain ⟨sl, q⟩ := un.any e1 no (by simp)
    exact ⟨_, more _ _ q, e2⟩
  have noEx : ∀ b : Addr, b ∉ (lamCx1 X A outer t G lam f c' p).ex := fun b z => absurd (show b ∈ ([] : List Addr) from z) (by simp)
  have noCell : ∀ {y}, lam.names.lookup y ≠ some .cell := fun {y} e => L.cel _ (PySem.mem_of_lookup e) rfl
  refine { ok := { mod := env0.mod, kind := L.kind, glob := rfl, blt := rfl, above := Nat.le_refl _, inj := fun y z c e1 e2 => I.ok.inj y z c (fromX e1) (fromX e2), has := fun y hy => ?_, cab := fun y c z _ => ?_, hd := fun _ => calm, frames := Around.frames_deeper env0.frames, stk := .inr ⟨rfl, rfl⟩, exf := fun b z => absurd z (noEx b), bs := env0.bs, bsz := env0.bsz, noex := fun b _ _ => noEx b, exfs := fun b z => absurd z (noEx b), funs := env0.funs, frf := env0.frf }, os := rfl, bare := env0.bare, base := Un.kept more, loc := ⟨_, hns, fun i y v1 e1 e2 e3 => ?_⟩, cell := fun y c e => ?_, free := env0.hok.fresh (Nat.le_refl _), freeC := fun y c e => ?_, pin := fun q hq => absurd (show q ∈ ([] : List (Addr × Obj)) ++ [] from hq) (by simp), hok := env0.hok.kept more, len := ?_ }
  · have hy : lam.names.lookup y = some .cell ∨ lam.names.lookup y = some .free := hy
    exact hy.elim (fun k => absurd k noCell) inClo
  · have z : false = true := z
    cases z
  · have e1 : (X.N ++ [p])[i]? = some y := e1
    have e3 : Vis lam y := e3
    by_cases hi : i < X.N.length
    · rw [List.getElem?_append_left hi] at e1
      rw [List.getElem?_append_left (by rw [I.len]; exact hi)] at e2
      rcases e3 with k | k | k
      · exact absurd (by rw [← L.loc _ (PySem.mem_of_lookup k) rfl]; exact List.mem_of_getElem? e1) np
      · exact absurd k noCell
      · obtain ⟨m, _, hl⟩ := I.loc
        have two := L.fre _ (PySem.mem_of_lookup k) rfl
        obtain ⟨w', r, q⟩ := hl i y v1 e1 e2 (two.elim (fun k => .inr (.inl k)) fun k => .inr (.inr k))
        obtain ⟨c2, h2⟩ := inClo k
        refine ⟨w', r, .inr ⟨.inr k, c2, h2, ?_⟩⟩
        rcases q with ⟨kl, _⟩ | ⟨_, c3, g1, g2⟩
        · have kl : X.env.scope.names.lookup y = some .local := kl
          rcases two with k2 | k2 <;> rw [show X.env.scope.names.lookup y = _ from k2] at kl <;> cases kl
        · rw [fromX h2] at g1
          cases g1
          exact isCell (I.freeC y _ (fromX h2)) g2
    · have hi2 : i = X.N.length := by
        have := (List.getElem?_eq_some_iff.mp e1).1
        rw [List.length_append, List.length_singleton] at this
        omega
      subst hi2
      rw [List.getElem?_append_right (Nat.le_refl _), Nat.sub_self] at e1
      rw [← I.len, List.getElem?_append_right (Nat.le_refl _), Nat.sub_self] at e2
      obtain rfl : p = y := Option.some.inj e1
      obtain rfl : v = v1 := Option.some.inj (Option.some.inj e2)
      refine ⟨u, ru, .inl ⟨L.par, ?_⟩⟩
      show ([(p, u)] : List (Str × Value)).lookup p = some u
      rw [List.lookup_cons, beq_self_eq_true]
  · obtain ⟨w', z⟩ := I.cell y c (fromX e)
    exact ⟨w', isCell (I.freeC y c (fromX e)) z⟩
  · obtain ⟨r, o, g1, g2⟩ := I.cell y c (fromX e)
    exact un.free c o g1 (I.freeC y c (fromX e)) (by simp)
  · show (σ ++ [some v]).length = (X.N ++ [p]).length
    rw [List.length_append, List.length_append, I.len]
    rfl
/-- the callee's context -/
abbrev calleeCx (X : Cx) (s : Shared) (H : Hp) (Ng : List Str) (qg : Str) (sg : Scope) (g : Addr) (cdg : Value) : Cx := (cxOf C8.CX0 X.prog X.w X.K X.mg X.base Ng qg sg g cdg X.A X.stack s H C8.E0).nox
/-- x(e), x the lambda -/
theorem pe_act1 {Ng : List Str} {qg : Str} {sg : Scope} {g f c' : Addr} {cdg pm ctv : Value} {params : Arguments} {body : Expr} {lam : Scope} {p : Str} {k i : Nat} {a : Str} {tb : TE} {ta : TA} {e : Expr} {p1 p2 : Pos}
    (I : Inv X pins σ H s) (L : LamP X.env.scope lam p) (np : p ∉ X.N) (there : s.heap.get? f = some (PySem.W.kla_obj "<lambda>" (X.env.qual ++ "<lambda>") params body lam (cloFrom X.env.cells lam.names []) pm c' ctv)) (mine : H f = none) (noFr : f ∉ frs X.stack)
    (oneArg : ∀ u, bindArgs (PySem.W.kla_fn "<lambda>" (X.env.qual ++ "<lambda>") params body lam (cloFrom X.env.cells lam.names []) pm (.ref c') ctv) ⟨[u], []⟩ = pure [(p, u)])
    (room : Room (k + 1) (X.A.deeper (envOfC qg sg s.heap.objs.size g cdg))) (inner : ∀ (A : Around) (outer : List Env) (s : Shared) (H : Hp), Room k (A.deeper (lamEnv X lam s.heap.objs.size f c')) → PE (lamCx1 X A outer s H lam f c' p) body tb)
    (at_ : Ng[i]? = some a) (vis : Vis sg a) (ha : PA (calleeCx X s H Ng qg sg g cdg) [e] ta) (hd : (a == ("__debug__" : Str)) = false := by decide) (hcd : (a == ("__classdict__" : Str)) = false := by decide)
    (he : starEach [e] (calleeCx X s H Ng qg sg g cdg).env = (false, eval e (calleeCx X s H Ng qg sg g cdg).env) :: starEach [] (calleeCx X s H Ng qg sg g cdg).env := by rfl) :
    PE (calleeCx X s H Ng qg sg g cdg) (.Call (.Name a p1) [e] [] p2) (fun τ G0 Q => τ[i]? = some (some (.ref f)) ∧ ta τ G0 fun vs G1 => ∃ v, vs = [v] ∧ G1 c' = some (CodeO c' (X.env.qual ++ "<lambda>")) ∧ tb (σ ++ [some v]) G1 Q) := by
  refine ⟨fun pinsG sG τ G0 Q J ⟨h1, h2⟩ => wpAny_Call_Name_kw (thn ((pe_var (pos := p1) (i := i) at_ vis hd hcd).run pinsG sG τ G0 (fun v G1 => v = .ref f ∧ G1 = G0) J ⟨.ref f, h1, rfl, rfl⟩) fun u s1 z => ?_)⟩
  obtain ⟨v, G1, J1, ru, rfl, rfl⟩ := z
  obtain rfl : u = Value.ref f := ru
  have stays : ∀ {pinsG τ G s1}, Inv (calleeCx X s H Ng qg sg g cdg) pinsG τ G s1 → s1.heap.get? f = some (PySem.W.kla_obj "<lambda>" (X.env.qual ++ "<lambda>") params body lam (cloFrom X.env.cells lam.names []) pm c' ctv) := fun J => J.base.keep f _ there mine noFr fun z => (nomatch (show f ∈ ([] : List Addr) from z))
  refine PySem.W.callWith_F (first := []) ⟨_, _, _, _, stays J1⟩ (thn (ha.run p2 pinsG s1 τ _ _ J1 h2) fun us s2 z => ?_) he rfl
  obtain ⟨vs, G2, J2, r, v, rfl, cd, hq⟩ := z
  refine ⟨⟨_, _, _, _, stays J2⟩, ?_⟩
  obtain ⟨u, rfl, ru⟩ := vals1 r
  have lamO := stays J2
  have un : Un (frs X.stack) [] H G2 s.heap s2.heap := J2.base
  obtain ⟨⟨oc, ws, tt, o1, o2, o3⟩, _, _⟩ := J2.hok c' _ cd
  have run : codeAny (model X.prog X.w) (X.A.deeper (envOfC qg sg s.heap.objs.size g cdg)) (.call (.ref f) ⟨[u], []⟩) (CR (L2.CX X.prog X.w) (envOfC qg sg s.heap.objs.size g cdg :: X.stack) X.prog X.w G2 s2 Q L2.E0) s2 := by
    refine PySem.W.kla_callFunE room.depth lamO rfl L.co L.gen rfl ⟨c', oc, ws, tt, rfl, o1, o2, o3⟩ ?_
    rw [oneArg u]
    refine wpAny_pure (wpAny_newFunctionEnv (fun y hy => L.cel y hy) (fun y hy => ?_) (fun h₁ hns hsb => ⟨J2.nolimit.fresh _ hsb, ?_⟩) L.kind)
    · obtain rfl := List.mem_singleton.mp hy
      exact L.par
    show codeAny _ _ (.expr body (lamEnv X lam s2.heap.objs.size f c')) _ _
    have start := lam_start1 (A := X.A.deeper (envOfC qg sg s.heap.objs.size g cdg)) (outer := envOfC qg sg s.heap.objs.size g cdg :: X.stack) (f := f) (c' := c') (tk := s2.toks + ([(p, u)] : List (Str × Value)).length) I L np J2.env0 room.hd un ru hns
      (fun b o e => hsb.extBut b o (Nat.ne_of_lt (Heap.lt_size e)) (Heap.get?_push_of_some _ e))
    refine PySem.W.kla_codeExpr (wpAny_mono ((inner _ _ s2 G2 (room.deeper _)).run [] _ _ G2 Q start hq) (fun v s' ⟨w', H', J', rv, q⟩ => ?_) fun e s' hq => hq)
    exact ⟨w', H', J'.os, J'.bare, J'.base, J'.hok, rv, q⟩
  have ps : Passes (L2.CX X.prog X.w) (calleeCx X s H Ng qg sg g cdg) L2.E0 := passes_call (W := fun _ _ _ _ => False) takes0 (fun _ _ _ _ h => h)
  show wpAny _ _ (call (.ref f) [u]) _ _ _
  refine wpAny_call (codeAny_mono run fun r s' hq => ?_)
  match r, hq with
  | .error e, hq => exact ps pinsG τ G2 s2 e s' J2 hq
  | .ok (.ret u), hq => exact J2.after hq
  | .ok .next, hq => exact False.elim hq
  | .ok .brk, hq => exact False.elim hq
  | .ok .cont, hq => exact False.elim hq
end
end Gk
/-! x(e, lambda p: ..), x a def that calls what it got with one value -/
namespace Gk
open PySem PySem.Spec PyProof.Rows L2 LamX
/-- what the callee does with a value and a thing that can be called: TT -/
def GivesP (X : Cx) (Ng : List Str) (x : Str) (sg : Scope) (g : Addr) (cdg : Value) (bg : List Stmt) (n : Nat) (a : Str) (q : Str) (TT : V → (V → Hp → VK → Prop) → Hp → VK → Prop) : Prop :=
  ∀ (f c' : Addr) (s : Shared) (H : Hp) (Q : VK) (v1 : V) (tl : V → Hp → VK → Prop), Room n (calleeCx X s H Ng x sg g cdg).A →
    (∀ (p1 p2 : Pos) (e : Expr) (ta : TA), PA (calleeCx X s H Ng x sg g cdg) [e] ta → starEach [e] (calleeCx X s H Ng x sg g cdg).env = (false, eval e (calleeCx X s H Ng x sg g cdg).env) :: starEach [] (calleeCx X s H Ng x sg g cdg).env →
      PE (calleeCx X s H Ng x sg g cdg) (.Call (.Name a p1) [e] [] p2) (fun τ G0 Q => τ[1]? = some (some (.ref f)) ∧ ta τ G0 fun vs G1 => ∃ v, vs = [v] ∧ G1 c' = some (CodeO c' q) ∧ tl v G1 Q)) →
    H c' = some (CodeO c' q) → TT v1 tl H Q → ∃ t, PSs (calleeCx X s H Ng x sg g cdg) bg t ∧ t { nx := fun _ H' => Q .non H', rt := Q } (L2.start Ng [v1, .ref f]) H
def tLam1 (T : List (Addr × Str)) (TT : V → (V → Hp → VK → Prop) → Hp → VK → Prop) (t1 : TE) (tb : TE) : TE := fun σ H Q => t1 σ H fun v1 H0 => Tabs T H0 ∧ ∀ H1, ExtN H0 H1 → Tabs T H1 → TT v1 (fun v G Q' => tb (σ ++ [some v]) G Q') H1 Q
theorem pe_lamcall1 {X : Cx} {T : List (Addr × Str)} {TT : V → (V → Hp → VK → Prop) → Hp → VK → Prop} {x a0 a pr : Str} {g c P : Addr} {k : Nat} {st : Stmt} {fd : FuncData} {Ng : List Str} {params : Arguments} {body e1 : Expr} {lam : Scope} {t1 tb : TE} {p lpos pos : Pos}
    (hg : Gl X x) (hm : X.mg x = some (.ref g)) (F : L2.Fun X.K x x st g fd) (hb : L2.Binds X.K fd [a0, a] []) (Sg : FnScope Ng [a0, a] (defScope st)) (at_ : Ng[1]? = some a) (vis : Vis (defScope st) a) (hG : ∀ cdv, GivesP X Ng x (defScope st) g cdv (defBody st) (k + 1) a (X.env.qual ++ "<lambda>") TT)
    (h1 : PE X e1 t1) (TB : TabB X.base X.mg c P) (hcode : X.env.code = .ref c) (inT : (P, X.env.qual ++ "<lambda>") ∈ T) (one : ∀ p ∈ T, p.1 = P → p.2 = X.env.qual ++ "<lambda>") (room : Room (k + 2) X.A) (L : LamP X.env.scope lam pr) (np : pr ∉ X.N) (hdef : defaultsOf params X.env = ([], []))
    (oneArg : ∀ (q : Str) (cl : List (Str × Addr)) (pm cv ctv u : Value), bindArgs (PySem.W.kla_fn "<lambda>" q params body lam cl pm cv ctv) ⟨[u], []⟩ = pure [(pr, u)]) (inner : ∀ (A : Around) (outer : List Env) (s : Shared) (H : Hp) (f c' : Addr), Room k (A.deeper (lamEnv X lam s.heap.objs.size f c')) → PE (lamCx1 X A outer s H lam f c' pr) body tb)
    (he : starEach [e1, .Lambda params body lam lpos] X.env = (false, eval e1 X.env) :: starEach [.Lambda params body lam lpos] X.env := by rfl)
    (hdb : (x == ("__debug__" : Str)) = false := by decide) (hd : (a == ("__debug__" : Str)) = false := by decide) (hcd : (a == ("__classdict__" : Str)) = false := by decide) : PE X (.Call (.Name x p) [e1, .Lambda params body lam lpos] [] pos) (tLam1 T TT t1 tb) := by
  obtain ⟨oc, od, kV, doc, pm, an, cdv, ct, osl, rfl, lk, hcg⟩ := F.ex
  refine ⟨fun pins s σ H Q I h => wpAny_Call_Name_kw (ld_glob I hg hm (PySem.W.callWith_K (h₀ := X.base) I.ok.mod.kin F.kp ?_ he (by rfl)) hdb)⟩
  rw [he]
  show wpAny _ _ (spliced ((false, eval e1 X.env) :: backTo pos (starEach [.Lambda params body lam lpos] X.env))) _ _ s
  refine Calls.spliced_cons (thn (h1.run pins s σ H _ I h) fun u1 s0 ⟨v1, H0, I0, r1, hT, q⟩ => ?_)
  show wpAny _ _ (spliced ((false, eval (.Lambda params body lam lpos) X.env) :: backTo pos (starEach [] X.env))) _ _ s0
  have frees : ∀ z ∈ lam.names, z.2 = .free → ∃ c, X.env.cells.lookup z.1 = some c := fun z hz e => L.has I0.ok z hz e
  refine Calls.spliced_cons (lam_make2 I0 TB hcode inT one hT hdef frees fun f c' pm' ctv H1 s' I1 eN T1 hf hfn hfr hco => Calls.spliced_nil ⟨I1.kIn, wpAny_call (codeAny_mono (R := CR C8.CX0 X.stack X.prog X.w H1 s' Q C8.E0) ?_ fun r s2 hq => ?_)⟩)
  · refine run_ofS (N := Ng) (ps := [a0, a]) (us := [u1, .ref f]) (vs := [v1, .ref f]) lk hcg Sg room I1.env0 (hb s' [u1, .ref f] I1.kIn rfl) (.cons r1 (.cons rfl .nil)) rfl fun hr' => ?_
    obtain ⟨t', ht', hq'⟩ := hG cdv f c' s' H1 Q v1 (fun v G Q' => tb (σ ++ [some v]) G Q') hr' (fun p1 p2 e ta ha hse => pe_act1 (i := 1) I1 L np hf hfn hfr (fun u => oneArg _ _ _ _ _ u) hr' (fun A outer s H room => inner A outer s H f c' room) at_ vis ha hd hcd hse) hco (q H1 eN T1)
    exact ⟨t', ht'.nox, hq'⟩
  · match r, hq with
    | .error e, hq => exact (show False from hq).elim
    | .ok (.ret u), hq => exact I1.after hq
    | .ok .next, hq => exact False.elim hq
    | .ok .brk, hq => exact False.elim hq
    | .ok .cont, hq => exact False.elim hq
end Gk
namespace Pf
open PySem PySem.Spec PyProof.Rows L2 Gk Fold
/-! ### trials -/
abbrev sKeptI : Stmt := inClass (topS 35) 0
abbrev sTrialI : Stmt := inClass (topS 38) 0
abbrev sEnter : Stmt := inClass (topS 38) 1
abbrev sExit : Stmt := inClass (topS 38) 2
abbrev sTried : Stmt := topS 39
abbrev nKeptI : List Str := ["self", "memory", "outer"]
abbrev nExit : List Str := ["self", "kind", "value", "trace"]
abbrev nTried : List Str := ["predictor", "look", "held"]
theorem scKeptI : FnScope nKeptI nKeptI (defScope sKeptI) := ⟨rfl, rfl, rfl, by decide +kernel, rfl, by decide +kernel, by decide +kernel⟩
theorem scTrialI : FnScope ["self", "predictor"] ["self", "predictor"] (defScope sTrialI) := ⟨rfl, rfl, rfl, by decide +kernel, rfl, by decide +kernel, by decide +kernel⟩
theorem scEnter : FnScope ["self", "memory"] ["self"] (defScope sEnter) := ⟨rfl, rfl, rfl, by decide +kernel, rfl, by decide +kernel, by decide +kernel⟩
theorem scExit : FnScope nExit nExit (defScope sExit) := ⟨rfl, rfl, rfl, by decide +kernel, rfl, by decide +kernel, by decide +kernel⟩
theorem scTried : FnScope nTried ["predictor", "look"] (defScope sTried) := ⟨rfl, rfl, rfl, by decide +kernel, rfl, by decide +kernel, by decide +kernel⟩
def keF (m v : V) : List (Str × V) := [("memory", m), ("outer", v)]
def trF (p v : V) : List (Str × V) := [("_predictor", p), ("_kept", v)]
theorem keF_m (m v : V) : (keF m v).lookup ("memory" : Str) = some m := rfl
theorem keF_o (m v : V) : (keF m v).lookup ("outer" : Str) = some v := rfl
theorem trF_p (p v : V) : (trF p v).lookup ("_predictor" : Str) = some p := rfl
theorem trF_k (p v : V) : (trF p v).lookup ("_kept" : Str) = some v := rfl
theorem trF_put (p v u : V) : putF "_kept" u (trF p v) = trF p u := by
  unfold trF
  rw [putF_ne (by decide +kernel), putF_eq]
theorem prF_put (c g m m' : Addr) : putF "_memory" (.ref m') (prF c g m) = prF c g m' := by
  unfold prF
  rw [putF_ne (by decide +kernel), putF_ne (by decide +kernel), putF_eq]
structure TKept (K : PySem.W.Frag) (mg : Str → Option Value) (C : Addr) : Prop where
  cl : Cls K C
  n0 : NoAttr K C "memory"
  n1 : NoAttr K C "outer"
  mgC : mg "Kept" = some (.ref C)
structure TTrial (K : PySem.W.Frag) (mg : Str → Option Value) (C : Addr) : Prop where
  cl : Cls K C
  n0 : NoAttr K C "_predictor"
  n1 : NoAttr K C "_kept"
  mgC : mg "Trial" = some (.ref C)
section
variable {P : Program} {w : World} {K : PySem.W.Frag} {mg : Str → Option Value} {base : Heap}
def spKeptI (C : Addr) : Sp := fun vs H Q _ => ∃ (p dx : Addr) (m v : V), vs = [.ref p, m, v] ∧ H p = some (.ins C dx []) ∧ Q .non (upd H p (.ins C dx (keF m v)))
theorem ok_keptI {f C : Addr} {fd : FuncData} (T : TKept K mg C) (F : L2.Fun K "__init__" "Kept.__init__" sKeptI f fd) : FnOk P w K mg base L2.CX0 1 f fd nKeptI (spKeptI C) := by
  refine F.ok scKeptI (fun vs H Q E h => ?_) (fun cdv A outer s H vs Q E hr h => ?_)
  · obtain ⟨p, dx, m, v, rfl, _⟩ := h
    rfl
  · obtain ⟨p, dx, m, v, rfl, hp, q⟩ := h
    refine ⟨_, pss_cons (ps_fld (pv 0) (pv 1) rfl) (pss_one (ps_fld (pv 0) (pv 2) rfl)), ?_⟩
    refine ⟨_, rfl, _, rfl, p, C, dx, [], rfl, hp, T.cl, T.n0, by show 0 < 1000; decide, ?_⟩
    rw [putF_nil]
    refine ⟨_, rfl, _, rfl, p, C, dx, _, rfl, upd_same, T.cl, T.n1, by show 1 < 1000; decide, ?_⟩
    rw [L2.upd_upd, putF_ne (by decide +kernel), putF_nil]
    exact q
def spTrialI (K : PySem.W.Frag) (CT CP : Addr) : Sp := fun vs H Q _ => ∃ (t dt p dp : Addr) (fs : List (Str × V)), vs = [.ref t, .ref p] ∧ H t = some (.ins CT dt []) ∧ H p = some (.ins CP dp fs) ∧ Q .non (upd H t (.ins CT dt (trF (.ref p) .non)))
theorem ok_trialI {f CT CP : Addr} {fd : FuncData} (TT : TTrial K mg CT) (T : TPr K mg CP) (TI : IsP K CP) (mis : mg "isinstance" = none) (F : L2.Fun K "__init__" "Trial.__init__" sTrialI f fd) : FnOk P w K mg base L2.CX0 1 f fd ["self", "predictor"] (spTrialI K CT CP) := by
  refine F.ok scTrialI (fun vs H Q E h => ?_) (fun cdv A outer s H vs Q E hr h => ?_)
  · obtain ⟨t, dt, p, dp, fs, rfl, _⟩ := h
    rfl
  · obtain ⟨t, dt, p, dp, fs, rfl, ht, hp, q⟩ := h
    refine ⟨_, pss_cons (ps_if (pt_not (pt_val (pe_callB call_isi (by rfl) mis isi_is7 (pa_cons (pv 1) (pa_cons (pe_glob (v := .ref CP) (by rfl) T.mgC rfl) pa_nil))))) (pss_one ps_dead) pss_nil)
      (pss_cons (ps_fld (pv 0) (pv 1) rfl) (pss_one (ps_fld (pv 0) pe_non rfl))), ?_⟩
    have c := TI.ins
    refine ⟨.ref p, rfl, .ref p, .ref CP, .ref CP, .ref CP, true, rfl, .own CP, .base (.ins hp c.cl c.ha c.hn c.htk c.hm), c.me, true, rfl, iteF ?_⟩
    refine ⟨_, rfl, _, rfl, t, CT, dt, [], rfl, ht, TT.cl, TT.n0, by show 0 < 1000; decide, ?_⟩
    rw [putF_nil]
    refine ⟨_, rfl, t, CT, dt, _, rfl, upd_same, TT.cl, TT.n1, by show 1 < 1000; decide, ?_⟩
    rw [L2.upd_upd, putF_ne (by decide +kernel), putF_nil]
    exact q
variable {CM CS CP CT CK : Addr} {H H' : Hp} {r : Pd} {ps : List (Int × Int)}
/-- an instance with two fields is none of a predictor's things -/
theorem Led.offI (L : Led P w K CM CS CP H r ps) {t C d : Addr} {a b : Str × V} (e : H t = some (.ins C d [a, b])) : ∀ x, (x = r.p ∨ x = r.m ∨ x = r.st ∨ x = r.hd ∨ x = r.cd) → x ≠ t := by
  obtain ⟨⟨⟨a1, _, _, _, _, _, _, _, ⟨b1, b2, ⟨kvs, b3, _⟩, b6, _⟩, _⟩, _⟩, _⟩ := L
  rintro x (rfl | rfl | rfl | rfl | rfl) z
  · rw [z, e] at a1
    have q := Option.some.inj a1
    unfold prF at q
    cases q
  · rw [z, e] at b1
    have q := Option.some.inj b1
    unfold memF at q
    cases q
  · rw [z, e] at b2; cases b2
  · rw [z, e] at b3
    have q := Option.some.inj b3
    unfold dN at q
    cases q
  · rw [z] at b6
    rcases b6 with ⟨_, _, g, _⟩ | ⟨_, _, g, _⟩ <;> rw [e] at g <;> cases g
/-- such an instance changes -/
theorem Led.ins2 (L : Led P w K CM CS CP H r ps) {t C d : Addr} {a b : Str × V} (e : H t = some (.ins C d [a, b])) (k : ∀ x u, x ≠ t → H x = some u → H' x = some u) : Led P w K CM CS CP H' r ps :=
  L.mv (fun x hx u hu _ => k x u (L.offI e x hx) hu) (keep_ins e fun x u n h => k x u n h) (fun x d' pr wr ow oh pl ov h => k x _ (fun z => by
    rw [z, e] at h
    have q := Option.some.inj h
    unfold stepF at q
    cases q) h) fun x ts h => k x _ (fun z => by rw [z, e] at h; cases h) h
/-- the trial begins: the predictor gets a copy of its memory -/
def spEnter (P : Program) (w : World) (K : PySem.W.Frag) (CM CS CP CT CK : Addr) : Sp := fun vs H Q _ => ∃ (t dt : Addr) (r : Pd) (ps : List (Int × Int)), vs = [.ref t] ∧ H t = some (.ins CT dt (trF (.ref r.p) .non)) ∧ Led P w K CM CS CP H r ps ∧ ps.length ≤ 90000 ∧ r.many ≤ 90000 ∧
  ∀ H' (o : Pd) kk dk, (∀ a u, a ≠ t → a ≠ r.p → H a = some u → H' a = some u) → H' t = some (.ins CT dt (trF (.ref r.p) (.ref kk))) → H' kk = some (.ins CK dk (keF (.ref r.m) .non)) → H' r.p = some (.ins CP r.dp (prF r.c r.g o.m)) → o.p = r.p → o.par = r.par → o.many = r.many →
    (∀ a, (a = o.m ∨ a = o.st ∨ a = o.hd ∨ a = o.cd) → H a = none ∧ a ≠ kk) → Led P w K CM CS CP H' o ps → Q (.ref r.p) H'
theorem ok_enter {f fI fC : Addr} {fd fdI fdC : FuncData} (TT : TTrial K mg CT) (TK : TKept K mg CK) (T : TPr K mg CP) (TM : TMem K mg CM) (MKk : Mk K CK fI) (GI : FnOk P w K mg base L2.CX0 1 fI fdI nKeptI (spKeptI CK)) (bI : Binds K fdI nKeptI [])
    (mC : Meth K CM "copied" fC) (GC : FnOk P w K mg base L2.CX0 3 fC fdC ["self"] (spCopied P w CM)) (bC : Binds K fdC ["self"] [])
    (F : L2.Fun K "__enter__" "Trial.__enter__" sEnter f fd) : FnOk P w K mg base L2.CX0 4 f fd ["self"] (spEnter P w K CM CS CP CT CK) := by
  refine F.ok scEnter (fun vs H Q E h => ?_) (fun cdv A outer s H vs Q E hr h => ?_)
  · obtain ⟨t, dt, r, ps, rfl, _⟩ := h
    rfl
  · obtain ⟨t, dt, r, ps, rfl, ht, L, pl, ml, q⟩ := h
    refine ⟨_, pss_cons (ps_set (i := 1) scEnter.nd rfl (.inl rfl) (pe_fld (pe_fld (pv 0) rfl) rfl))
      (pss_cons (ps_fld (pv 0) (pe_make MKk GI (hr.mono (by decide)) (by rfl) TK.mgC bI .nil pass0 (pa_cons (pv 1) (pa_cons (pe_fld (pv 0) rfl) pa_nil))) rfl)
      (pss_cons (ps_fld (pe_fld (pv 0) rfl) (pe_meth0 (pv 1) TM.cl mC GC (hr.mono (by decide)) bC .nil pass0) rfl)
      (pss_one (ps_ret (pe_fld (pv 0) rfl))))), ?_⟩
    have R := L.pr
    refine ⟨_, rfl, t, CT, dt, _, _, rfl, ht, TT.cl, TT.n0, trF_p _ _, r.p, CP, r.dp, _, _, rfl, R.1.hpr, T.cl, T.n2, prF_memory _ _ _, go_name ?_⟩
    refine ⟨_, rfl, _, rfl, t, CT, dt, _, _, rfl, ht, TT.cl, TT.n1, trF_k _ _, ?_⟩
    intro kk dk nk ndk nex
    have s1 : Same H (upd (upd (upd H dk (.own kk)) kk (.ins CK dk [])) kk (.ins CK dk (keF (.ref r.m) .non))) := fun b o e => by rw [upd_ne (ne_of_none e nk), upd_ne (ne_of_none e nk), upd_ne (ne_of_none e ndk)]; exact e
    have k1 : (upd (upd (upd H dk (.own kk)) kk (.ins CK dk [])) kk (.ins CK dk (keF (.ref r.m) .non))) kk = some (.ins CK dk (keF (.ref r.m) .non)) := upd_same
    refine ⟨kk, dk, .ref r.m, .non, rfl, upd_same, rfl, ?_⟩
    generalize upd (upd (upd H dk (.own kk)) kk (.ins CK dk [])) kk (.ins CK dk (keF (.ref r.m) .non)) = H1 at s1 k1 ⊢
    have ht1 := s1 _ _ ht
    have tk : kk ≠ t := fun z => by rw [← z, nk] at ht; cases ht
    refine ⟨_, rfl, t, CT, dt, _, rfl, ht1, TT.cl, TT.n1, by show 2 < 1000; decide, ?_⟩
    rw [trF_put]
    have ht2 : (upd H1 t (.ins CT dt (trF (.ref r.p) (.ref kk)))) t = some (.ins CT dt (trF (.ref r.p) (.ref kk))) := upd_same
    have k12 : ∀ x u, x ≠ t → H1 x = some u → (upd H1 t (.ins CT dt (trF (.ref r.p) (.ref kk)))) x = some u := fun x u n e => by rw [upd_ne n]; exact e
    have L2' : Led P w K CM CS CP (upd H1 t (.ins CT dt (trF (.ref r.p) (.ref kk)))) r ps := (L.same s1).ins2 ht1 k12
    generalize upd H1 t (.ins CT dt (trF (.ref r.p) (.ref kk))) = H2 at ht2 k12 L2'
    have R2 := L2'.pr
    obtain ⟨i1, i2, i3, i4, i5⟩ := ms_inv r.par _ ps rfl
    have ek : r.ks = (msOf r.par ps).ks := congrArg Ms.ks L.ms
    refine ⟨_, rfl, r.m, r.dx, _, rfl, R2.1.mem.hob, rfl, r.m, r.dx, r.st, r.hd, r.cd, r.k, r.steps, r.hs, r.z.toNat, r.cs, r.ks, r.n, r.many, rfl, R2.1.mem, by rw [ek]; exact i2, by rw [L.st.1]; omega, by omega, fun H3 m' dx' st' hd' cd' s3 nm nst nhd ncd mem => ?_⟩
    have L3 := L2'.same s3
    have R3 := L3.pr
    have ht3 := s3 _ _ ht2
    have pt : r.p ≠ t := L2'.offI ht2 _ (.inl rfl)
    refine ⟨_, rfl, t, CT, dt, _, _, rfl, ht3, TT.cl, TT.n0, trF_p _ _, r.p, CP, r.dp, _, rfl, R3.1.hpr, T.cl, T.n2, by show 3 < 1000; decide, ?_⟩
    rw [prF_put]
    have p3 := R3.1.hpr
    have p2 := R2.1.hpr
    have k34 : ∀ x u, x ≠ r.p → H3 x = some u → (upd H3 r.p (.ins CP r.dp (prF r.c r.g m'))) x = some u := fun x u n e => by rw [upd_ne n]; exact e
    have p4 : (upd H3 r.p (.ins CP r.dp (prF r.c r.g m'))) r.p = some (.ins CP r.dp (prF r.c r.g m')) := upd_same
    generalize upd H3 r.p (.ins CP r.dp (prF r.c r.g m')) = H4 at k34 p4
    have ht4 := k34 _ _ pt.symm ht3
    have hk2 := k12 _ _ tk k1
    have kp : kk ≠ r.p := fun z => by
      have h := R.1.hpr
      rw [← z, nk] at h
      cases h
    have hk4 := k34 _ _ kp (s3 _ _ hk2)
    have pm : r.p ≠ m' := ne_of_none p2 nm
    have pst : r.p ≠ st' := ne_of_none p2 nst
    have phd : r.p ≠ hd' := ne_of_none p2 nhd
    have pcd : r.p ≠ cd' := ne_of_none p2 ncd
    have k34K : Keep K H3 H4 := keep_ins p3 k34
    have none0 : ∀ {a : Addr}, H2 a = none → H a = none ∧ a ≠ kk := fun {a} h => by
      refine ⟨?_, fun z => by rw [z, hk2] at h; cases h⟩
      cases e : H a with
      | none => rfl
      | some u =>
        by_cases n : a = t
        · rw [n, ht2] at h; cases h
        · rw [k12 _ _ n (s1 _ _ e)] at h; cases h
    refine ⟨_, rfl, t, CT, dt, _, _, rfl, ht4, TT.cl, TT.n0, trF_p _ _, ?_⟩
    refine q H4 { r with m := m', dx := dx', st := st', hd := hd', cd := cd' } kk dk (fun a u n1 n2 e => k34 _ _ n2 (s3 _ _ (k12 _ _ n1 (s1 _ _ e)))) ht4 hk4 p4 rfl rfl rfl (fun a ha => ?_) ?_
    · rcases ha with rfl | rfl | rfl | rfl
      · exact none0 nm
      · exact none0 nst
      · exact none0 nhd
      · exact none0 ncd
    · obtain ⟨b1, b2, ⟨kvs, b3, b4, b5⟩, b6, b7, b8, b9, b10⟩ := mem
      refine ⟨⟨⟨p4, k34K _ _ R3.1.hsc, R3.1.okp, k34K _ _ R3.1.hga, R3.1.w1, R3.1.w4, R3.1.v1, R3.1.v2, ⟨k34 _ _ pm.symm b1, k34 _ _ pst.symm b2, ⟨kvs, k34 _ _ phd.symm b3, b4, b5⟩, b6.same fun u e => k34 _ _ pcd.symm e, b7, b8, b9, b10⟩, pm⟩, R3.2⟩, L3.ms, ?_, L3.fair⟩
      refine L3.st.keep k34K (fun x d pr wr ow oh pl ov h => k34 x _ (fun z => by
        rw [z, p3] at h
        have q := Option.some.inj h
        unfold stepF prF at q
        cases q) h) fun x ts h => k34 x _ (fun z => by rw [z, p3] at h; cases h) h
/-- the trial ends: the predictor gets its memory back -/
def spExit (CP CT CK : Addr) : Sp := fun vs H Q _ => ∃ (t dt p dp c g m m0 kk dk : Addr), vs = [.ref t, .non, .non, .non] ∧ p ≠ t ∧ H t = some (.ins CT dt (trF (.ref p) (.ref kk))) ∧ H kk = some (.ins CK dk (keF (.ref m0) .non)) ∧ H p = some (.ins CP dp (prF c g m)) ∧ kk ≠ p ∧
  Q .non (upd (upd H p (.ins CP dp (prF c g m0))) t (.ins CT dt (trF (.ref p) .non)))
theorem ok_exit {f : Addr} {fd : FuncData} (TT : TTrial K mg CT) (TK : TKept K mg CK) (T : TPr K mg CP) (F : L2.Fun K "__exit__" "Trial.__exit__" sExit f fd) : FnOk P w K mg base L2.CX0 1 f fd nExit (spExit CP CT CK) := by
  refine F.ok scExit (fun vs H Q E h => ?_) (fun cdv A outer s H vs Q E hr h => ?_)
  · obtain ⟨t, dt, p, dp, c, g, m, m0, kk, dk, rfl, _⟩ := h
    rfl
  · obtain ⟨t, dt, p, dp, c, g, m, m0, kk, dk, rfl, pt, ht, hk, hp, kp, q⟩ := h
    refine ⟨_, pss_cons (ps_fld (pe_fld (pv 0) rfl) (pe_fld (pe_fld (pv 0) rfl) rfl) rfl) (pss_one (ps_fld (pv 0) (pe_fld (pe_fld (pv 0) rfl) rfl) rfl)), ?_⟩
    refine ⟨_, rfl, t, CT, dt, _, _, rfl, ht, TT.cl, TT.n1, trF_k _ _, kk, CK, dk, _, _, rfl, hk, TK.cl, TK.n0, keF_m _ _, ?_⟩
    refine ⟨_, rfl, t, CT, dt, _, _, rfl, ht, TT.cl, TT.n0, trF_p _ _, p, CP, dp, _, rfl, hp, T.cl, T.n2, by show 3 < 1000; decide, ?_⟩
    rw [prF_put]
    have ht1 : (upd H p (.ins CP dp (prF c g m0))) t = some (.ins CT dt (trF (.ref p) (.ref kk))) := by rw [upd_ne pt.symm]; exact ht
    have hk1 : (upd H p (.ins CP dp (prF c g m0))) kk = some (.ins CK dk (keF (.ref m0) .non)) := by rw [upd_ne kp]; exact hk
    refine ⟨_, rfl, t, CT, dt, _, _, rfl, ht1, TT.cl, TT.n1, trF_k _ _, kk, CK, dk, _, _, rfl, hk1, TK.cl, TK.n1, keF_o _ _, ?_⟩
    refine ⟨_, rfl, t, CT, dt, _, rfl, ht1, TT.cl, TT.n1, by show 2 < 1000; decide, ?_⟩
    rw [trF_put]
    exact q
end
/-- tried(r, x): tl is what x does -/
def TTried (P : Program) (w : World) (K : PySem.W.Frag) (CM CS CP : Addr) : V → (V → Hp → VK → Prop) → Hp → VK → Prop := fun v1 tl H Q => ∃ (r : Pd) (ps : List (Int × Int)), v1 = .ref r.p ∧ Led P w K CM CS CP H r ps ∧ ps.length ≤ 90000 ∧ r.many ≤ 90000 ∧
  ∀ H2 (o : Pd) (Q2 : VK), (∀ a u, a ≠ r.p → H a = some u → H2 a = some u) → o.p = r.p → o.par = r.par → o.many = r.many → (∀ a, (a = o.m ∨ a = o.st ∨ a = o.hd ∨ a = o.cd) → H a = none) → Led P w K CM CS CP H2 o ps →
    (∀ v H3, Oth o H2 H3 → (∀ H4, Same H H4 → Q v H4) → Q2 v H3) → tl (.ref r.p) H2 Q2
theorem tried_gives {X : Cx} {CM CS CP CT CK fI fE fX g : Addr} {fdI fdE fdX : FuncData} {q : Str} (TT : TTrial X.K X.mg CT) (T : TPr X.K X.mg CP) (MT : Mk X.K CT fI) (GI : FnOk X.prog X.w X.K X.mg X.base L2.CX0 1 fI fdI ["self", "predictor"] (spTrialI X.K CT CP)) (bI : Binds X.K fdI ["self", "predictor"] [])
    (iE : PySem.W.findIn X.K (.ref CT) "__enter__" = some (some (.ref fE))) (kE : PySem.W.isFn X.K (.ref fE) = true) (GE : FnOk X.prog X.w X.K X.mg X.base L2.CX0 4 fE fdE ["self"] (spEnter X.prog X.w X.K CM CS CP CT CK)) (bE : Binds X.K fdE ["self"] [])
    (iX : PySem.W.findIn X.K (.ref CT) "__exit__" = some (some (.ref fX))) (kX : PySem.W.isFn X.K (.ref fX) = true) (GX : FnOk X.prog X.w X.K X.mg X.base L2.CX0 1 fX fdX nExit (spExit CP CT CK)) (bX : Binds X.K fdX nExit []) :
    ∀ cdg, GivesP X nTried "tried" (defScope sTried) g cdg (defBody sTried) 6 "look" q (TTried X.prog X.w X.K CM CS CP) := by
  intro cdg f c' s H Q v1 tl room act hc h
  obtain ⟨r, ps, rfl, L, pl, ml, q⟩ := h
  refine ⟨_, pss_one (ps_with (fun _ _ z => z) iE kE GE bE iX kX GX bX (room.mono (by decide)) (room.mono (by decide)) (pe_make MT GI (room.mono (by decide)) (by rfl) TT.mgC bI .nil pass0 (pa_cons (pv 0) pa_nil)) (pg_name (i := 2) scTried.nd rfl (.inl rfl))
    (pss_one (ps_ret (act _ _ _ _ (pa_cons (pv 2) pa_nil) (by rfl))))), ?_⟩
  refine ⟨_, rfl, ?_⟩
  intro t dt nt ndt nex
  have hpr := L.pr.1.hpr
  have tp : t ≠ r.p := fun z => by rw [← z, nt] at hpr; cases hpr
  have s1 : Same H (upd (upd (upd H dt (.own t)) t (.ins CT dt [])) t (.ins CT dt (trF (.ref r.p) .non))) := fun b o e => by rw [upd_ne (ne_of_none e nt), upd_ne (ne_of_none e nt), upd_ne (ne_of_none e ndt)]; exact e
  have s0 : Same H (upd (upd H dt (.own t)) t (.ins CT dt [])) := fun b o e => by rw [upd_ne (ne_of_none e nt), upd_ne (ne_of_none e ndt)]; exact e
  have ht1 : (upd (upd (upd H dt (.own t)) t (.ins CT dt [])) t (.ins CT dt (trF (.ref r.p) .non))) t = some (.ins CT dt (trF (.ref r.p) .non)) := upd_same
  refine ⟨t, dt, r.p, r.dp, _, rfl, upd_same, s0 _ _ hpr, rfl, t, dt, _, rfl, ht1, ?_⟩
  generalize upd (upd (upd H dt (.own t)) t (.ins CT dt [])) t (.ins CT dt (trF (.ref r.p) .non)) = H1 at s1 ht1 ⊢
  refine ⟨t, dt, r, ps, rfl, ht1, L.same s1, pl, ml, fun H2 o kk dk k12 ht2 hk2 hp2 op opar om new Lo => go_name ?_⟩
  have hc1 := s1 _ _ hc
  have ct : c' ≠ t := fun z => by rw [z, ht1] at hc1; have q := Option.some.inj hc1; unfold LamX.CodeO at q; cases q
  have cp : c' ≠ r.p := fun z => by rw [z, hpr] at hc; have q := Option.some.inj hc; unfold LamX.CodeO at q; cases q
  have none0 : ∀ a, (a = o.m ∨ a = o.st ∨ a = o.hd ∨ a = o.cd) → H a = none := fun a ha => by
    cases e : H a with
    | none => rfl
    | some u => exact absurd (new a ha).1 (by rw [s1 _ _ e]; simp)
  have off : ∀ {x u}, H1 x = some u → x ≠ o.m ∧ x ≠ o.st ∧ x ≠ o.hd ∧ x ≠ o.cd := fun {x u} e => by
    have ne : ∀ {a}, (a = o.m ∨ a = o.st ∨ a = o.hd ∨ a = o.cd) → x ≠ a := fun {a} ha z => by rw [z, (new a ha).1] at e; cases e
    exact ⟨ne (.inl rfl), ne (.inr (.inl rfl)), ne (.inr (.inr (.inl rfl))), ne (.inr (.inr (.inr rfl)))⟩
  refine ⟨rfl, _, rfl, _, rfl, k12 _ _ ct cp hc1, ?_⟩
  refine q H2 o _ (fun a u n e => k12 a u (fun z => by rw [z, nt] at e; cases e) n (s1 _ _ e)) op opar om none0 Lo fun v H3 th hQ => ?_
  obtain ⟨t1, t2, t3, t4⟩ := off ht1
  obtain ⟨p1, p2, p3, p4⟩ := off (s1 _ _ hpr)
  have kk' : kk ≠ o.m ∧ kk ≠ o.st ∧ kk ≠ o.hd ∧ kk ≠ o.cd := ⟨(new _ (.inl rfl)).2.symm, (new _ (.inr (.inl rfl))).2.symm, (new _ (.inr (.inr (.inl rfl)))).2.symm, (new _ (.inr (.inr (.inr rfl)))).2.symm⟩
  have kp : kk ≠ r.p := fun z => by
    rw [z, hp2] at hk2
    have q := Option.some.inj hk2
    unfold prF keF at q
    cases q
  refine ⟨t, dt, r.p, r.dp, r.c, r.g, o.m, r.m, kk, dk, rfl, tp.symm, th _ _ t1 t2 t3 t4 ht2, th _ _ kk'.1 kk'.2.1 kk'.2.2.1 kk'.2.2.2 hk2, th _ _ p1 p2 p3 p4 hp2, kp, hQ _ fun a u e => ?_⟩
  have nat : a ≠ t := fun z => by rw [z, nt] at e; cases e
  rw [upd_ne nat]
  by_cases n : a = r.p
  · rw [n] at e ⊢
    rw [upd_same, ← e, hpr]
  · rw [upd_ne n]
    obtain ⟨a1, a2, a3, a4⟩ := off (s1 _ _ e)
    exact th _ _ a1 a2 a3 a4 (k12 _ _ nat n (s1 _ _ e))
end Pf
namespace Pf
open PySem PySem.Spec PyProof.Rows L2 Gk LamX Fold
/-! ### what stands between the calls, tables of code objects aside -/
theorem codeO_dn {P : Program} {w : World} {c a : Addr} {q : Str} {kvs : List (Option Int × V)} : CodeO c q ≠ dN P w a kvs := by
  intro e
  unfold CodeO dN at e
  injection e with e
  have z := congrFun e { objs := Array.replicate (c + 1) { cls := .none, data := .fields #[.none, .str q 0] } }
  have h1 : ∃ (oc : Obj) (vs : Array Value) (t : Tok), Heap.get? { objs := Array.replicate (c + 1) { cls := .none, data := .fields #[.none, .str q 0] } } c = some oc ∧ oc.data = .fields vs ∧ vs[1]? = some (.str q t) :=
    ⟨{ cls := .none, data := .fields #[.none, .str q 0] }, _, 0, by simp [Heap.get?], rfl, rfl⟩
  rw [z] at h1
  obtain ⟨_, _, vs, _, o, es, ep, ho, _, hd, _⟩ := h1
  unfold Heap.get? at ho
  simp only [Array.getElem?_replicate] at ho
  by_cases k : a < c + 1
  · rw [if_pos k] at ho
    dsimp only at ho
    cases ho
    cases hd
  · rw [if_neg k] at ho
    dsimp only at ho
    cases ho
/-- the tables stay where code objects and tables do -/
theorem tabs_mv {T : List (Addr × Str)} {H H' : Hp} (t : Tabs T H) (h : ∀ a o, ((∃ ps, o = HO.tbl ps) ∨ ∃ q, o = CodeO a q) → H a = some o → H' a = some o) : Tabs T H' := fun p hp => by
  obtain ⟨ps, e1, e2, e3⟩ := t p hp
  refine ⟨ps, h _ _ (.inl ⟨ps, rfl⟩) e1, e2, fun pos cv hc => ?_⟩
  obtain ⟨c, f1, f2⟩ := e3 pos cv hc
  exact ⟨c, f1, h _ _ (.inr ⟨_, rfl⟩) f2⟩
/-- all but b and the tables stays -/
def Ex (b : Addr) (H H' : Hp) : Prop := ∀ a o, a ≠ b → (∀ ps, o ≠ HO.tbl ps) → H a = some o → H' a = some o
theorem Ex.refl (b : Addr) (H : Hp) : Ex b H H := fun _ _ _ _ e => e
theorem Ex.trans {b : Addr} {H H1 H2 : Hp} (x : Ex b H H1) (y : Ex b H1 H2) : Ex b H H2 := fun a o n k e => y a o n k (x a o n k e)
theorem Ex.but {b : Addr} {H H1 : Hp} (x : But b H H1) : Ex b H H1 := fun a o n _ e => x a o n e
theorem Ex.ext {b : Addr} {H H1 : Hp} (x : ExtN H H1) : Ex b H H1 := fun a o _ k e => x a o e k
theorem Ex.box {b : Addr} {H H1 : Hp} {m : Nat} (x : ExtN H H1) (bx : Box m H b) : Box m H1 b := by
  obtain ⟨u, v, s, e, r⟩ := bx
  exact ⟨u, v, s, x _ _ e (fun ps z => by cases z), r⟩
section
variable {P : Program} {w : World} {K : PySem.W.Frag} {CM CS CP : Addr} {H H' : Hp} {r o : Pd} {ps qs : List (Int × Int)}
theorem keep_extN (x : ExtN H H') : Keep K H H' := fun a xs h => by
  rcases h with (h | ⟨u, h⟩) | h
  · exact .inl (.inl (x _ _ h (fun ps z => by cases z)))
  · exact .inl (.inr ⟨u, x _ _ h (fun ps z => by cases z)⟩)
  · exact .inr h
theorem Led.ext (L : Led P w K CM CS CP H r ps) (x : ExtN H H') : Led P w K CM CS CP H' r ps :=
  L.mv (fun a _ u e k => x a u e k) (keep_extN x) (fun a _ _ _ _ _ _ _ e => x a _ e (fun ps z => by cases z)) fun a ts e => x a _ e (fun ps z => by cases z)
theorem Led.tabs {T : List (Addr × Str)} (L : Led P w K CM CS CP H r ps) (t : Oth r H H') (tb : Tabs T H) : Tabs T H' := by
  obtain ⟨⟨⟨_, _, _, _, _, _, _, _, ⟨b1, b2, ⟨kvs, b3, _⟩, b6, _⟩, _⟩, _⟩, _⟩ := L
  refine tabs_mv tb fun a o k e => t a o (fun z => ?_) (fun z => ?_) (fun z => ?_) (fun z => ?_) e
  · rw [z, b1] at e
    rcases k with ⟨_, k⟩ | ⟨_, k⟩ <;> rw [k] at e <;> cases e
  · rw [z, b2] at e
    rcases k with ⟨_, k⟩ | ⟨_, k⟩ <;> rw [k] at e <;> cases e
  · rw [z, b3] at e
    rcases k with ⟨_, k⟩ | ⟨q, k⟩
    · rw [k] at e; cases e
    · rw [k, z] at e
      exact codeO_dn (Option.some.inj e).symm
  · rw [z] at e
    rcases b6 with ⟨_, _, g, _⟩ | ⟨_, _, g, _⟩ <;> rw [g] at e <;> rcases k with ⟨_, k⟩ | ⟨_, k⟩ <;> rw [k] at e <;> cases e
theorem tabs_but {T : List (Addr × Str)} {b : Addr} {xs : List V} (tb : Tabs T H) (bt : But b H H') (e : H b = some (.lst xs)) : Tabs T H' :=
  tabs_mv tb fun a o k h => bt a o (fun z => by
    rw [z, e] at h
    rcases k with ⟨_, k⟩ | ⟨_, k⟩ <;> rw [k] at h <;> cases h) h
end
/-- new, if it is no table -/
def Nw (H0 : Hp) (a : Addr) : Prop := ∀ o, H0 a = some o → ∃ ps, o = HO.tbl ps
theorem Nw.none {H0 : Hp} {a : Addr} (h : H0 a = Option.none) : Nw H0 a := fun o e => by rw [h] at e; cases e
/-- a predictor, a box and tables change, nothing else -/
def OthX (b : Addr) (r : Pd) (H H' : Hp) : Prop := ∀ a u, a ≠ b → a ≠ r.m → a ≠ r.st → a ≠ r.hd → a ≠ r.cd → (∀ ps, u ≠ HO.tbl ps) → H a = some u → H' a = some u
structure Bas (K : PySem.W.Frag) (T : List (Addr × Str)) (H0 H : Hp) (b c g t : Addr) (l : List (Int × Int)) (π : Par) (box : Nat) : Prop where
  ex : Ex b H0 H
  tab : Tabs T H
  bx : Box box H b
  pl : SqT K H c (planV π.k (π.L : Int) π.x)
  ok : PlanOk π.k (π.L : Int) π.x
  ga : SqT K H g [.int π.wd, .int π.v0]
  w1 : 1 ≤ π.wd
  w4 : π.wd ≤ 4
  v1 : 0 ≤ π.v0
  v2 : π.v0 ≤ top π.wd
  lp : PairsAt K H t l
structure Whx (P : Program) (w : World) (K : PySem.W.Frag) (CM CS CP : Addr) (H0 H : Hp) (b : Addr) (π : Par) (r : Pd) (ps : List (Int × Int)) (mm : Nat) : Prop where
  led : Led P w K CM CS CP H r ps
  rb : r.st ≠ b
  new : ∀ a, (a = r.p ∨ a = r.m ∨ a = r.st ∨ a = r.hd ∨ a = r.cd) → Nw H0 a
  pl : ps.length ≤ mm
  ml : r.many ≤ mm
  par : r.par = π
section
variable {P : Program} {w : World} {K : PySem.W.Frag} {CM CS CP : Addr} {T : List (Addr × Str)} {H0 H H' : Hp} {b c g t : Addr} {l : List (Int × Int)} {π : Par} {box box' mm mm' : Nat} {r o : Pd} {ps os : List (Int × Int)}
theorem Bas.same (C : Bas K T H0 H b c g t l π box) (s : Same H H') : Bas K T H0 H' b c g t l π box :=
  ⟨C.ex.trans (Ex.but (But.of_same s)), tabs_mv C.tab fun a o _ e => s _ _ e, C.bx.same s, Same.seqT s C.pl, C.ok, Same.seqT s C.ga, C.w1, C.w4, C.v1, C.v2, C.lp.keep (Same.keep s)⟩
theorem Bas.up (C : Bas K T H0 H b c g t l π box) (h : box ≤ box') : Bas K T H0 H b c g t l π box' := ⟨C.ex, C.tab, C.bx.up h, C.pl, C.ok, C.ga, C.w1, C.w4, C.v1, C.v2, C.lp⟩
theorem Bas.but (C : Bas K T H0 H b c g t l π box) (bt : But b H H') (bx : Box box' H' b) : Bas K T H0 H' b c g t l π box' := by
  obtain ⟨u, v, s, e, _⟩ := C.bx
  exact ⟨C.ex.trans (Ex.but bt), tabs_but C.tab bt e, bx, But.keep bt C.bx _ _ C.pl, C.ok, But.keep bt C.bx _ _ C.ga, C.w1, C.w4, C.v1, C.v2, C.lp.keep (But.keep bt C.bx)⟩
theorem Bas.there (C : Bas K T H0 H b c g t l π box) : H b ≠ Option.none := by
  obtain ⟨u, v, s, e, _⟩ := C.bx
  rw [e]
  simp
theorem Bas.fresh (C : Bas K T H0 H b c g t l π box) {a : Addr} (n : H a = Option.none) : Nw H0 a := fun u e => by
  by_cases k : ∃ ps, u = HO.tbl ps
  · exact k
  · have nb : a ≠ b := fun z => C.there (by rw [← z]; exact n)
    rw [C.ex a u nb (fun ps z => k ⟨ps, z⟩) e] at n
    cases n
theorem OthX.keep {xs : List V} (Lo : Led P w K CM CS CP H o os) (th : OthX b o H H') (e : H b = some (.lst xs)) : Keep K H H' := fun a ys h => by
  have off : ∀ u, H a = some u → (∃ zs, u = .tup zs) ∨ (∃ q zs, u = .frz q (.tup zs)) → H' a = some u := fun u hu k => by
    obtain ⟨⟨⟨_, _, _, _, _, _, _, _, ⟨b1, b2, ⟨kvs, b3, _⟩, b6, _⟩, _⟩, _⟩, _⟩ := Lo
    refine th a u (fun z => ?_) (fun z => ?_) (fun z => ?_) (fun z => ?_) (fun z => ?_) (fun ps z => by rcases k with ⟨_, k⟩ | ⟨_, _, k⟩ <;> rw [z] at k <;> cases k) hu
    · rw [z, e] at hu; cases hu; rcases k with ⟨_, k⟩ | ⟨_, _, k⟩ <;> cases k
    · rw [z, b1] at hu; cases hu; rcases k with ⟨_, k⟩ | ⟨_, _, k⟩ <;> cases k
    · rw [z, b2] at hu; cases hu; rcases k with ⟨_, k⟩ | ⟨_, _, k⟩ <;> cases k
    · rw [z, b3] at hu
      have z2 : u = dN P w o.hd kvs := (Option.some.inj hu).symm
      rw [z2] at k
      unfold dN at k
      rcases k with ⟨_, k⟩ | ⟨_, _, k⟩ <;> cases k
    · rw [z] at hu
      rcases b6 with ⟨_, _, g, _⟩ | ⟨_, _, g, _⟩ <;> rw [g] at hu <;> cases hu <;> rcases k with ⟨_, k⟩ | ⟨_, _, k⟩ <;> cases k
  rcases h with (h | ⟨u, h⟩) | h
  · exact .inl (.inl (off _ h (.inl ⟨_, rfl⟩)))
  · exact .inl (.inr ⟨u, off _ h (.inr ⟨_, _, rfl⟩)⟩)
  · exact .inr h
theorem Whx.ne (W : Whx P w K CM CS CP H0 H b π r ps mm) {a c : Addr} {u : HO} (e : H0 a = some u) (k : ∀ ps, u ≠ HO.tbl ps) (h : c = r.p ∨ c = r.m ∨ c = r.st ∨ c = r.hd ∨ c = r.cd) : a ≠ c := fun z => by
  rw [z] at e
  obtain ⟨ps, e1⟩ := W.new c h _ e
  exact k ps e1
/-- a predictor is led -/
theorem Bas.oth (C : Bas K T H0 H b c g t l π box) (W : Whx P w K CM CS CP H0 H b π r ps mm) (th : OthX b r H H') (tb : Tabs T H') (bx : Box box' H' b) : Bas K T H0 H' b c g t l π box' := by
  obtain ⟨u, v, s, e, _⟩ := C.bx
  have kp := OthX.keep W.led th e
  exact ⟨fun a u n k e0 => th a u n (W.ne e0 k (.inr (.inl rfl))) (W.ne e0 k (.inr (.inr (.inl rfl)))) (W.ne e0 k (.inr (.inr (.inr (.inl rfl))))) (W.ne e0 k (.inr (.inr (.inr (.inr rfl))))) k (C.ex a u n k e0), tb, bx, kp _ _ C.pl, C.ok, kp _ _ C.ga, C.w1, C.w4, C.v1, C.v2, C.lp.keep kp⟩
theorem OthX.of_oth (th : Oth r H H') : OthX b r H H' := fun a u _ h1 h2 h3 h4 _ e => th a u h1 h2 h3 h4 e
theorem OthX.of_ext (x : ExtN H H') : OthX b r H H' := fun a u _ _ _ _ _ k e => x a u e k
theorem OthX.of_but (x : But b H H') : OthX b r H H' := fun a u n _ _ _ _ _ e => x a u n e
theorem OthX.trans {H1 : Hp} {r1 : Pd} (x : OthX b r H H1) (k : r1.Akin r) (y : OthX b r1 H1 H') : OthX b r H H' := fun q u n a b c d kk e => y q u n (by rw [k.m]; exact a) (by rw [k.st]; exact b) (by rw [k.hd]; exact c) (by rw [k.cd]; exact d) kk (x q u n a b c d kk e)
theorem Bas.oth1 (C : Bas K T H0 H b c g t l π box) (W : Whx P w K CM CS CP H0 H b π r ps mm) (th : Oth r H H') : Bas K T H0 H' b c g t l π box := by
  obtain ⟨u, v, s, e, b1, b2⟩ := id C.bx
  exact C.oth W (OthX.of_oth th) (W.led.tabs th C.tab) ⟨u, v, s, W.led.lst th e W.rb, b1, b2⟩
theorem Whx.same (W : Whx P w K CM CS CP H0 H b π r ps mm) (s : Same H H') : Whx P w K CM CS CP H0 H' b π r ps mm := ⟨W.led.same s, W.rb, W.new, W.pl, W.ml, W.par⟩
theorem Whx.up (W : Whx P w K CM CS CP H0 H b π r ps mm) (h : mm ≤ mm') : Whx P w K CM CS CP H0 H b π r ps mm' := ⟨W.led, W.rb, W.new, Nat.le_trans W.pl h, Nat.le_trans W.ml h, W.par⟩
theorem Whx.oth (W : Whx P w K CM CS CP H0 H b π r ps mm) (Wo : Whx P w K CM CS CP H0 H b π o os mm') (ap : Apart r o) (th : Oth o H H') : Whx P w K CM CS CP H0 H' b π r ps mm := ⟨W.led.oth Wo.led th ap, W.rb, W.new, W.pl, W.ml, W.par⟩
theorem Whx.lead (W : Whx P w K CM CS CP H0 H b π r ps mm) {r' : Pd} {ps' : List (Int × Int)} (k : r'.Akin r) (L : Led P w K CM CS CP H' r' ps') (h1 : ps'.length ≤ mm') (h2 : r'.many ≤ mm') : Whx P w K CM CS CP H0 H' b π r' ps' mm' := by
  refine ⟨L, by rw [k.st]; exact W.rb, fun a ha => ?_, h1, h2, k.par.trans W.par⟩
  rw [k.p, k.m, k.st, k.hd, k.cd] at ha
  exact W.new a ha
theorem apart_new (L : Led P w K CM CS CP H r ps) (new : ∀ a, (a = o.p ∨ a = o.m ∨ a = o.st ∨ a = o.hd ∨ a = o.cd) → H a = Option.none) : Apart r o := fun a ha => by
  have u := L.used ha
  exact ⟨fun z => u (new a (.inr (.inl z))), fun z => u (new a (.inr (.inr (.inl z)))), fun z => u (new a (.inr (.inr (.inr (.inl z))))), fun z => u (new a (.inr (.inr (.inr (.inr z)))))⟩
theorem Bas.make (C : Bas K T H0 H b c g t l π box) {p dp : Addr} (n1 : H p = Option.none) (n2 : H dp = Option.none) (n3 : dp ≠ p) {Q : VK} {E : XK} (q : ∀ H' r, Pd.p r = p → Same H H' → Bas K T H0 H' b c g t l π box → Whx P w K CM CS CP H0 H' b π r [] 0 → (∀ a, (a = r.p ∨ a = r.m ∨ a = r.st ∨ a = r.hd ∨ a = r.cd) → H a = Option.none) → Q .non H') :
    spPrI P w K CM CP (.ref p :: ([.ref c, .ref g] ++ [])) (upd (upd H dp (.own p)) p (.ins CP dp [])) Q E :=
  made_go (CS := CS) n1 n2 n3 C.pl C.ok C.ga C.w1 C.w4 C.v1 C.v2 fun H' r ep s L m ek ez ex ew ev _ _ new => by
    refine q H' r ep s (C.same s) ⟨L, fun z => C.there (by rw [← z]; exact new _ (.inr (.inr (.inl rfl)))), fun a ha => C.fresh (new a ha), Nat.zero_le _, Nat.le_of_eq m, ?_⟩ new
    unfold Pd.par
    rw [ek, ez, ex, ew, ev]
    rfl
theorem ty_of (TI : IsP K CP) (L : Led P w K CM CS CP H r ps) : TyX K H (.ref r.p) (.ref CP) := .base (.ins L.pr.1.hpr TI.ins.cl TI.ins.ha TI.ins.hn TI.ins.htk TI.ins.hm)
theorem eq_go (TI : IsP K CP) (W : Whx P w K CM CS CP H0 H b π r ps mm) (Wo : Whx P w K CM CS CP H0 H b π o os mm') (l1 : mm ≤ 3000) (l2 : mm' ≤ 3000) {Q : VK} {E : XK} (q : ∀ H', Same H H' → Q (.bl (PyData.eqv (leD ps) (leD os))) H') : rEqOwn K CP (spEqP P w K CM CS CP) E (.ref r.p) (.ref o.p) H Q :=
  ⟨r.p, r.dp, _, .ref CP, rfl, W.led.pr.1.hpr, ty_of TI Wo.led, IsP.nfC, r, ps, .ref o.p, rfl, W.led, Nat.le_trans W.pl l1, .inr ⟨o, os, rfl, Wo.led, Nat.le_trans Wo.pl l2, fun H' s => ⟨_, rfl, by rw [eqP_par W.led Wo.led (Wo.par.trans W.par.symm)]; exact q H' s⟩⟩⟩
end
end Pf
namespace Pf
open PySem PySem.Spec PyProof.Rows L2 Gk LamX Fold
/-! ### _law_step -/
abbrev sStep : Stmt := topS 50
abbrev nStep : List Str := ["_law_box_here", "_law_made", "_law_loop_here", "_law_kind", "_law_again"]
theorem scStep : FnScope nStep ["_law_box_here", "_law_made", "_law_loop_here"] (defScope sStep) := ⟨rfl, rfl, rfl, by decide +kernel, rfl, by decide +kernel, by decide +kernel⟩
def lamQ : Str := (envOfC "_law_step" (defScope sStep) 0 0 .none).qual ++ "<lambda>"
theorem eqv_nil (ps : List (Int × Int)) : PyData.eqv (leD ps) (leD []) = ps.isEmpty := by
  cases ps <;> rfl
theorem dp_nil {K : PySem.W.Frag} {H : Hp} {a : Addr} (h : H a = some (.tup [])) : Dp K H (.ref a) (leD []) := .tup (.inl (.inl h)) .nil
section
variable {P : Program} {w : World} {K : PySem.W.Frag} {mg : Str → Option Value} {base : Heap}
def spStep (P : Program) (w : World) (K : PySem.W.Frag) (CM CS CP : Addr) (T : List (Addr × Str)) : Sp := fun vs H Q _ => ∃ (b t : Addr) (r : Pd) (ps l : List (Int × Int)) (m : Nat), vs = [.ref b, .ref r.p, .ref t] ∧ Tabs T H ∧ Box m H b ∧ m ≤ 950000 ∧ Led P w K CM CS CP H r ps ∧ r.st ≠ b ∧ ps.length ≤ 2000 ∧ r.many ≤ 2000 ∧ PairsAt K H t l ∧ Fair l ∧ l.length ≤ 8 ∧
  ∀ H' r' ps', OthX b r H H' → Tabs T H' → Led P w K CM CS CP H' r' ps' → r'.par = r.par → (r'.Akin r ∨ ∀ a, (a = r'.p ∨ a = r'.m ∨ a = r'.st ∨ a = r'.hd ∨ a = r'.cd) → H a = Option.none) → r'.st ≠ b → Box (m + 4) H' b → ps'.length ≤ ps.length + 16 → r'.many ≤ r.many + 16 → Q (.ref r'.p) H'
theorem ok_step {f CM CS CP CT CK fU fC fA fL fQ pL fTI fE fX g cc Pt : Addr} {fd fdU fdC fdA fdL fdQ fdTI fdE fdX fdT : FuncData} (T : TPr K mg CP) (TT : TTrial K mg CT)
    (mU : Meth K CP "undo" fU) (GU : FnOk P w K mg base L2.CX0 2 fU fdU ["self"] (spUndo P w K CM CS CP)) (bU : Binds K fdU ["self"] [])
    (mC : Meth K CP "copy" fC) (GC : FnOk P w K mg base L2.CX0 6 fC fdC ["self"] (spCopyP P w K CM CS CP)) (bC : Binds K fdC ["self"] [])
    (mA : Meth K CP "learn_all" fA) (GA : FnOk P w K mg base L2.CX0 5 fA fdA ["self", "trace", "rounds"] (spLearnAllL P w K CM CS CP)) (bA : Binds K fdA ["self", "trace", "rounds"] [])
    (mL : Meth K CP "learn" fL) (GL : FnOk P w K mg base L2.CX0 5 fL fdL SBO (spLearnL P w K CM CS CP)) (bL : Binds K fdL SBO [])
    (qL : PropOf K CP "learned" pL fQ) (GQ : FnOk P w K mg base L2.CX0 1 fQ fdQ ["self"] (spPropL P w K CM CS CP)) (bQ : Binds K fdQ ["self"] [])
    (MT : Mk K CT fTI) (GTI : FnOk P w K mg base L2.CX0 1 fTI fdTI ["self", "predictor"] (spTrialI K CT CP)) (bTI : Binds K fdTI ["self", "predictor"] [])
    (iE : PySem.W.findIn K (.ref CT) "__enter__" = some (some (.ref fE))) (kE : PySem.W.isFn K (.ref fE) = true) (GE : FnOk P w K mg base L2.CX0 4 fE fdE ["self"] (spEnter P w K CM CS CP CT CK)) (bE : Binds K fdE ["self"] [])
    (iX : PySem.W.findIn K (.ref CT) "__exit__" = some (some (.ref fX))) (kX : PySem.W.isFn K (.ref fX) = true) (GX : FnOk P w K mg base L2.CX0 1 fX fdX nExit (spExit CP CT CK)) (bX : Binds K fdX nExit [])
    (gT : mg "tried" = some (.ref g)) (FT : L2.Fun K "tried" "tried" sTried g fdT) (bT : Binds K fdT ["predictor", "look"] [])
    (DT : Dfn P w K mg base 1 "_law_take" ["_law_box_here", "_law_many"] spTake) (TB : TabB base mg cc Pt) (hcd : fd.code = .ref cc) (F : L2.Fun K "_law_step" "_law_step" sStep f fd) : FnG P w K mg base 8 f fd ["_law_box_here", "_law_made", "_law_loop_here"] (spStep P w K CM CS CP [(Pt, lamQ)]) := by
  refine fnGc F scStep (fun vs H Q E h => ?_) (fun A outer s H vs Q hr hg h => ?_)
  · obtain ⟨b, t, r, ps, l, m, rfl, _⟩ := h
    rfl
  · obtain ⟨b, t, r, ps, l, m, rfl, tab, bx, hm, L, rb, pl, ml, lp, fair, l8, q⟩ := h
    have TOne : ∀ p ∈ ([(Pt, lamQ)] : List (Addr × Str)), p.1 = Pt → p.2 = lamQ := fun p hp _ => by rw [List.mem_singleton.mp hp]
    refine ⟨_, C8.pss_cut (ps_set (i := 3) scStep.nd rfl (.inl rfl) (pe_d DT hr (by decide) (by rfl) (pa_cons (pv 0) (pa_cons pe_int pa_nil))))
      (C8.pss_cut (ps_if (pt_cmpR op_eq (pv 3) pe_int (nomark _))
          (pss_one (ps_expr (pe_meth (pv 1) T.cl mA GA (hr.mono (by decide)) bA .nil pass0 (pa_cons (pv 2) (pa_cons (pe_d DT hr (by decide) (by rfl) (pa_cons (pv 0) (pa_cons pe_int pa_nil))) pa_nil)))))
          (pss_one (ps_if (pt_mid (PW.pt (pw_and (pt_cmpR op_lt (pv 3) pe_int (nomark _)) (pw_and1 (pt_cmpR (op_neD hr.units) (pe_prop (pv 1) T.cl qL GQ (hr.mono (by decide)) bQ .nil pass0 rfl) (pe_tup pa_nil) (nomark _))))))
            (pss_one (ps_expr (pe_meth0 (pv 1) T.cl mU GU (hr.mono (by decide)) bU .nil pass0)))
            (pss_one (ps_if (pt_cmpR op_eq (pv 3) pe_int (nomark _))
              (pss_one (ps_expr (pe_lamcall1 (T := [(Pt, lamQ)]) (k := 5) (pr := "_law_held") (by rfl) gT FT bT scTried rfl (.inl rfl) (tried_gives TT T MT GTI bTI iE kE GE bE iX kX GX bX) (pv 1) TB hcd (List.mem_singleton.mpr rfl) TOne (hr.mono (by decide)) (lamP_by (sc := defScope sStep) (by decide +kernel)) (show ("_law_held" : Str) ∉ nStep by decide +kernel) rfl (fun _ _ _ _ _ _ => rfl)
                  (fun A outer s H f c' room => pe_meth (pv 5) T.cl mA GA room bA .nil pass0 (pa_cons (pv 2) (pa_cons pe_int pa_nil))))))
              (pss_one (ps_if (pt_cmpR op_eq (pv 3) pe_int (nomark _))
                (pss_cons (ps_set (i := 4) scStep.nd rfl (.inl rfl) (pe_meth0 (pv 1) T.cl mC GC (hr.mono (by decide)) bC .nil pass0))
                (pss_cons (ps_expr (pe_meth (pv 1) T.cl mL GL (hr.mono (by decide)) bL .nil pass0 (pa_cons (pe_d DT hr (by decide) (by rfl) (pa_cons (pv 0) (pa_cons pe_int pa_nil))) (pa_cons pe_int pa_nil))))
                (pss_one (ps_ret (pv 4)))))
                (pss_one (ps_expr (pe_meth (pv 1) T.cl mL GL (hr.mono (by decide)) bL .nil pass0 (pa_cons (pe_d DT hr (by decide) (by rfl) (pa_cons (pv 0) (pa_cons pe_int pa_nil))) (pa_cons (pe_d DT hr (by decide) (by rfl) (pa_cons (pv 0) (pa_cons pe_int pa_nil))) pa_nil))))))))))))
      (pss_one (ps_ret (pv 1)))), ?_⟩
    refine ⟨fun σ H' => ∃ d : Int, σ = [some (.ref b), some (.ref r.p), some (.ref t), some (.int d), none] ∧ But b H H' ∧ Box (m + 1) H' b, ?_, fun σ H1 hM => ?_⟩
    · refine ⟨.ref b, rfl, b, 9, m, rfl, by decide, by decide, bx, by omega, fun d H1 d0 d9 bt1 bx1 out1 => ?_⟩
      exact ⟨d, rfl, bt1, bx1⟩
    obtain ⟨kd, rfl, bt1, bx1⟩ := hM
    obtain ⟨u0, v0, s0, e0, _⟩ := id bx
    have L1 := L.but e0 rb bt1
    have tab1 := tabs_but tab bt1 e0
    have lp1 := lp.keep (But.keep bt1 bx)
    have ox1 : OthX b r H H1 := OthX.of_but bt1
    refine ⟨fun σ H' => ∃ (r' : Pd) (ps' : List (Int × Int)), (∃ y3 y4, σ = [some (.ref b), some (.ref r.p), some (.ref t), y3, y4]) ∧ r'.Akin r ∧ OthX b r H H' ∧ Tabs [(Pt, lamQ)] H' ∧ Led P w K CM CS CP H' r' ps' ∧ Box (m + 4) H' b ∧ ps'.length ≤ ps.length + 16 ∧ r'.many ≤ r.many + 16, ?_, fun σ H2 hM => ?_⟩
    · refine ⟨.int kd, rfl, rfl, _, rfl, ite2 (fun _ => ?_) (fun _ => ?_)⟩
      · refine ⟨.ref r.p, rfl, r.p, r.dp, _, rfl, L1.pr.1.hpr, rfl, .ref t, rfl, ?_⟩
        refine ⟨.ref b, rfl, b, 3, m + 1, rfl, by decide, by decide, bx1, by omega, fun d H2 d0 d3 bt2 bx2 out2 => ?_⟩
        obtain ⟨u1, v1, s1, e1, _⟩ := id bx1
        have L2' := L1.but e1 rb bt2
        have rl : d.toNat * l.length ≤ 2 * 8 := Nat.mul_le_mul (by omega) l8
        refine ⟨r, ps, t, l, d.toNat, by rw [Int.toNat_of_nonneg d0]; rfl, L2', lp1.keep (But.keep bt2 bx1), fair, by omega, by omega, by omega, fun H3 r' kin th L3 mm => ?_⟩
        obtain ⟨u2, v2, s2, e2, b1, b2⟩ := id bx2
        exact ⟨r', _, ⟨_, _, rfl⟩, kin, (ox1.trans (Pd.Akin.refl r) (OthX.of_but bt2)).trans (Pd.Akin.refl r) (OthX.of_oth th), L2'.tabs th (tabs_but tab1 bt2 e1), L3, ⟨u2, v2, s2, L2'.lst th e2 rb, by omega, by omega⟩, by rw [List.length_append, roundsOf_len]; omega, by omega⟩
      · refine ⟨fun v H' => Same H1 H' ∧ (v = true → ps ≠ []), ?_, fun v H2 hv => ?_⟩
        · refine ⟨.int kd, rfl, kd, 3, rfl, rfl, _, rfl, ite2 (fun _ => ?_) (fun _ => ⟨Same.refl _, fun z => (nomatch z)⟩)⟩
          refine ⟨.ref r.p, rfl, r.p, r.dp, _, rfl, L1.pr.1.hpr, r, ps, rfl, L1.pr, L1.st.at, by omega, fun H3 tt as s3 h3 d3 => ?_⟩
          refine ⟨by show 0 ≤ sizeLine; exact Nat.zero_le _, fun TT' nT => ?_⟩
          have s4 := same_new (o := HO.tup []) nT
          refine ⟨leD ps, leD [], .tup (Same.seqT s4 h3) (pairs_keep d3 (Same.keep s4)), dp_nil upd_same, le_sh L1.fair, by decide, ?_⟩
          refine ⟨_, rfl, s3.trans s4, fun z e2 => ?_⟩
          rw [e2] at z
          exact absurd z (by decide)
        · obtain ⟨s2, hne⟩ := hv
          have L2' := L1.same s2
          have bx2 := bx1.same s2
          have tab2 : Tabs [(Pt, lamQ)] H2 := tabs_mv tab1 fun a o _ e => s2 _ _ e
          have lp2 := lp1.keep (Same.keep s2)
          have ox2 : OthX b r H H2 := ox1.trans (Pd.Akin.refl r) (OthX.of_but (But.of_same s2))
          obtain ⟨u2, v2, sb2, e2, b1, b2⟩ := id bx2
          split
          · rename_i e
            rcases List.eq_nil_or_concat ps with e3 | ⟨qs, p, e3⟩
            · exact absurd e3 (hne e)
            rw [List.concat_eq_append] at e3
            subst e3
            refine ⟨.ref r.p, rfl, r.p, r.dp, _, rfl, L2'.pr.1.hpr, rfl, r, qs, p, rfl, L2', by omega, fun H3 a th L3 sq => ?_⟩
            exact ⟨r.back qs, qs, ⟨_, _, rfl⟩, (Pd.Akin.refl r).back qs, ox2.trans (Pd.Akin.refl r) (OthX.of_oth th), L2'.tabs th tab2, L3, ⟨u2, v2, sb2, L2'.lst th e2 rb, by omega, by omega⟩, by rw [List.length_append]; omega, by show r.many + 1 ≤ _; omega⟩
          · refine ⟨.int kd, rfl, rfl, _, rfl, ite2 (fun _ => ?_) (fun _ => ?_)⟩
            · refine ⟨.ref r.p, rfl, tab2, fun H3 x3 tb3 => ⟨r, ps, rfl, L2'.ext x3, by omega, by omega, fun H4 o Q2 k34 op opar om new Lo hQ => ?_⟩⟩
              have L3 := L2'.ext x3
              have hp3 := L3.pr.1.hpr
              have k34K : Keep K H3 H4 := keep_ins hp3 k34
              refine ⟨.ref r.p, rfl, r.p, o.dp, _, rfl, by rw [← op]; exact Lo.pr.1.hpr, rfl, .ref t, rfl, o, ps, t, l, 2, by rw [op]; rfl, Lo, (lp2.keep (keep_extN x3)).keep k34K, fair, by decide, by omega, by omega, fun H5 o' kin th L5 mm => ?_⟩
              refine hQ _ _ th fun H6 s6 => ?_
              exact ⟨r, ps, ⟨_, _, rfl⟩, Pd.Akin.refl r, (ox2.trans (Pd.Akin.refl r) (OthX.of_ext x3)).trans (Pd.Akin.refl r) (OthX.of_but (But.of_same s6)), tabs_mv tb3 fun a o _ e => s6 _ _ e, L3.same s6, ((Ex.box x3 bx2).same s6).up (by omega), by omega, by omega⟩
            · refine ⟨.int kd, rfl, rfl, _, rfl, ite2 (fun _ => ?_) (fun _ => ?_)⟩
              · refine ⟨.ref r.p, rfl, r.p, r.dp, _, rfl, L2'.pr.1.hpr, rfl, r, ps, rfl, L2', by omega, by omega, fun H3 o s3 eo mo np nm nst nhd ncd ap1 ap2 Lr Lo => go_name ?_⟩
                have bx3 := bx2.same s3
                obtain ⟨u3, v3, sb3, e3, _, _⟩ := id bx3
                refine ⟨.ref r.p, rfl, r.p, r.dp, _, rfl, Lr.pr.1.hpr, rfl, ?_⟩
                refine ⟨.ref b, rfl, b, 8, m + 1, rfl, by decide, by decide, bx3, by omega, fun d H4 d0 d8 bt4 bx4 out4 => ?_⟩
                have ob : o.st ≠ b := fun z => by rw [z] at nst; rw [nst] at e2; cases e2
                have Lr4 := Lr.but e3 rb bt4
                have Lo4 := Lo.but e3 ob bt4
                have tab4 : Tabs [(Pt, lamQ)] H4 := tabs_but (tabs_mv tab2 fun a o _ e => s3 _ _ e) bt4 e3
                refine ⟨r, ps, d, 1, rfl, Lr4, d0, by omega, .inr rfl, by omega, by omega, fun H5 s5 th L5 => ?_⟩
                obtain ⟨u4, v4, sb4, e4, c1, c2⟩ := id bx4
                have from2 : ∀ {a : Addr}, H2 a = none → H a = none := fun {a} n => by
                  cases e' : H a with
                  | none => rfl
                  | some u =>
                    have nb : a ≠ b := fun z => by rw [z, e2] at n; cases n
                    rw [s2 _ _ (bt1 a u nb e')] at n
                    cases n
                refine ⟨.ref o.p, rfl, ?_⟩
                refine q H5 o ps ((((ox2.trans (Pd.Akin.refl r) (OthX.of_but (But.of_same s3))).trans (Pd.Akin.refl r) (OthX.of_but bt4))).trans (Pd.Akin.refl r) (OthX.of_oth th)) (Lr4.tabs th tab4) (Lo4.oth Lr4 th ap2) eo (.inr fun a ha => ?_) ob ⟨u4, v4, sb4, Lr4.lst th e4 rb, by omega, by omega⟩ (by omega) (by omega)
                rcases ha with rfl | rfl | rfl | rfl | rfl
                · exact from2 np
                · exact from2 nm
                · exact from2 nst
                · exact from2 nhd
                · exact from2 ncd
              · refine ⟨.ref r.p, rfl, r.p, r.dp, _, rfl, L2'.pr.1.hpr, rfl, ?_⟩
                refine ⟨.ref b, rfl, b, 8, m + 1, rfl, by decide, by decide, bx2, by omega, fun d H3 d0 d8 bt3 bx3 out3 => ?_⟩
                refine ⟨.ref b, rfl, b, 2, m + 2, rfl, by decide, by decide, bx3, by omega, fun o H4 o0 o2 bt4 bx4 out4 => ?_⟩
                have L4 := L2'.but e2 rb (bt3.trans bt4)
                have tab4 : Tabs [(Pt, lamQ)] H4 := tabs_but tab2 (bt3.trans bt4) e2
                refine ⟨r, ps, d, o, rfl, L4, d0, by omega, by omega, by omega, by omega, fun H5 s5 th L5 => ?_⟩
                obtain ⟨u4, v4, sb4, e4, c1, c2⟩ := id bx4
                exact ⟨r.next d o s5, ps ++ [(d, o)], ⟨_, _, rfl⟩, (Pd.Akin.refl r).next d o s5, (ox2.trans (Pd.Akin.refl r) (OthX.of_but (bt3.trans bt4))).trans (Pd.Akin.refl r) (OthX.of_oth th), L4.tabs th tab4, L5, ⟨u4, v4, sb4, L4.lst th e4 rb, by omega, by omega⟩, by rw [List.length_append]; show ps.length + 1 ≤ _; omega, by show r.many + 1 ≤ _; omega⟩
    obtain ⟨r', ps', ⟨y3, y4, rfl⟩, kin, ox, tb2, L2', bx2, pl2, ml2⟩ := hM
    refine ⟨.ref r.p, rfl, ?_⟩
    rw [← kin.p]
    exact q H2 r' ps' ox tb2 L2' kin.par (.inl kin) (by rw [kin.st]; exact rb) bx2 pl2 ml2
end
end Pf
namespace Pf
open PySem PySem.Spec PyProof.Rows L2 Gk
abbrev sGau : Stmt := topS 48
abbrev nGau : List Str := ["_law_box_here", "_law_width", "_law_half"]
theorem scGau : FnScope nGau ["_law_box_here"] (defScope sGau) := ⟨rfl, rfl, rfl, by decide +kernel, rfl, by decide +kernel, by decide +kernel⟩
theorem pow2_up {a b : Nat} (h : a ≤ b) : (2 : Int) ^ a ≤ 2 ^ b := by
  have e := Nat.pow_le_pow_right (n := 2) (by decide) h
  exact_mod_cast e
section
variable {P : Program} {w : World} {K : PySem.W.Frag} {mg : Str → Option Value} {base : Heap}
def spGau : Sp := fun vs H Q _ => ∃ (b : Addr) (m : Nat), vs = [.ref b] ∧ Box m H b ∧ m ≤ 990000 ∧
  ∀ H' p n v, But b H H' → Box (m + 10) H' b → p ≠ b → H p = none → H' p = some (.tup [.int n, .int v]) → 1 ≤ n → n ≤ 4 → 0 ≤ v → v < 2 ^ n.toNat → Q (.ref p) H'
theorem ok_gau {f : Addr} {fd : FuncData} (DT : Dfn P w K mg base 1 "_law_take" ["_law_box_here", "_law_many"] spTake) (DO : Dfn P w K mg base 2 "_law_of" ["_law_box_here", "_law_some"] (spOf K))
    (F : L2.Fun K "_law_gauge" "_law_gauge" sGau f fd) : FnOk P w K mg base L2.CX0 3 f fd ["_law_box_here"] spGau := by
  refine F.ok scGau (fun vs H Q E h => ?_) (fun cdv A outer s H vs Q E hr h => ?_)
  · obtain ⟨b, m, rfl, _⟩ := h
    rfl
  · obtain ⟨b, m, rfl, hb, hm, q⟩ := h
    refine ⟨_, pss_cons (ps_set (i := 1) scGau.nd rfl (.inl rfl) (pe_op op_add pe_int (pe_d DT hr (by decide) (by rfl) (pa_cons (pv 0) (pa_cons pe_int pa_nil)))))
      (pss_cons (ps_set (i := 2) scGau.nd rfl (.inl rfl) (pe_op op_shl pe_int (pe_op op_sub (pv 1) pe_int)))
      (pss_one (ps_ret (pe_tup (pa_cons (pv 1) (pa_cons (pe_d DO hr (by decide) (by rfl) (pa_cons (pv 0) (pa_cons (pe_lst (pa_cons pe_int (pa_cons (pe_op op_sub (pe_op op_mul pe_int (pv 2)) pe_int) (pa_cons (pv 2) (pa_cons (pe_op op_sub (pv 2) pe_int)
          (pa_cons (pe_d DT hr (by decide) (by rfl) (pa_cons (pv 0) (pa_cons (pe_op op_mul pe_int (pv 2)) pa_nil))) pa_nil)))))) pa_nil))) pa_nil)))))), ?_⟩
    refine ⟨.ref b, rfl, b, 4, m, rfl, by decide, by decide, hb, by omega, fun d H1 d0 d1 bt1 bx1 sm1 => ⟨_, _, rfl, rfl, .int (1 + d), rfl, _, _, rfl, rfl, _, _, rfl, rfl, ⟨by omega, by omega, by decide⟩, ?_⟩⟩
    have half : 2 * ((1 : Int) * 2 ^ (1 + d - 1).toNat) = 2 ^ (1 + d).toNat := by
      rw [show (1 + d).toNat = (1 + d - 1).toNat + 1 by omega, Int.pow_succ]
      omega
    have hp : (2 : Int) ^ (1 + d).toNat ≤ 2 ^ 4 := pow2_up (by omega)
    have hp0 : (0 : Int) < 2 ^ (1 + d - 1).toNat := Int.pow_pos (by decide)
    have hf1 : 1 ≤ ((1 : Int) * 2 ^ (1 + d - 1).toNat) := by omega
    refine ⟨.int (1 + d), rfl, .ref b, rfl, .int ((1 : Int) * 2 ^ (1 + d - 1).toNat), rfl, _, _, rfl, rfl, .inl ⟨by decide, by decide⟩, _, _, rfl, rfl, .int ((1 : Int) * 2 ^ (1 + d - 1).toNat), rfl, .int ((1 : Int) * 2 ^ (1 + d - 1).toNat), rfl, _, _, rfl, rfl, .ref b, rfl, .int ((1 : Int) * 2 ^ (1 + d - 1).toNat), rfl, _, _, rfl, rfl, .inl ⟨by decide, by decide⟩, b, 2 * ((1 : Int) * 2 ^ (1 + d - 1).toNat), m + 1, rfl, by omega, by omega, bx1, by omega, fun e H2 e0 e1 bt2 bx2 sm2 => ⟨by show 5 ≤ sizeLine; decide, fun p np => ?_⟩⟩
    have bx3 := bx2.same (same_new (o := .lst [.int 0, .int (2 * ((1 : Int) * 2 ^ (1 + d - 1).toNat) - 1), .int ((1 : Int) * 2 ^ (1 + d - 1).toNat), .int (((1 : Int) * 2 ^ (1 + d - 1).toNat) - 1), .int e]) np)
    refine ⟨b, p, _, m + 1 + 1, rfl, SqL.of upd_same, (bx2.ne np).symm, by show 0 < 5; decide, by show 5 ≤ 1000; decide, bx3, by omega, fun i v H4 g bt4 bx4 sm4 => ⟨by show 2 ≤ sizeLine; decide, fun p2 np2 => ?_⟩⟩
    have bt04 : But b H H4 := ((bt1.trans bt2).trans (But.new np)).trans bt4
    have bxu : Box (m + 10) H4 b := bx4.up (by omega)
    have gone : H p2 = none := by
      cases e : H p2 with
      | none => rfl
      | some o =>
        have := bt04 p2 o (bxu.ne np2).symm e
        rw [np2] at this
        cases this
    have fin : ∀ u : Int, v = .int u → 0 ≤ u → u < 2 * ((1 : Int) * 2 ^ (1 + d - 1).toNat) → Q (.ref p2) (upd H4 p2 (.tup [.int (1 + d), v])) := fun u hu u0 u1 => by
      subst hu
      exact q _ p2 (1 + d) u (bt04.trans (But.new np2)) (bxu.same (same_new np2)) (bxu.ne np2).symm gone upd_same (by omega) (by omega) u0 (by omega)
    match i, g with
    | 0, g => exact fin 0 (Option.some.inj g).symm (by omega) (by omega)
    | 1, g => exact fin (2 * ((1 : Int) * 2 ^ (1 + d - 1).toNat) - 1) (Option.some.inj g).symm (by omega) (by omega)
    | 2, g => exact fin ((1 : Int) * 2 ^ (1 + d - 1).toNat) (Option.some.inj g).symm (by omega) (by omega)
    | 3, g => exact fin (((1 : Int) * 2 ^ (1 + d - 1).toNat) - 1) (Option.some.inj g).symm (by omega) (by omega)
    | 4, g => exact fin e (Option.some.inj g).symm (by omega) (by omega)
end
end Pf
namespace Pf
open PySem PySem.Spec PyProof.Rows L2 Gk LamX Fold
abbrev sRight : Stmt := topS 51
abbrev nRight : List Str := ["_law_box_here", "_law_turn", "_law_plan_here", "_law_gauge_here", "_law_made", "_law_loop_here", "_law_call", "_law_fresh", "_law_home", "_law_deed", "_law_pairs"]
theorem scRight : FnScope nRight ["_law_box_here"] (defScope sRight) := ⟨rfl, rfl, rfl, by decide +kernel, rfl, by decide +kernel, by decide +kernel⟩
theorem neSelf (v : V) : ¬ (!decide (v = v)) = true := by simp
theorem dp_init {K : PySem.W.Frag} {H : Hp} {d : PyData} : ∀ {ds : List PyData} {as : List V}, DpAll K H as (ds ++ [d]) → DpAll K H as.dropLast ds
  | [], _, .cons _ .nil => .nil
  | _ :: ds, _, .cons (vs := as) h r => by
    have ih := dp_init (ds := ds) r
    cases as with
    | nil => cases ds <;> cases r
    | cons a as => exact .cons h ih
theorem eqv_pairs (ps : List (Int × Int)) : PyData.eqv (.list (ps.map pd)) (.list []) = ps.isEmpty := by
  cases ps <;> rfl
theorem pairs_sh {ps : List (Int × Int)} (h : Fair ps) : SeqAt.shaped (.list (ps.map pd)) = true := by
  refine tame_shaped (by simpa only [Gk.tame] using tame_pd h) ?_
  have := depth_pd ps
  simp only [PyData.depth]
  omega
theorem pd_tame {p : Int × Int} (h : Fair [p]) : tame (pd p) = true := by
  have q := tame_pd h
  simpa [tameAll] using q
theorem Bas.pop {K : PySem.W.Frag} {T : List (Addr × Str)} {H0 H : Hp} {b c g t : Addr} {l : List (Int × Int)} {π : Par} {box : Nat} (C : Bas K T H0 H b c g t l π box) {A : Addr} {xs ys : List V} (e : H A = some (.lst xs)) (n : Nw H0 A) (nb : A ≠ b) : Bas K T H0 (upd H A (.lst ys)) b c g t l π box := by
  have k : ∀ x u, x ≠ A → H x = some u → (upd H A (.lst ys)) x = some u := fun x u n e => by rw [upd_ne n]; exact e
  have kp : Keep K H (upd H A (.lst ys)) := keep_wr e
  obtain ⟨u, v, s, eb, r⟩ := id C.bx
  refine ⟨fun a u na kt e0 => k _ _ (fun z => ?_) (C.ex a u na kt e0), tabs_but C.tab (fun x u n e => k x u n e) e, ⟨u, v, s, k _ _ nb.symm eb, r⟩, kp _ _ C.pl, C.ok, kp _ _ C.ga, C.w1, C.w4, C.v1, C.v2, C.lp.keep kp⟩
  rw [z] at e0
  obtain ⟨ps, e1⟩ := n _ e0
  exact kt ps e1
section
variable {P : Program} {w : World} {K : PySem.W.Frag} {mg : Str → Option Value} {base : Heap}
def spRight (T : List (Addr × Str)) : Sp := fun vs H Q _ => ∃ (b : Addr), vs = [.ref b] ∧ Box 0 H b ∧ Tabs T H ∧ ∀ H', Ex b H H' → Tabs T H' → Q (.bl true) H'
theorem ok_right {T : List (Addr × Str)} {f CM CS CP fI fU fK fQ pL fE : Addr} {fd fdI fdU fdK fdQ fdE : FuncData} (TP : TPr K mg CP) (TI : IsP K CP)
    (MK : Mk K CP fI) (GI : FnOk P w K mg base L2.CX0 4 fI fdI ["self", "scheme", "counter"] (spPrI P w K CM CP)) (bI : Binds K fdI ["self", "scheme", "counter"] [])
    (mU : Meth K CP "undo" fU) (GU : FnOk P w K mg base L2.CX0 2 fU fdU ["self"] (spUndo P w K CM CS CP)) (bU : Binds K fdU ["self"] [])
    (iK : PySem.W.findIn K (.ref CP) "__call__" = some (some (.ref fK))) (nK : PySem.W.fnIn K fK = true) (kK : PySem.W.isFn K (.ref fK) = true) (GK : FnOk P w K mg base L2.CX0 6 fK fdK SBO (spLearnL P w K CM CS CP)) (bK : Binds K fdK SBO [])
    (qL : PropOf K CP "learned" pL fQ) (GQ : FnOk P w K mg base L2.CX0 1 fQ fdQ ["self"] (spPropL P w K CM CS CP)) (bQ : Binds K fdQ ["self"] [])
    (iE : PySem.W.findIn K (.ref CP) "__eq__" = some (some (.ref fE))) (kE : PySem.W.isFn K (.ref fE) = true) (GE : FnOk P w K mg base L2.CX0 3 fE fdE nEqP (spEqP P w K CM CS CP)) (bE : Binds K fdE nEqP [])
    (DT : Dfn P w K mg base 1 "_law_take" ["_law_box_here", "_law_many"] spTake) (DO : Dfn P w K mg base 2 "_law_of" ["_law_box_here", "_law_some"] (spOf K)) (DL : Dfn P w K mg base 3 "_law_loop" ["_law_box_here", "_law_most", "_law_homes"] (spLoop K))
    (DP : Dfn P w K mg base 3 "_law_plan" ["_law_box_here", "_law_most"] (spPlan K)) (DG : Dfn P w K mg base 3 "_law_gauge" ["_law_box_here"] spGau)
    (DZ : DfG P w K mg base 8 "_law_step" ["_law_box_here", "_law_made", "_law_loop_here"] (spStep P w K CM CS CP T)) (DS : DfG P w K mg base 8 "_law_state" ["_law_made"] (spState P w K CM CS CP))
    (mr : mg "range" = none) (mls : mg "list" = none) (F : L2.Fun K "_law_right" "_law_right" sRight f fd) : FnG P w K mg base 9 f fd ["_law_box_here"] (spRight T) := by
  refine fnG F scRight (fun vs H Q E h => ?_) (fun cdv A outer s H vs Q hr hg h => ?_)
  · obtain ⟨b, rfl, _⟩ := h
    rfl
  · obtain ⟨b, rfl, hb, ht, q⟩ := h
    refine ⟨_, pss_cons (ps_for PassesOwn.never rfl (pi_range1 rfl mr (pa_cons pe_int pa_nil)) (pg_name (i := 1) scRight.nd rfl (.inl rfl))
        (C8.pss_cut (ps_par (i := 2) (j := 3) (by rfl) scRight.nd rfl rfl (by decide) rfl rfl (pa_cons (pe_d DP hr (by decide) (by rfl) (pa_cons (pv 0) (pa_cons (pe_d DO hr (by decide) (by rfl) (pa_cons (pv 0) (pa_cons (pe_lst (pa_cons pe_int (pa_cons pe_int pa_nil))) pa_nil))) pa_nil))) (pa_cons (pe_d DG hr (by decide) (by rfl) (pa_cons (pv 0) pa_nil)) pa_nil)) (by rfl))
        (C8.pss_cut (ps_par (i := 4) (j := 5) (by rfl) scRight.nd rfl rfl (by decide) rfl rfl (pa_cons (pe_make MK GI (hr.mono (by decide)) (by rfl) TP.mgC bI .nil pass0 (pa_cons (pv 2) (pa_cons (pv 3) pa_nil))) (pa_cons (pe_d DL hr (by decide) (by rfl) (pa_cons (pv 0) (pa_cons pe_int (pa_cons pe_int pa_nil)))) pa_nil)) (by rfl))
        (C8.pss_cut (ps_for PassesOwn.never rfl (pi_range1 rfl mr (pa_cons (pe_d DO hr (by decide) (by rfl) (pa_cons (pv 0) (pa_cons (pe_lst (pa_cons pe_int (pa_cons pe_int (pa_cons pe_int pa_nil)))) pa_nil))) pa_nil)) (pg_name (i := 6) scRight.nd rfl (.inl rfl)) (C8.pss_cut (ps_set (i := 4) scRight.nd rfl (.inl rfl) (pe_dg DZ hr hg (by decide) (by rfl) (pa_cons (pv 0) (pa_cons (pv 4) (pa_cons (pv 5) pa_nil))))) (pss_one (ps_if (pt_cmpR op_eq (pe_op op_mod (pv 6) pe_int) pe_int (nomark _)) (C8.pss_cut (ps_set (i := 7) scRight.nd rfl (.inl rfl) (pe_make MK GI (hr.mono (by decide)) (by rfl) TP.mgC bI .nil pass0 (pa_cons (pv 2) (pa_cons (pv 3) pa_nil)))) (C8.pss_cut (ps_for PassesOwn.never rfl (pi_tup (pe_prop (pv 4) TP.cl qL GQ (hr.mono (by decide)) bQ .nil pass0 rfl)) (pg_tup (n := 2) (by rfl) (pgs_cons (pg_name (i := 8) scRight.nd rfl (.inl rfl)) (pgs_cons (pg_name (i := 9) scRight.nd rfl (.inl rfl)) pgs_nil))) (pss_one (ps_expr (pe_callOwn iK nK kK GK (hr.mono (by decide)) bK pass0 (pv 7) (pa_cons (pv 8) (pa_cons (pv 9) pa_nil)))))) (pss_one (ps_if (PW.pt (pw_or (pt_not (pt_cmpR (op_eqOwn (C := CP) iE kE GE (hr.mono (by decide)) bE pass0) (pv 7) (pv 4) (nomark _))) (pw_or1 (pt_cmpR op_ne (pe_dg DS hr hg (by decide) (by rfl) (pa_cons (pv 7) pa_nil)) (pe_dg DS hr hg (by decide) (by rfl) (pa_cons (pv 4) pa_nil)) (nomark _))))) (pss_one (ps_ret pe_bl)) pss_nil)))) pss_nil))))
        (C8.pss_cut (ps_set (i := 10) scRight.nd rfl (.inl rfl) (pe_callTy call_list_of (by rfl) mls (by decide +kernel) (pa_cons (pe_prop (pv 4) TP.cl qL GQ (hr.mono (by decide)) bQ .nil pass0 rfl) pa_nil)))
        (C8.pss_cut (ps_while PassesOwn.never (pt_mid (pt_cmpR (op_neD hr.units) (pv 10) (pe_lst pa_nil) (nomark _))) (pss_one (ps_if (pt_cmpR (op_neD hr.units) (pe_meth0 (pv 4) TP.cl mU GU (hr.mono (by decide)) bU .nil pass0) (pe_bm0 PySem.F.plainAttrs_list PySem.F.slot_list_pop PySem.F.type_list_pop mt_pop (pv 10)) (nomark _)) (pss_one (ps_ret pe_bl)) pss_nil)))
        (pss_one (ps_if (PW.pt (pw_or (pt_not (pt_cmpR (op_eqOwn (C := CP) iE kE GE (hr.mono (by decide)) bE pass0) (pv 4) (pe_make MK GI (hr.mono (by decide)) (by rfl) TP.mgC bI .nil pass0 (pa_cons (pv 2) (pa_cons (pv 3) pa_nil))) (nomark _))) (pw_or1 (pt_cmpR op_ne (pe_dg DS hr hg (by decide) (by rfl) (pa_cons (pv 4) pa_nil)) (pe_dg DS hr hg (by decide) (by rfl) (pa_cons (pe_make MK GI (hr.mono (by decide)) (by rfl) TP.mgC bI .nil pass0 (pa_cons (pv 2) (pa_cons (pv 3) pa_nil))) pa_nil)) (nomark _))))) (pss_one (ps_ret pe_bl)) pss_nil))))))))
      (pss_one (ps_ret pe_bl)), ?_⟩
    refine ⟨_, rfl, by decide, by decide, ?_⟩
    refine for_range (lo := 0) (n := (2 : Int).toNat) (fun i σ H' => (∃ y2 y3 y4 y5 y6 y7 y8 y9 y10 y1, σ = [some (.ref b), y1, y2, y3, y4, y5, y6, y7, y8, y9, y10]) ∧ Ex b H H' ∧ Tabs T H' ∧ Box (1000 * i) H' b) ⟨⟨_, _, _, _, _, _, _, _, _, _, rfl⟩, Ex.refl _ _, ht, hb⟩ (fun i σ H0 hi hp => ?_) (fun σ H0 hp => ?_)
    · obtain ⟨⟨y2, y3, y4, y5, y6, y7, y8, y9, y10, y1, rfl⟩, ex0, tb0, bx0⟩ := hp
      have hi : i < 2 := hi
      obtain ⟨u0, v0', sb0, e0, _⟩ := id bx0
      refine ⟨fun σ H' => ∃ (c g : Addr) (π : Par), σ = [some (.ref b), some (.int (0 + (i : Nat))), some (.ref c), some (.ref g), y4, y5, y6, y7, y8, y9, y10] ∧ But b H0 H' ∧ Box (1000 * i + 30) H' b ∧ SqT K H' c (planV π.k (π.L : Int) π.x) ∧ PlanOk π.k (π.L : Int) π.x ∧ SqT K H' g [.int π.wd, .int π.v0] ∧ 1 ≤ π.wd ∧ π.wd ≤ 4 ∧ 0 ≤ π.v0 ∧ π.v0 ≤ top π.wd, ?_, fun σ H1 hM => ?_⟩
      · refine ⟨.ref b, rfl, .ref b, rfl, by show 2 ≤ sizeLine; decide, fun p np => ?_⟩
        have bxp := bx0.same (same_new (o := .lst [.int 3, .int 64]) np)
        refine ⟨b, p, _, 1000 * i, rfl, SqL.of upd_same, (bx0.ne np).symm, by show 0 < 2; decide, by show 2 ≤ 1000; decide, bxp, by omega, fun i2 v H3 g2 bt3 bx3 sm3 => ?_⟩
        have hv : ∃ n : Int, v = .int n ∧ 0 ≤ n ∧ n ≤ 64 := by
          match i2, g2 with
          | 0, g => exact ⟨3, by rw [← Option.some.inj g], by decide, by decide⟩
          | 1, g => exact ⟨64, by rw [← Option.some.inj g], by decide, by decide⟩
        obtain ⟨n, rfl, n1, n2⟩ := hv
        refine ⟨b, n, 1000 * i + 1, rfl, n1, n2, bx3, by omega, fun H4 c k z x bt4 bx4 cb c0 hc ok => ?_⟩
        refine ⟨.ref b, rfl, b, 1000 * i + 11, rfl, bx4, by omega, fun H5 g wd v0 bt5 bx5 gb ng hg w1 w2 v1 v2 => ?_⟩
        have ez : ((z.toNat : Nat) : Int) = z := Int.toNat_of_nonneg ok.1
        refine ⟨_, _, rfl, c, g, ⟨k, x, z.toNat, wd, v0⟩, rfl, (((But.new np).trans bt3).trans bt4).trans bt5, bx5.up (by omega), ?_, ?_, .inl (.inl hg), w1, w2, v1, (show v0 ≤ top wd from by unfold top; omega)⟩
        · show SqT K H5 c (planV k ((z.toNat : Nat) : Int) x)
          rw [ez]
          exact But.keep bt5 bx4 _ _ (.inl (.inl hc))
        · show PlanOk k ((z.toNat : Nat) : Int) x
          rw [ez]
          exact ok
      obtain ⟨c, g, π, rfl, bt1, bx1, hpl, hok, hga, hw1, hw4, hv1, hv2⟩ := hM
      refine ⟨fun σ H' => ∃ (r : Pd) (t : Addr) (l : List (Int × Int)), σ = [some (.ref b), some (.int (0 + (i : Nat))), some (.ref c), some (.ref g), some (.ref r.p), some (.ref t), y6, y7, y8, y9, y10] ∧ Bas K T H0 H' b c g t l π (1000 * i + 280) ∧ Whx P w K CM CS CP H0 H' b π r [] 0 ∧ Fair l ∧ l.length ≤ 8, ?_, fun σ H2 hM => ?_⟩
      · obtain ⟨u1, v1', sb1, e1, _⟩ := id bx1
        refine ⟨.ref c, rfl, .ref g, rfl, ?_⟩
        intro p dp n1 n2 n3
        refine made_go (CS := CS) n1 n2 n3 hpl hok hga hw1 hw4 hv1 hv2 fun H2 r ep s2 L2' em ek ez ex ew ev _ _ new => ⟨rfl, ?_⟩
        subst ep
        have bx2 := bx1.same s2
        obtain ⟨u2, v2', sb2, e2, _⟩ := id bx2
        have rb : r.st ≠ b := fun z => by
          have h := new _ (.inr (.inr (.inl rfl)))
          rw [z, e1] at h
          cases h
        refine ⟨.ref b, rfl, b, 8, 8, 1000 * i + 30, rfl, by decide, by decide, by decide, by decide, bx2, by omega, fun H3 t l bt3 bx3 hl l1 l2 fair => ?_⟩
        have k3 := But.keep bt3 bx2 (K := K)
        have nw : ∀ a, H1 a = Option.none → Nw H0 a := fun a n => Nw.none (by
          cases e : H0 a with
          | none => rfl
          | some u =>
            have nb : a ≠ b := fun z => by rw [z, e1] at n; cases n
            rw [bt1 a u nb e] at n
            cases n)
        refine ⟨_, _, rfl, r, t, l, rfl, ⟨((Ex.but bt1).trans (Ex.but (But.of_same s2))).trans (Ex.but bt3), tabs_but (tabs_mv (tabs_but tb0 bt1 e0) fun a o _ e => s2 _ _ e) bt3 e2, bx3.up (by omega), k3 _ _ (Same.seqT s2 hpl), hok, k3 _ _ (Same.seqT s2 hga), hw1, hw4, hv1, hv2, hl⟩, ⟨L2'.but e2 rb bt3, rb, fun a ha => nw a (new a ha), Nat.zero_le _, Nat.le_of_eq em, ?_⟩, fair, by omega⟩
        unfold Pd.par
        rw [ek, ez, ex, ew, ev]
        rfl
      obtain ⟨r, t, l, rfl, C2, W2, fair, l8⟩ := hM
      refine ⟨fun σ H' => ∃ (r : Pd) (ps : List (Int × Int)) (y6 y7 y8 y9 : Option V), σ = [some (.ref b), some (.int (0 + (i : Nat))), some (.ref c), some (.ref g), some (.ref r.p), some (.ref t), y6, y7, y8, y9, y10] ∧ Bas K T H0 H' b c g t l π (1000 * i + 700) ∧ Whx P w K CM CS CP H0 H' b π r ps 1300, ?_, fun σ H3 hM => ?_⟩
      · refine ⟨.ref b, rfl, by show 3 ≤ sizeLine; decide, fun p np => ?_⟩
        have s3 := same_new (o := .lst [.int 8, .int 30, .int 80]) np
        have C2' := C2.same s3
        refine ⟨b, p, _, 1000 * i + 280, rfl, SqL.of upd_same, (C2.bx.ne np).symm, by show 0 < 3; decide, by show 3 ≤ 1000; decide, C2'.bx, by omega, fun i2 v H4 g2 bt4 bx4 sm4 => ?_⟩
        have hv : ∃ n : Int, v = .int n ∧ 0 ≤ n ∧ n ≤ 80 := by
          match i2, g2 with
          | 0, g => exact ⟨8, by rw [← Option.some.inj g], by decide, by decide⟩
          | 1, g => exact ⟨30, by rw [← Option.some.inj g], by decide, by decide⟩
          | 2, g => exact ⟨80, by rw [← Option.some.inj g], by decide, by decide⟩
        obtain ⟨n, rfl, n0, n80⟩ := hv
        have C4 := C2'.but bt4 bx4
        obtain ⟨u2, v2', sb2, e2, _⟩ := id C2'.bx
        have W4 : Whx P w K CM CS CP H0 H4 b π r [] 0 := ⟨(W2.same s3).led.but e2 W2.rb bt4, W2.rb, W2.new, W2.pl, W2.ml, W2.par⟩
        refine ⟨_, rfl, by omega, by omega, ?_⟩
        refine for_range (lo := 0) (n := n.toNat) (fun j σ H' => ∃ (r : Pd) (ps : List (Int × Int)) (y6 y7 y8 y9 : Option V), σ = [some (.ref b), some (.int (0 + (i : Nat))), some (.ref c), some (.ref g), some (.ref r.p), some (.ref t), y6, y7, y8, y9, y10] ∧ Bas K T H0 H' b c g t l π (1000 * i + 281 + 4 * j) ∧ Whx P w K CM CS CP H0 H' b π r ps (16 * j)) ⟨r, [], _, _, _, _, rfl, C4, W4⟩ (fun j σ H5 hj hp => ?_) (fun σ H5 hp => ?_)
        · obtain ⟨r, ps, y6, y7, y8, y9, rfl, C5, W5⟩ := hp
          have hj : j < 80 := by omega
          have pl5 := W5.pl
          have ml5 := W5.ml
          refine ⟨fun σ H' => ∃ (r : Pd) (ps : List (Int × Int)), σ = [some (.ref b), some (.int (0 + (i : Nat))), some (.ref c), some (.ref g), some (.ref r.p), some (.ref t), some (.int (0 + (j : Nat))), y7, y8, y9, y10] ∧ Bas K T H0 H' b c g t l π (1000 * i + 281 + 4 * (j + 1)) ∧ Whx P w K CM CS CP H0 H' b π r ps (16 * (j + 1)), ?_, fun σ H6 hM => ?_⟩
          · refine ⟨.ref b, rfl, .ref r.p, rfl, .ref t, rfl, b, t, r, ps, l, 1000 * i + 281 + 4 * j, rfl, C5.tab, C5.bx, by omega, W5.led, W5.rb, by omega, by omega, C5.lp, fair, l8, fun H6 r' ps' ox tb L6 ep kin rb6 bx6 pl6 ml6 => ?_⟩
            refine ⟨r', ps', rfl, (C5.oth W5 ox tb bx6).up (by omega), ⟨L6, rb6, fun a ha => ?_, by omega, by omega, ep.trans W5.par⟩⟩
            rcases kin with k | n
            · rw [k.p, k.m, k.st, k.hd, k.cd] at ha
              exact W5.new a ha
            · exact C5.fresh (n a ha)
          obtain ⟨r, ps, rfl, C6, W6⟩ := hM
          have pl6 := W6.pl
          refine ⟨.int (0 + (j : Nat)), rfl, 0 + (j : Nat), 7, rfl, rfl, (show (0 : Int) < 7 by decide), rfl, _, rfl, ite2 (fun _ => ?_) (fun _ => ?_)⟩
          · refine ⟨fun σ H' => ∃ (f : Pd), σ = [some (.ref b), some (.int (0 + (i : Nat))), some (.ref c), some (.ref g), some (.ref r.p), some (.ref t), some (.int (0 + (j : Nat))), some (.ref f.p), y8, y9, y10] ∧ Bas K T H0 H' b c g t l π (1000 * i + 281 + 4 * (j + 1)) ∧ Whx P w K CM CS CP H0 H' b π r ps (16 * (j + 1)) ∧ Whx P w K CM CS CP H0 H' b π f [] 0 ∧ Apart r f, ?_, fun σ H7 hM => ?_⟩
            · refine ⟨.ref c, rfl, .ref g, rfl, ?_⟩
              intro p dp n1 n2 n3
              refine C6.make (CS := CS) n1 n2 n3 fun H7 f ep s7 C7 F7 new => ⟨rfl, ?_⟩
              subst ep
              exact ⟨f, rfl, C7, W6.same s7, F7, apart_new W6.led new⟩
            obtain ⟨f, rfl, C7, W7, F7, rf7⟩ := hM
            refine ⟨fun σ H' => ∃ (f : Pd) (y8 y9 : Option V), σ = [some (.ref b), some (.int (0 + (i : Nat))), some (.ref c), some (.ref g), some (.ref r.p), some (.ref t), some (.int (0 + (j : Nat))), some (.ref f.p), y8, y9, y10] ∧ Bas K T H0 H' b c g t l π (1000 * i + 281 + 4 * (j + 1)) ∧ Whx P w K CM CS CP H0 H' b π r ps (16 * (j + 1)) ∧ Whx P w K CM CS CP H0 H' b π f ps 2000, ?_, fun σ H8 hM => ?_⟩
            · refine ⟨.ref r.p, rfl, r.p, r.dp, _, rfl, W7.led.pr.1.hpr, r, ps, rfl, W7.led.pr, W7.led.st.at, by omega, fun H8 tt as s8 h8 d8 => ?_⟩
              have lt : as.length = ps.length := by
                have := DpAll.len d8
                rw [List.length_map] at this
                exact this
              refine ⟨tt, rfl, ⟨_, h8⟩, for_tup (K := K) (xs := as) (fun u σ H' => u ≤ ps.length ∧ ∃ (f : Pd) (y8 y9 : Option V), σ = [some (.ref b), some (.int (0 + (i : Nat))), some (.ref c), some (.ref g), some (.ref r.p), some (.ref t), some (.int (0 + (j : Nat))), some (.ref f.p), y8, y9, y10] ∧ Bas K T H0 H' b c g t l π (1000 * i + 281 + 4 * (j + 1)) ∧ Whx P w K CM CS CP H0 H' b π r ps (16 * (j + 1)) ∧ Whx P w K CM CS CP H0 H' b π f (ps.take u) u ∧ Apart r f ∧ Keep K H8 H')
                ⟨Nat.zero_le _, f, _, _, rfl, C7.same s8, W7.same s8, by rw [List.take_zero]; exact F7.same s8, rf7, fun _ _ h => h⟩ (fun u σ H' _ hp => ?_) (fun u v σ H9 hv hp => ?_) (fun σ H9 hp => ?_)⟩
              · obtain ⟨_, _, _, _, _, _, _, _, _, kp⟩ := hp
                exact kp _ _ h8
              · obtain ⟨_, f, z8, z9, rfl, C9, W9, F9, rf9, kp⟩ := hp
                have hu : u < ps.length := by
                  have := (List.getElem?_eq_some_iff.mp hv).1
                  omega
                obtain ⟨y, ya, hy, rfl, sa⟩ := pd_at (pairs_keep d8 kp) hv
                have hf := W9.led.fair y (List.mem_of_getElem? hy)
                have tk : ps.take (u + 1) = ps.take u ++ [y] := by rw [List.take_succ, hy]; rfl
                have fl := F9.pl
                have fm := F9.ml
                refine ⟨ya, _, rfl, sa, rfl, _, _, rfl, _, _, rfl, rfl, ?_⟩
                refine ⟨.ref f.p, rfl, f.p, rfl, ⟨_, _, F9.led.pr.1.hpr⟩, .int y.1, rfl, .int y.2, rfl, ⟨_, _, F9.led.pr.1.hpr⟩, f, _, y.1, y.2, rfl, F9.led, hf.1.1, hf.1.2, hf.2, by omega, by omega, fun H10 s t10 L10 => ?_⟩
                have L10' : Led P w K CM CS CP H10 (f.next y.1 y.2 s) (ps.take (u + 1)) := by rw [tk]; exact L10
                exact ⟨by omega, f.next y.1 y.2 s, _, _, rfl, C9.oth1 F9 t10, W9.oth F9 rf9 t10, F9.lead ((Pd.Akin.refl f).next y.1 y.2 s) L10' (by rw [List.length_take]; omega) (by show f.many + 1 ≤ _; omega), rf9.kin (Pd.Akin.refl r) ((Pd.Akin.refl f).next y.1 y.2 s), kp.trans (t10.keep F9.led.pr)⟩
              · obtain ⟨_, f, z8, z9, rfl, C9, W9, F9, _⟩ := hp
                rw [lt, List.take_length] at F9
                exact ⟨f, z8, z9, rfl, C9, W9, F9.up (by omega)⟩
            obtain ⟨f, z8, z9, rfl, C8, W8, F8⟩ := hM
            refine ⟨.ref f.p, rfl, .ref r.p, rfl, eq_go TI F8 W8 (by decide) (by omega) fun H9 s9 => ?_⟩
            rw [eqv_le W8.led.fair]
            refine ⟨true, rfl, iteF ?_⟩
            have F9 := F8.same s9
            refine ⟨.ref f.p, rfl, f, ps, rfl, F9.led, by omega, fun H10 s10 => ?_⟩
            have W10 := (W8.same s9).same s10
            refine ⟨.ref r.p, rfl, r, ps, rfl, W10.led, by omega, fun H11 s11 => ?_⟩
            rw [F9.par, W10.par]
            generalize (stateD π ps).shown = zx
            refine ⟨rfl, _, rfl, ite2 (fun e => absurd e (neSelf _)) (fun _ => ?_)⟩
            exact ⟨r, ps, _, _, _, _, rfl, ((C8.same s9).same s10).same s11, W10.same s11⟩
          · exact ⟨r, ps, _, _, _, _, rfl, C6, W6⟩
        · obtain ⟨r, ps, y6, y7, y8, y9, rfl, C5, W5⟩ := hp
          exact ⟨r, ps, _, _, _, _, rfl, C5.up (by omega), W5.up (by omega)⟩
      obtain ⟨r, ps, z6, z7, z8, z9, rfl, C3, W3⟩ := hM
      clear C2 W2
      have pl3 := W3.pl
      have ml3 := W3.ml
      refine ⟨fun σ H' => ∃ (A : Addr) (as : List V), σ = [some (.ref b), some (.int (0 + (i : Nat))), some (.ref c), some (.ref g), some (.ref r.p), some (.ref t), z6, z7, z8, z9, some (.ref A)] ∧ H' A = some (.lst as) ∧ DpAll K H' as (ps.map pd) ∧ Nw H0 A ∧ A ≠ b ∧ r.st ≠ A ∧ Bas K T H0 H' b c g t l π (1000 * i + 700) ∧ Whx P w K CM CS CP H0 H' b π r ps 1300, ?_, fun σ H4 hM => ?_⟩
      · refine ⟨.ref r.p, rfl, r.p, r.dp, _, rfl, W3.led.pr.1.hpr, r, ps, rfl, W3.led.pr, W3.led.st.at, by omega, fun H4 tt as s4 h4 d4 => ?_⟩
        refine ⟨tt, as, rfl, .inr h4, fun A nA => ?_⟩
        have s5 := same_new (o := HO.lst as) nA
        have C4 := C3.same s4
        have W4 := W3.same s4
        exact ⟨A, as, rfl, upd_same, pairs_keep d4 (Same.keep s5), C4.fresh nA, fun z => C4.there (by rw [← z]; exact nA), fun z => W4.led.used (.inr (.inr (.inl rfl))) (by rw [z]; exact nA), C4.same s5, W4.same s5⟩
      obtain ⟨A, as, rfl, hA, dA, nwA, Ab, rA, C4, W4⟩ := hM
      refine ⟨fun σ H' => ∃ (r : Pd), σ = [some (.ref b), some (.int (0 + (i : Nat))), some (.ref c), some (.ref g), some (.ref r.p), some (.ref t), z6, z7, z8, z9, some (.ref A)] ∧ Bas K T H0 H' b c g t l π (1000 * i + 700) ∧ Whx P w K CM CS CP H0 H' b π r [] 2700, ?_, fun σ H5 hM => ?_⟩
      · refine ⟨fun n σ H' => ∃ (r : Pd) (ps : List (Int × Int)) (as : List V), ps.length = n ∧ r.many + ps.length ≤ 2600 ∧ σ = [some (.ref b), some (.int (0 + (i : Nat))), some (.ref c), some (.ref g), some (.ref r.p), some (.ref t), z6, z7, z8, z9, some (.ref A)] ∧ H' A = some (.lst as) ∧ DpAll K H' as (ps.map pd) ∧ r.st ≠ A ∧ Bas K T H0 H' b c g t l π (1000 * i + 700) ∧ Whx P w K CM CS CP H0 H' b π r ps 2700, ⟨ps.length, r, ps, as, rfl, by omega, rfl, hA, dA, rA, C4, W4.up (by omega)⟩, fun n σ H5 hW => ?_⟩
        obtain ⟨r, ps, as, en, bd, rfl, hA, dA, rA, C5, W5⟩ := hW
        have las : as.length = ps.length := by
          have := DpAll.len dA
          rw [List.length_map] at this
          exact this
        refine ⟨fun v H' => Same H5 H' ∧ v = !ps.isEmpty, ?_, fun v H6 hv => ?_⟩
        · refine ⟨.ref A, rfl, by show 0 ≤ sizeLine; exact Nat.zero_le _, fun d nd => ?_⟩
          have s6 := same_new (o := HO.lst []) nd
          refine ⟨.list (ps.map pd), .list [], .lst (SqL.of (s6 _ _ hA)) (pairs_keep dA (Same.keep s6)), .lst (SqL.of upd_same) .nil, pairs_sh W5.led.fair, by decide, ?_⟩
          exact ⟨_, rfl, s6, by rw [eqv_pairs]⟩
        · obtain ⟨s6, rfl⟩ := hv
          have C6 := C5.same s6
          have W6 := W5.same s6
          have hA6 := s6 _ _ hA
          have dA6 := pairs_keep dA (Same.keep s6)
          rcases List.eq_nil_or_concat ps with e2 | ⟨qs, p, e2⟩
          · subst e2
            exact iteF ⟨r, rfl, C6, W6⟩
          · rw [List.concat_eq_append] at e2
            subst e2
            have ne : (!(qs ++ [p]).isEmpty) = true := by cases qs <;> rfl
            rw [ne]
            have lq : (qs ++ [p]).length = qs.length + 1 := by rw [List.length_append]; rfl
            refine iteT ⟨fun σ' H' => ∃ (r : Pd) (ps : List (Int × Int)) (as : List V), ps.length = qs.length ∧ r.many + ps.length ≤ 2600 ∧ σ' = [some (.ref b), some (.int (0 + (i : Nat))), some (.ref c), some (.ref g), some (.ref r.p), some (.ref t), z6, z7, z8, z9, some (.ref A)] ∧ H' A = some (.lst as) ∧ DpAll K H' as (ps.map pd) ∧ r.st ≠ A ∧ Bas K T H0 H' b c g t l π (1000 * i + 700) ∧ Whx P w K CM CS CP H0 H' b π r ps 2700, fun σ' H' h => ⟨qs.length, by omega, h⟩, ?_⟩
            refine ⟨.ref r.p, rfl, r.p, r.dp, _, rfl, W6.led.pr.1.hpr, rfl, r, qs, p, rfl, W6.led, by omega, fun H7 a t7 L7 sq7 => ?_⟩
            have hA7 := W6.led.lst t7 hA6 rA
            have k7 := t7.keep W6.led.pr
            have dA7 := pairs_keep dA6 k7
            have W7 := W6.lead (mm' := 2700) ((Pd.Akin.refl r).back qs) L7 (by have := W6.pl; omega) (by show r.many + 1 ≤ _; omega)
            have C7 := C6.oth1 W6 t7
            obtain ⟨x, hx⟩ : ∃ x, as[as.length - 1]? = some x := ⟨as[as.length - 1]'(by omega), List.getElem?_eq_getElem (by omega)⟩
            obtain ⟨y, ya, hy, rfl, sa⟩ := pd_at dA7 hx
            rw [las, lq, show qs.length + 1 - 1 = qs.length by omega, List.getElem?_append_right (Nat.le_refl _), Nat.sub_self] at hy
            obtain rfl : p = y := Option.some.inj hy
            have fp : Fair [p] := fun y hy => by
              rw [List.mem_singleton.mp hy]
              exact W6.led.fair p (List.mem_append_right _ (List.mem_singleton.mpr rfl))
            have shp : SeqAt.shaped (pd p) = true := tame_shaped (pd_tame fp) (by show (PyData.tuple [.int p.1, .int p.2]).depth ≤ 40; simp only [PyData.depth, PyData.depthAll]; omega)
            have kA : Keep K H7 (upd H7 A (.lst as.dropLast)) := keep_wr hA7
            refine ⟨.ref A, rfl, .inl ⟨rfl, _, SqL.of hA7⟩, A, as, _, rfl, rfl, hA7, hx, ?_⟩
            refine ⟨pd p, pd p, .tup (kA _ _ sq7) (.cons (.int _) (.cons (.int _) .nil)), .tup (kA _ _ sa) (.cons (.int _) (.cons (.int _) .nil)), shp, shp, _, rfl, ?_⟩
            rw [eqv_same (pd_tame fp)]
            refine iteF ?_
            have dI : DpAll K (upd H7 A (.lst as.dropLast)) as.dropLast (qs.map pd) := by
              have z := pairs_keep dA7 kA
              rw [List.map_append] at z
              exact dp_init z
            exact ⟨r.back qs, qs, as.dropLast, rfl, by show r.many + 1 + qs.length ≤ _; omega, rfl, upd_same, dI, rA, C7.pop hA7 nwA Ab, ⟨W7.led.but hA7 rA (fun a u n e => by rw [upd_ne n]; exact e), W7.rb, W7.new, W7.pl, W7.ml, W7.par⟩⟩
      obtain ⟨r, rfl, C5, W5⟩ := hM
      refine ⟨.ref r.p, rfl, .ref c, rfl, .ref g, rfl, ?_⟩
      intro p dp n1 n2 n3
      refine C5.make (CS := CS) n1 n2 n3 fun H6 f ep s6 C6 F6 new => ⟨rfl, ?_⟩
      subst ep
      have W6 := W5.same s6
      refine eq_go TI W6 F6 (by decide) (by decide) fun H7 s7 => ⟨true, rfl, iteF ?_⟩
      have W7 := W6.same s7
      have C7 := C6.same s7
      refine ⟨.ref r.p, rfl, r, [], rfl, W7.led, Nat.zero_le _, fun H8 s8 => ?_⟩
      have C8' := C7.same s8
      refine ⟨.ref c, rfl, .ref g, rfl, ?_⟩
      intro p2 dp2 m1 m2 m3
      refine C8'.make (CS := CS) m1 m2 m3 fun H9 f2 ep2 s9 C9 F9 new9 => ⟨rfl, ?_⟩
      subst ep2
      refine ⟨f2, [], rfl, F9.led, Nat.zero_le _, fun H10 s10 => ?_⟩
      rw [W7.par, F9.par]
      generalize (stateD π []).shown = zx
      refine ⟨rfl, _, rfl, ite2 (fun e => absurd e (neSelf _)) (fun _ => ?_)⟩
      have C10 := C9.same s10
      exact ⟨⟨_, _, _, _, _, _, _, _, _, _, rfl⟩, ex0.trans C10.ex, C10.tab, C10.bx.up (by omega)⟩
    · obtain ⟨_, ex, tb, _⟩ := hp
      exact q H0 ex tb
end
end Pf
namespace Pf
open PySem PySem.Spec PyProof.Rows L2 Gk LamX Fold
abbrev sLaw : Stmt := topS 52
abbrev nLaw : List Str := ["_law_script", "_law_k"]
theorem scLaw : FnScope nLaw ["_law_script"] (defScope sLaw) := ⟨rfl, rfl, rfl, by decide +kernel, rfl, by decide +kernel, by decide +kernel⟩
section
variable {P : Program} {w : World} {K : PySem.W.Frag} {mg : Str → Option Value} {base : Heap}
def spLaw (K : PySem.W.Frag) (T : List (Addr × Str)) : Sp := fun vs H Q _ => ∃ (a : Addr) (ns : List Int), vs = [.ref a] ∧ SqL K H a (ns.map V.int) ∧ ns.length ≤ 63 ∧ Tabs T H ∧ ∀ H', Q (.bl true) H'
theorem seqLN {H H' : Hp} {a : Addr} {xs : List V} (x : ExtN H H') (h : SqL K H a xs) : SqL K H' a xs := by
  rcases h with (h | ⟨u, h⟩) | h
  · exact .inl (.inl (x _ _ h (fun ps z => by cases z)))
  · exact .inl (.inr ⟨u, x _ _ h (fun ps z => by cases z)⟩)
  · exact .inr h
theorem ok_law {T : List (Addr × Str)} {f : Addr} {fd : FuncData} {lv : Nat} (hlv : 1 ≤ lv) (DB : Dfn P w K mg base 1 "_law_box" ["_law_script", "_law_k"] (spBox K)) (DR : DfG P w K mg base lv "_law_right" ["_law_box_here"] (spRight T))
    (mr : mg "range" = none) (mx : mg "max" = none) (mn : mg "min" = none) (ml : mg "len" = none) (ma : mg "all" = none) (F : L2.Fun K "law" "law" sLaw f fd) : FnG P w K mg base (lv + 1) f fd ["_law_script"] (spLaw K T) := by
  refine fnG F scLaw (fun vs H Q E h => ?_) (fun cdv A outer s H vs Q hr hg h => ?_)
  · obtain ⟨a, ns, rfl, _⟩ := h
    rfl
  · obtain ⟨a, ns, rfl, hS, hl, tb, q⟩ := h
    refine ⟨_, pss_one (ps_ret (pe_callB (cr_all rfl) (by rfl) ma (by decide +kernel) (pa_cons (pe_lc (own := [("_law_k", 1)]) (g := gName 1) (by rfl) scLaw.nd (pi_range1 rfl mr (pa_cons (pe_callB (call_max2 rfl) (by rfl) mx (by decide +kernel) (pa_cons pe_int (pa_cons (pe_callB (call_min2 rfl) (by rfl) mn (by decide +kernel)
            (pa_cons (pe_callB call_len_seq (by rfl) ml PySem.boot_len (pa_cons (pv 0) pa_nil)) (pa_cons pe_int pa_nil))) pa_nil))) pa_nil)) (blkOk_by (N := nLaw) (sc := defScope sLaw) (by decide +kernel))
          (fun _ _ _ _ _ => pg_name (i := 1) scLaw.nd rfl (.inl rfl)) (fun _ _ _ _ _ => pts_nil) (fun _ _ _ _ _ => pe_dg DR hr hg (Nat.le_refl _) (by rfl) (pa_cons (pe_d DB hr hlv (by rfl) (pa_cons (pv 0) (pa_cons (pv 1) pa_nil))) pa_nil))) pa_nil))), ?_⟩
    refine ⟨.ref a, rfl, a, _, rfl, .inl hS, _, _, rfl, _, _, rfl, _, rfl, ?_, ?_, ?_⟩
    · split <;> split <;> omega
    · split <;> split <;> omega
    · generalize hz : (if (if (2 : Int) < ((ns.map V.int).length : Int) then (2 : Int) else ((ns.map V.int).length : Int)) > 1 then (if (2 : Int) < ((ns.map V.int).length : Int) then (2 : Int) else ((ns.map V.int).length : Int)) else 1) = z
      have z2 : z ≤ 2 := by rw [← hz]; split <;> split <;> omega
      refine fun D nD => lc_range (lo := 0) (n := z.toNat)
        (fun j H' => ExtN H H' ∧ Tabs T H' ∧ H' D = some (.lst ((List.replicate j true).map V.bl))) ⟨(fun a o e _ => same_new nD a o e), tabs_mv tb fun a o _ e => same_new nD _ _ e, upd_same⟩ (fun j H2 hj hp => ?_) (fun H2 hp => ?_)
      · obtain ⟨sm2, tb2, hD⟩ := hp
        refine ⟨rfl, .ref a, rfl, .int (0 + (j : Nat)), rfl, a, ns, 0 + (j : Nat), rfl, seqLN sm2 hS, hl, by omega, by omega, fun b x y nb => ?_⟩
        have sb := same_new (o := .lst [.ref a, .int x, .int y]) nb
        refine ⟨b, rfl, ⟨x, y, 0, upd_same, Int.le_refl _, Int.le_refl _⟩, tabs_mv tb2 fun a o _ e => same_new nb _ _ e, fun H4 ex tb4 => ⟨(List.replicate j true).map V.bl, ex D _ (ne_of_none hD nb) (fun ps z => by cases z) (same_new nb D _ hD), ?_, ?_, ?_, ?_⟩⟩
        · rw [List.length_map, List.length_replicate]
          exact small1000 (by omega)
        · intro c o h k
          rw [upd_ne (ne_of_none h nD)]
          have h2 := sm2 c o h k
          exact ex c o (ne_of_none h2 nb) k (same_new nb c o h2)
        · exact tabs_but tb4 (fun a o n h => by rw [upd_ne n]; exact h) (ex D _ (ne_of_none hD nb) (fun ps z => by cases z) (same_new nb D _ hD))
        · rw [upd_same, List.replicate_succ', List.map_append]
          rfl
      · obtain ⟨sm2, tb2, hD⟩ := hp
        refine ⟨D, List.replicate _ true, rfl, .inl (.inl hD), ?_⟩
        rw [show (List.replicate z.toNat true).all id = true from by simp]
        exact q _
theorem law_start {K : PySem.W.Frag} {ts : List (Addr × Addr)} {H : Hp} {a : Addr} {ns : List Int} (hl : ns.length ≤ 63) (ht : ∀ p ∈ ts, H p.2 = some (.tbl #[])) (hS : SqL K H a (ns.map V.int)) : spLaw K (ts.map fun p => (p.2, lamQ)) [.ref a] H (fun v _ => v = .bl true) L2.E0 :=
  ⟨a, ns, rfl, hS, hl, fun p hp => (by
    obtain ⟨q, hq, rfl⟩ := List.mem_map.mp hp
    exact TabS.nil (ht q hq)), fun _ => rfl⟩
end
end Pf
namespace Pf
open PySem PySem.Spec PyProof.Rows L2 Gk LamX Fold
/-- a def's table: its code object's twelfth part -/
theorem tab_mk {K : PySem.W.Frag} {x : Str} {f c T : Addr} {oc o2 : Value} {od d2 : Option Addr} {fd : FuncData} {osl s2 : Array (Option Value)} {vs : Array Value} (a : PySem.W.nsIn K mainGlobals x = some (some (.ref f))) (l : K.lookup f = some ⟨oc, od, .func fd, osl⟩) (e : fd.code = .ref c)
    (lc : K.lookup c = some ⟨o2, d2, .fields vs, s2⟩) (lp : (vs[11]? : Option Value) = some (.ref T)) : PySem.W.tabIn K x = some (c, T) := by
  unfold PySem.W.tabIn
  rw [a]; dsimp only
  rw [l]; dsimp only
  rw [e]; dsimp only
  rw [lc]; dsimp only
  rw [lp]
theorem all_mk {P : Program} {w : World} {K : PySem.W.Frag} {h : Heap} {mg : Str → Option Value} {fa : Addr} (X : K.In h) (G : h.Ns mainGlobals mg) (hfa : mg "law" = some (.ref fa))
    {f0 : Addr} {od0 an0 : Option Addr} {sl0 : Array (Option Value)} {oc0 kV0 dc0 pm0 cd0 ct0 : Value} {f1 : Addr} {od1 an1 : Option Addr} {sl1 : Array (Option Value)} {oc1 kV1 dc1 pm1 cd1 ct1 : Value} {f2 : Addr} {od2 an2 : Option Addr} {sl2 : Array (Option Value)} {oc2 kV2 dc2 pm2 cd2 ct2 : Value} {f3 : Addr} {od3 an3 : Option Addr} {sl3 : Array (Option Value)} {oc3 kV3 dc3 pm3 cd3 ct3 : Value} {f4 : Addr} {od4 an4 : Option Addr} {sl4 : Array (Option Value)} {oc4 kV4 dc4 pm4 cd4 ct4 : Value} {f5 : Addr} {od5 an5 : Option Addr} {sl5 : Array (Option Value)} {oc5 kV5 dc5 pm5 cd5 ct5 : Value} {f6 : Addr} {od6 an6 : Option Addr} {sl6 : Array (Option Value)} {oc6 kV6 dc6 pm6 cd6 ct6 : Value} {f7 : Addr} {od7 an7 : Option Addr} {sl7 : Array (Option Value)} {oc7 kV7 dc7 pm7 cd7 ct7 : Value} {f8 : Addr} {od8 an8 : Option Addr} {sl8 : Array (Option Value)} {oc8 kV8 dc8 pm8 cd8 ct8 : Value} {f9 : Addr} {od9 an9 : Option Addr} {sl9 : Array (Option Value)} {oc9 kV9 dc9 pm9 cd9 ct9 : Value} {f10 : Addr} {od10 an10 : Option Addr} {sl10 : Array (Option Value)} {oc10 kV10 dc10 pm10 cd10 ct10 : Value} {f11 : Addr} {od11 an11 : Option Addr} {sl11 : Array (Option Value)} {oc11 kV11 dc11 pm11 cd11 ct11 : Value} {f12 : Addr} {od12 an12 : Option Addr} {sl12 : Array (Option Value)} {oc12 kV12 dc12 pm12 cd12 ct12 : Value} {f13 : Addr} {od13 an13 : Option Addr} {sl13 : Array (Option Value)} {oc13 kV13 dc13 pm13 cd13 ct13 : Value} {f14 : Addr} {od14 an14 : Option Addr} {sl14 : Array (Option Value)} {oc14 kV14 dc14 pm14 cd14 ct14 : Value} {f15 : Addr} {od15 an15 : Option Addr} {sl15 : Array (Option Value)} {oc15 kV15 dc15 pm15 cd15 ct15 : Value} {f16 : Addr} {od16 an16 : Option Addr} {sl16 : Array (Option Value)} {oc16 kV16 dc16 pm16 cd16 ct16 : Value} {f17 : Addr} {od17 an17 : Option Addr} {sl17 : Array (Option Value)} {oc17 kV17 dc17 pm17 cd17 ct17 : Value} {f18 : Addr} {od18 an18 : Option Addr} {sl18 : Array (Option Value)} {oc18 kV18 dc18 pm18 cd18 ct18 : Value} {f19 : Addr} {od19 an19 : Option Addr} {sl19 : Array (Option Value)} {oc19 kV19 dc19 pm19 cd19 ct19 : Value} {f20 : Addr} {od20 an20 : Option Addr} {sl20 : Array (Option Value)} {oc20 kV20 dc20 pm20 cd20 ct20 : Value} {f21 : Addr} {od21 an21 : Option Addr} {sl21 : Array (Option Value)} {oc21 kV21 dc21 pm21 cd21 ct21 : Value} {f22 : Addr} {od22 an22 : Option Addr} {sl22 : Array (Option Value)} {oc22 kV22 dc22 pm22 cd22 ct22 : Value} {f23 : Addr} {od23 an23 : Option Addr} {sl23 : Array (Option Value)} {oc23 kV23 dc23 pm23 cd23 ct23 : Value} {f24 : Addr} {od24 an24 : Option Addr} {sl24 : Array (Option Value)} {oc24 kV24 dc24 pm24 cd24 ct24 : Value} {f25 : Addr} {od25 an25 : Option Addr} {sl25 : Array (Option Value)} {oc25 kV25 dc25 pm25 ct25 : Value} {xcc : Addr} {f26 : Addr} {od26 an26 : Option Addr} {sl26 : Array (Option Value)} {oc26 kV26 dc26 pm26 cd26 ct26 : Value} {f27 : Addr} {od27 an27 : Option Addr} {sl27 : Array (Option Value)} {oc27 kV27 dc27 pm27 cd27 ct27 : Value}
    (a0 : PySem.W.nsIn K mainGlobals "is_integer" = some (some (.ref f0)))
    (l0 : K.lookup f0 = some ⟨oc0, od0, .func (PySem.W.fnOf "is_integer" "is_integer" (defArgs sInteger) (defBody sInteger) (defScope sInteger) .none kV0 dc0 pm0 an0 cd0 ct0), sl0⟩)
    (c0 : PySem.W.codeIn K cd0 "is_integer" = true) (k0 : PySem.W.keepIn K (.ref f0) = true)
    (a1 : PySem.W.nsIn K mainGlobals "is_within" = some (some (.ref f1)))
    (l1 : K.lookup f1 = some ⟨oc1, od1, .func (PySem.W.fnOf "is_within" "is_within" (defArgs sWithin) (defBody sWithin) (defScope sWithin) .none kV1 dc1 pm1 an1 cd1 ct1), sl1⟩)
    (c1 : PySem.W.codeIn K cd1 "is_within" = true) (k1 : PySem.W.keepIn K (.ref f1) = true)
    (a2 : PySem.W.nsIn K mainGlobals "is_tuple_sized" = some (some (.ref f2)))
    (l2 : K.lookup f2 = some ⟨oc2, od2, .func (PySem.W.fnOf "is_tuple_sized" "is_tuple_sized" (defArgs sSized) (defBody sSized) (defScope sSized) .none kV2 dc2 pm2 an2 cd2 ct2), sl2⟩)
    (c2 : PySem.W.codeIn K cd2 "is_tuple_sized" = true) (k2 : PySem.W.keepIn K (.ref f2) = true)
    (a3 : PySem.W.nsIn K mainGlobals "is_branch" = some (some (.ref f3)))
    (l3 : K.lookup f3 = some ⟨oc3, od3, .func (PySem.W.fnOf "is_branch" "is_branch" (defArgs sBranch) (defBody sBranch) (defScope sBranch) .none kV3 dc3 pm3 an3 cd3 ct3), sl3⟩)
    (c3 : PySem.W.codeIn K cd3 "is_branch" = true) (k3 : PySem.W.keepIn K (.ref f3) = true)
    (a4 : PySem.W.nsIn K mainGlobals "is_outcome" = some (some (.ref f4)))
    (l4 : K.lookup f4 = some ⟨oc4, od4, .func (PySem.W.fnOf "is_outcome" "is_outcome" (defArgs sOutcome) (defBody sOutcome) (defScope sOutcome) .none kV4 dc4 pm4 an4 cd4 ct4), sl4⟩)
    (c4 : PySem.W.codeIn K cd4 "is_outcome" = true) (k4 : PySem.W.keepIn K (.ref f4) = true)
    (a5 : PySem.W.nsIn K mainGlobals "is_scheme" = some (some (.ref f5)))
    (l5 : K.lookup f5 = some ⟨oc5, od5, .func (PySem.W.fnOf "is_scheme" "is_scheme" (defArgs sScheme) (defBody sScheme) (defScope sScheme) .none kV5 dc5 pm5 an5 cd5 ct5), sl5⟩)
    (c5 : PySem.W.codeIn K cd5 "is_scheme" = true) (k5 : PySem.W.keepIn K (.ref f5) = true)
    (a6 : PySem.W.nsIn K mainGlobals "is_counter" = some (some (.ref f6)))
    (l6 : K.lookup f6 = some ⟨oc6, od6, .func (PySem.W.fnOf "is_counter" "is_counter" (defArgs sCounter) (defBody sCounter) (defScope sCounter) .none kV6 dc6 pm6 an6 cd6 ct6), sl6⟩)
    (c6 : PySem.W.codeIn K cd6 "is_counter" = true) (k6 : PySem.W.keepIn K (.ref f6) = true)
    (a7 : PySem.W.nsIn K mainGlobals "most_value" = some (some (.ref f7)))
    (l7 : K.lookup f7 = some ⟨oc7, od7, .func (PySem.W.fnOf "most_value" "most_value" (defArgs sMost) (defBody sMost) (defScope sMost) .none kV7 dc7 pm7 an7 cd7 ct7), sl7⟩)
    (c7 : PySem.W.codeIn K cd7 "most_value" = true) (k7 : PySem.W.keepIn K (.ref f7) = true)
    (a8 : PySem.W.nsIn K mainGlobals "predicted" = some (some (.ref f8)))
    (l8 : K.lookup f8 = some ⟨oc8, od8, .func (PySem.W.fnOf "predicted" "predicted" (defArgs sPred) (defBody sPred) (defScope sPred) .none kV8 dc8 pm8 an8 cd8 ct8), sl8⟩)
    (c8 : PySem.W.codeIn K cd8 "predicted" = true) (k8 : PySem.W.keepIn K (.ref f8) = true)
    (a9 : PySem.W.nsIn K mainGlobals "value_after" = some (some (.ref f9)))
    (l9 : K.lookup f9 = some ⟨oc9, od9, .func (PySem.W.fnOf "value_after" "value_after" (defArgs sAft) (defBody sAft) (defScope sAft) .none kV9 dc9 pm9 an9 cd9 ct9), sl9⟩)
    (c9 : PySem.W.codeIn K cd9 "value_after" = true) (k9 : PySem.W.keepIn K (.ref f9) = true)
    (a10 : PySem.W.nsIn K mainGlobals "_binary" = some (some (.ref f10)))
    (l10 : K.lookup f10 = some ⟨oc10, od10, .func (PySem.W.fnOf "_binary" "_binary" (defArgs sBin) (defBody sBin) (defScope sBin) .none kV10 dc10 pm10 an10 cd10 ct10), sl10⟩)
    (c10 : PySem.W.codeIn K cd10 "_binary" = true) (k10 : PySem.W.keepIn K (.ref f10) = true)
    (a11 : PySem.W.nsIn K mainGlobals "fold" = some (some (.ref f11)))
    (l11 : K.lookup f11 = some ⟨oc11, od11, .func (PySem.W.fnOf "fold" "fold" (defArgs sFold) (defBody sFold) (defScope sFold) .none kV11 dc11 pm11 an11 cd11 ct11), sl11⟩)
    (c11 : PySem.W.codeIn K cd11 "fold" = true) (k11 : PySem.W.keepIn K (.ref f11) = true)
    (a12 : PySem.W.nsIn K mainGlobals "cell_of" = some (some (.ref f12)))
    (l12 : K.lookup f12 = some ⟨oc12, od12, .func (PySem.W.fnOf "cell_of" "cell_of" (defArgs sCellOf) (defBody sCellOf) (defScope sCellOf) .none kV12 dc12 pm12 an12 cd12 ct12), sl12⟩)
    (c12 : PySem.W.codeIn K cd12 "cell_of" = true) (k12 : PySem.W.keepIn K (.ref f12) = true)
    (a13 : PySem.W.nsIn K mainGlobals "owner_of" = some (some (.ref f13)))
    (l13 : K.lookup f13 = some ⟨oc13, od13, .func (PySem.W.fnOf "owner_of" "owner_of" (defArgs sOwner) (defBody sOwner) (defScope sOwner) .none kV13 dc13 pm13 an13 cd13 ct13), sl13⟩)
    (c13 : PySem.W.codeIn K cd13 "owner_of" = true) (k13 : PySem.W.keepIn K (.ref f13) = true)
    (a14 : PySem.W.nsIn K mainGlobals "pushed" = some (some (.ref f14)))
    (l14 : K.lookup f14 = some ⟨oc14, od14, .func (PySem.W.fnOf "pushed" "pushed" (defArgs sPushed) (defBody sPushed) (defScope sPushed) .none kV14 dc14 pm14 an14 cd14 ct14), sl14⟩)
    (c14 : PySem.W.codeIn K cd14 "pushed" = true) (k14 : PySem.W.keepIn K (.ref f14) = true)
    (a15 : PySem.W.nsIn K mainGlobals "_is_like_a_cell" = some (some (.ref f15)))
    (l15 : K.lookup f15 = some ⟨oc15, od15, .func (PySem.W.fnOf "_is_like_a_cell" "_is_like_a_cell" (defArgs sLike) (defBody sLike) (defScope sLike) .none kV15 dc15 pm15 an15 cd15 ct15), sl15⟩)
    (c15 : PySem.W.codeIn K cd15 "_is_like_a_cell" = true) (k15 : PySem.W.keepIn K (.ref f15) = true)
    (a16 : PySem.W.nsIn K mainGlobals "_law_box" = some (some (.ref f16)))
    (l16 : K.lookup f16 = some ⟨oc16, od16, .func (PySem.W.fnOf "_law_box" "_law_box" (defArgs sBox) (defBody sBox) (defScope sBox) .none kV16 dc16 pm16 an16 cd16 ct16), sl16⟩)
    (c16 : PySem.W.codeIn K cd16 "_law_box" = true) (k16 : PySem.W.keepIn K (.ref f16) = true)
    (a17 : PySem.W.nsIn K mainGlobals "_law_take" = some (some (.ref f17)))
    (l17 : K.lookup f17 = some ⟨oc17, od17, .func (PySem.W.fnOf "_law_take" "_law_take" (defArgs sTake) (defBody sTake) (defScope sTake) .none kV17 dc17 pm17 an17 cd17 ct17), sl17⟩)
    (c17 : PySem.W.codeIn K cd17 "_law_take" = true) (k17 : PySem.W.keepIn K (.ref f17) = true)
    (a18 : PySem.W.nsIn K mainGlobals "_law_of" = some (some (.ref f18)))
    (l18 : K.lookup f18 = some ⟨oc18, od18, .func (PySem.W.fnOf "_law_of" "_law_of" (defArgs sOf) (defBody sOf) (defScope sOf) .none kV18 dc18 pm18 an18 cd18 ct18), sl18⟩)
    (c18 : PySem.W.codeIn K cd18 "_law_of" = true) (k18 : PySem.W.keepIn K (.ref f18) = true)
    (a19 : PySem.W.nsIn K mainGlobals "_law_row" = some (some (.ref f19)))
    (l19 : K.lookup f19 = some ⟨oc19, od19, .func (PySem.W.fnOf "_law_row" "_law_row" (defArgs sRow) (defBody sRow) (defScope sRow) .none kV19 dc19 pm19 an19 cd19 ct19), sl19⟩)
    (c19 : PySem.W.codeIn K cd19 "_law_row" = true) (k19 : PySem.W.keepIn K (.ref f19) = true)
    (a20 : PySem.W.nsIn K mainGlobals "_law_loop" = some (some (.ref f20)))
    (l20 : K.lookup f20 = some ⟨oc20, od20, .func (PySem.W.fnOf "_law_loop" "_law_loop" (defArgs sLoop) (defBody sLoop) (defScope sLoop) .none kV20 dc20 pm20 an20 cd20 ct20), sl20⟩)
    (c20 : PySem.W.codeIn K cd20 "_law_loop" = true) (k20 : PySem.W.keepIn K (.ref f20) = true)
    (a21 : PySem.W.nsIn K mainGlobals "_law_plan" = some (some (.ref f21)))
    (l21 : K.lookup f21 = some ⟨oc21, od21, .func (PySem.W.fnOf "_law_plan" "_law_plan" (defArgs sPlan) (defBody sPlan) (defScope sPlan) .none kV21 dc21 pm21 an21 cd21 ct21), sl21⟩)
    (c21 : PySem.W.codeIn K cd21 "_law_plan" = true) (k21 : PySem.W.keepIn K (.ref f21) = true)
    (a22 : PySem.W.nsIn K mainGlobals "_law_gauge" = some (some (.ref f22)))
    (l22 : K.lookup f22 = some ⟨oc22, od22, .func (PySem.W.fnOf "_law_gauge" "_law_gauge" (defArgs sGau) (defBody sGau) (defScope sGau) .none kV22 dc22 pm22 an22 cd22 ct22), sl22⟩)
    (c22 : PySem.W.codeIn K cd22 "_law_gauge" = true) (k22 : PySem.W.keepIn K (.ref f22) = true)
    (a23 : PySem.W.nsIn K mainGlobals "tried" = some (some (.ref f23)))
    (l23 : K.lookup f23 = some ⟨oc23, od23, .func (PySem.W.fnOf "tried" "tried" (defArgs sTried) (defBody sTried) (defScope sTried) .none kV23 dc23 pm23 an23 cd23 ct23), sl23⟩)
    (c23 : PySem.W.codeIn K cd23 "tried" = true) (k23 : PySem.W.keepIn K (.ref f23) = true)
    (a24 : PySem.W.nsIn K mainGlobals "_law_state" = some (some (.ref f24)))
    (l24 : K.lookup f24 = some ⟨oc24, od24, .func (PySem.W.fnOf "_law_state" "_law_state" (defArgs sState) (defBody sState) (defScope sState) .none kV24 dc24 pm24 an24 cd24 ct24), sl24⟩)
    (c24 : PySem.W.codeIn K cd24 "_law_state" = true) (k24 : PySem.W.keepIn K (.ref f24) = true)
    (a25 : PySem.W.nsIn K mainGlobals "_law_step" = some (some (.ref f25)))
    (l25 : K.lookup f25 = some ⟨oc25, od25, .func (PySem.W.fnOf "_law_step" "_law_step" (defArgs sStep) (defBody sStep) (defScope sStep) .none kV25 dc25 pm25 an25 (.ref xcc) ct25), sl25⟩)
    (c25 : PySem.W.codeIn K (.ref xcc) "_law_step" = true) (k25 : PySem.W.keepIn K (.ref f25) = true)
    (a26 : PySem.W.nsIn K mainGlobals "_law_right" = some (some (.ref f26)))
    (l26 : K.lookup f26 = some ⟨oc26, od26, .func (PySem.W.fnOf "_law_right" "_law_right" (defArgs sRight) (defBody sRight) (defScope sRight) .none kV26 dc26 pm26 an26 cd26 ct26), sl26⟩)
    (c26 : PySem.W.codeIn K cd26 "_law_right" = true) (k26 : PySem.W.keepIn K (.ref f26) = true)
    (a27 : PySem.W.nsIn K mainGlobals "law" = some (some (.ref f27)))
    (l27 : K.lookup f27 = some ⟨oc27, od27, .func (PySem.W.fnOf "law" "law" (defArgs sLaw) (defBody sLaw) (defScope sLaw) .none kV27 dc27 pm27 an27 cd27 ct27), sl27⟩)
    (c27 : PySem.W.codeIn K cd27 "law" = true) (k27 : PySem.W.keepIn K (.ref f27) = true)
    (z0 : PySem.W.nsIn K mainGlobals "int" = some none)
    (z1 : PySem.W.nsIn K mainGlobals "len" = some none)
    (z2 : PySem.W.nsIn K mainGlobals "abs" = some none)
    (z3 : PySem.W.nsIn K mainGlobals "range" = some none)
    (z4 : PySem.W.nsIn K mainGlobals "enumerate" = some none)
    (z5 : PySem.W.nsIn K mainGlobals "max" = some none)
    (z6 : PySem.W.nsIn K mainGlobals "min" = some none)
    (z7 : PySem.W.nsIn K mainGlobals "all" = some none)
    (z8 : PySem.W.nsIn K mainGlobals "repr" = some none)
    (z9 : PySem.W.nsIn K mainGlobals "zip" = some none)
    (z10 : PySem.W.nsIn K mainGlobals "tuple" = some none)
    (z11 : PySem.W.nsIn K mainGlobals "str" = some none)
    (z12 : PySem.W.nsIn K mainGlobals "list" = some none)
    (z13 : PySem.W.nsIn K mainGlobals "sorted" = some none)
    (z14 : PySem.W.nsIn K mainGlobals "isinstance" = some none)
    (z15 : PySem.W.nsIn K mainGlobals "bool" = some none)
    (z16 : PySem.W.nsIn K mainGlobals "divmod" = some none)
    {tk0 : Tok} (q0 : PySem.W.nsIn K mainGlobals "MOST_LENGTH" = some (some (.int 64 tk0)))
    {tk1 : Tok} (q1 : PySem.W.nsIn K mainGlobals "MOST_FOLD_BITS" = some (some (.int 16 tk1)))
    {tk2 : Tok} (q2 : PySem.W.nsIn K mainGlobals "MOST_COUNTER_BITS" = some (some (.int 4 tk2)))
    {tk3 : Tok} (q3 : PySem.W.nsIn K mainGlobals "LAST_BRANCH" = some (some (.int 7 tk3)))
    {ft0 : Addr} {odt0 : Option Addr} {nt0 : Nat} {slt0 : Array (Option Value)} {ut0_0 ut0_1 ut0_2 : Tok}
    (ta0 : PySem.W.nsIn K mainGlobals "PLAIN_WORDS" = some (some (.ref ft0)))
    (tb0 : K.lookup ft0 = some ⟨.type "tuple", odt0, .seq #[.str "own" ut0_0, .str "split" ut0_1, .str "shared" ut0_2] nt0, slt0⟩)
    {CS : Addr}
    (acS : PySem.W.nsIn K mainGlobals "Step" = some (some (.ref CS)))
    (pgS : PySem.W.plainGet K CS Str.empty = true)
    (hdS : PySem.W.hasDictIn K CS = true)
    (poS : PySem.W.plainOver K CS = true)
    (saS : PySem.W.findIn K (.ref CS) "__setattr__" = some (some (.builtin "object.__setattr__")))
    (mkS : PySem.W.makesIn K CS = true)
    (kcS : PySem.W.keepIn K (.ref CS) = true)
    (nS0 : PySem.W.findIn K (.ref CS) "pair" = some none)
    (nS1 : PySem.W.findIn K (.ref CS) "is_wrong" = some none)
    (nS2 : PySem.W.findIn K (.ref CS) "owner" = some none)
    (nS3 : PySem.W.findIn K (.ref CS) "old_history" = some none)
    (nS4 : PySem.W.findIn K (.ref CS) "place" = some none)
    (nS5 : PySem.W.findIn K (.ref CS) "old_value" = some none)
    {CM : Addr}
    (acM : PySem.W.nsIn K mainGlobals "Memory" = some (some (.ref CM)))
    (pgM : PySem.W.plainGet K CM Str.empty = true)
    (hdM : PySem.W.hasDictIn K CM = true)
    (poM : PySem.W.plainOver K CM = true)
    (saM : PySem.W.findIn K (.ref CM) "__setattr__" = some (some (.builtin "object.__setattr__")))
    (mkM : PySem.W.makesIn K CM = true)
    (kcM : PySem.W.keepIn K (.ref CM) = true)
    (nM0 : PySem.W.findIn K (.ref CM) "steps" = some none)
    (nM1 : PySem.W.findIn K (.ref CM) "histories" = some none)
    (nM2 : PySem.W.findIn K (.ref CM) "cells" = some none)
    (nM3 : PySem.W.findIn K (.ref CM) "wrong" = some none)
    {CP : Addr}
    (acP : PySem.W.nsIn K mainGlobals "Predictor" = some (some (.ref CP)))
    (pgP : PySem.W.plainGet K CP Str.empty = true)
    (hdP : PySem.W.hasDictIn K CP = true)
    (poP : PySem.W.plainOver K CP = true)
    (saP : PySem.W.findIn K (.ref CP) "__setattr__" = some (some (.builtin "object.__setattr__")))
    (mkP : PySem.W.makesIn K CP = true)
    (kcP : PySem.W.keepIn K (.ref CP) = true)
    (nP0 : PySem.W.findIn K (.ref CP) "_scheme" = some none)
    (nP1 : PySem.W.findIn K (.ref CP) "_counter" = some none)
    (nP2 : PySem.W.findIn K (.ref CP) "_memory" = some none)
    {CK : Addr}
    (acK : PySem.W.nsIn K mainGlobals "Kept" = some (some (.ref CK)))
    (pgK : PySem.W.plainGet K CK Str.empty = true)
    (hdK : PySem.W.hasDictIn K CK = true)
    (poK : PySem.W.plainOver K CK = true)
    (saK : PySem.W.findIn K (.ref CK) "__setattr__" = some (some (.builtin "object.__setattr__")))
    (mkK : PySem.W.makesIn K CK = true)
    (kcK : PySem.W.keepIn K (.ref CK) = true)
    (nK0 : PySem.W.findIn K (.ref CK) "memory" = some none)
    (nK1 : PySem.W.findIn K (.ref CK) "outer" = some none)
    {CT : Addr}
    (acT : PySem.W.nsIn K mainGlobals "Trial" = some (some (.ref CT)))
    (pgT : PySem.W.plainGet K CT Str.empty = true)
    (hdT : PySem.W.hasDictIn K CT = true)
    (poT : PySem.W.plainOver K CT = true)
    (saT : PySem.W.findIn K (.ref CT) "__setattr__" = some (some (.builtin "object.__setattr__")))
    (mkT : PySem.W.makesIn K CT = true)
    (kcT : PySem.W.keepIn K (.ref CT) = true)
    (nT0 : PySem.W.findIn K (.ref CT) "_predictor" = some none)
    (nT1 : PySem.W.findIn K (.ref CT) "_kept" = some none)
    {fSI : Addr} {odSI anSI : Option Addr} {slSI : Array (Option Value)} {ocSI kVSI dcSI pmSI cdSI ctSI : Value}
    (aSI : PySem.W.findIn K (.ref CS) "__init__" = some (some (.ref fSI)))
    (iSI : PySem.W.isFn K (.ref fSI) = true)
    (lSI : K.lookup fSI = some ⟨ocSI, odSI, .func (PySem.W.fnOf "__init__" "Step.__init__" (defArgs sStepI) (defBody sStepI) (defScope sStepI) .none kVSI dcSI pmSI anSI cdSI ctSI), slSI⟩)
    (cSI : PySem.W.codeIn K cdSI "Step.__init__" = true)
    (kSI : PySem.W.keepIn K (.ref fSI) = true)
    {fMI : Addr} {odMI anMI : Option Addr} {slMI : Array (Option Value)} {ocMI kVMI dcMI pmMI cdMI ctMI : Value}
    (aMI : PySem.W.findIn K (.ref CM) "__init__" = some (some (.ref fMI)))
    (iMI : PySem.W.isFn K (.ref fMI) = true)
    (lMI : K.lookup fMI = some ⟨ocMI, odMI, .func (PySem.W.fnOf "__init__" "Memory.__init__" (defArgs sMemI) (defBody sMemI) (defScope sMemI) .none kVMI dcMI pmMI anMI cdMI ctMI), slMI⟩)
    (cMI : PySem.W.codeIn K cdMI "Memory.__init__" = true)
    (kMI : PySem.W.keepIn K (.ref fMI) = true)
    {fMK : Addr} {odMK anMK : Option Addr} {slMK : Array (Option Value)} {ocMK kVMK dcMK pmMK cdMK ctMK : Value}
    (aMK : PySem.W.findIn K (.ref CM) "keep" = some (some (.ref fMK)))
    (iMK : PySem.W.isFn K (.ref fMK) = true)
    (lMK : K.lookup fMK = some ⟨ocMK, odMK, .func (PySem.W.fnOf "keep" "Memory.keep" (defArgs sKeep) (defBody sKeep) (defScope sKeep) .none kVMK dcMK pmMK anMK cdMK ctMK), slMK⟩)
    (cMK : PySem.W.codeIn K cdMK "Memory.keep" = true)
    (kMK : PySem.W.keepIn K (.ref fMK) = true)
    {fMB : Addr} {odMB anMB : Option Addr} {slMB : Array (Option Value)} {ocMB kVMB dcMB pmMB cdMB ctMB : Value}
    (aMB : PySem.W.findIn K (.ref CM) "take_back" = some (some (.ref fMB)))
    (iMB : PySem.W.isFn K (.ref fMB) = true)
    (lMB : K.lookup fMB = some ⟨ocMB, odMB, .func (PySem.W.fnOf "take_back" "Memory.take_back" (defArgs sTakeBack) (defBody sTakeBack) (defScope sTakeBack) .none kVMB dcMB pmMB anMB cdMB ctMB), slMB⟩)
    (cMB : PySem.W.codeIn K cdMB "Memory.take_back" = true)
    (kMB : PySem.W.keepIn K (.ref fMB) = true)
    {fMC : Addr} {odMC anMC : Option Addr} {slMC : Array (Option Value)} {ocMC kVMC dcMC pmMC cdMC ctMC : Value}
    (aMC : PySem.W.findIn K (.ref CM) "copied" = some (some (.ref fMC)))
    (iMC : PySem.W.isFn K (.ref fMC) = true)
    (lMC : K.lookup fMC = some ⟨ocMC, odMC, .func (PySem.W.fnOf "copied" "Memory.copied" (defArgs sCopied) (defBody sCopied) (defScope sCopied) .none kVMC dcMC pmMC anMC cdMC ctMC), slMC⟩)
    (cMC : PySem.W.codeIn K cdMC "Memory.copied" = true)
    (kMC : PySem.W.keepIn K (.ref fMC) = true)
    {fKi : Addr} {odKi anKi : Option Addr} {slKi : Array (Option Value)} {ocKi kVKi dcKi pmKi cdKi ctKi : Value}
    (aKi : PySem.W.findIn K (.ref CK) "__init__" = some (some (.ref fKi)))
    (iKi : PySem.W.isFn K (.ref fKi) = true)
    (lKi : K.lookup fKi = some ⟨ocKi, odKi, .func (PySem.W.fnOf "__init__" "Kept.__init__" (defArgs sKeptI) (defBody sKeptI) (defScope sKeptI) .none kVKi dcKi pmKi anKi cdKi ctKi), slKi⟩)
    (cKi : PySem.W.codeIn K cdKi "Kept.__init__" = true)
    (kKi : PySem.W.keepIn K (.ref fKi) = true)
    {fPI : Addr} {odPI anPI : Option Addr} {slPI : Array (Option Value)} {ocPI kVPI dcPI pmPI cdPI ctPI : Value}
    (aPI : PySem.W.findIn K (.ref CP) "__init__" = some (some (.ref fPI)))
    (iPI : PySem.W.isFn K (.ref fPI) = true)
    (lPI : K.lookup fPI = some ⟨ocPI, odPI, .func (PySem.W.fnOf "__init__" "Predictor.__init__" (defArgs sPrI) (defBody sPrI) (defScope sPrI) .none kVPI dcPI pmPI anPI cdPI ctPI), slPI⟩)
    (cPI : PySem.W.codeIn K cdPI "Predictor.__init__" = true)
    (kPI : PySem.W.keepIn K (.ref fPI) = true)
    {fNe : Addr} {odNe anNe : Option Addr} {slNe : Array (Option Value)} {ocNe kVNe dcNe pmNe cdNe ctNe : Value}
    (aNe : PySem.W.findIn K (.ref CP) "_newest" = some (some (.ref fNe)))
    (iNe : PySem.W.isFn K (.ref fNe) = true)
    (lNe : K.lookup fNe = some ⟨ocNe, odNe, .func (PySem.W.fnOf "_newest" "Predictor._newest" (defArgs sNewest) (defBody sNewest) (defScope sNewest) .none kVNe dcNe pmNe anNe cdNe ctNe), slNe⟩)
    (cNe : PySem.W.codeIn K cdNe "Predictor._newest" = true)
    (kNe : PySem.W.keepIn K (.ref fNe) = true)
    {fHi : Addr} {odHi anHi : Option Addr} {slHi : Array (Option Value)} {ocHi kVHi dcHi pmHi cdHi ctHi : Value}
    (aHi : PySem.W.findIn K (.ref CP) "history" = some (some (.ref fHi)))
    (iHi : PySem.W.isFn K (.ref fHi) = true)
    (lHi : K.lookup fHi = some ⟨ocHi, odHi, .func (PySem.W.fnOf "history" "Predictor.history" (defArgs sHistory) (defBody sHistory) (defScope sHistory) .none kVHi dcHi pmHi anHi cdHi ctHi), slHi⟩)
    (cHi : PySem.W.codeIn K cdHi "Predictor.history" = true)
    (kHi : PySem.W.keepIn K (.ref fHi) = true)
    {fCe : Addr} {odCe anCe : Option Addr} {slCe : Array (Option Value)} {ocCe kVCe dcCe pmCe cdCe ctCe : Value}
    (aCe : PySem.W.findIn K (.ref CP) "cell" = some (some (.ref fCe)))
    (iCe : PySem.W.isFn K (.ref fCe) = true)
    (lCe : K.lookup fCe = some ⟨ocCe, odCe, .func (PySem.W.fnOf "cell" "Predictor.cell" (defArgs sCell) (defBody sCell) (defScope sCell) .none kVCe dcCe pmCe anCe cdCe ctCe), slCe⟩)
    (cCe : PySem.W.codeIn K cdCe "Predictor.cell" = true)
    (kCe : PySem.W.keepIn K (.ref fCe) = true)
    {fPr : Addr} {odPr anPr : Option Addr} {slPr : Array (Option Value)} {ocPr kVPr dcPr pmPr cdPr ctPr : Value}
    (aPr : PySem.W.findIn K (.ref CP) "predict" = some (some (.ref fPr)))
    (iPr : PySem.W.isFn K (.ref fPr) = true)
    (lPr : K.lookup fPr = some ⟨ocPr, odPr, .func (PySem.W.fnOf "predict" "Predictor.predict" (defArgs sPredict) (defBody sPredict) (defScope sPredict) .none kVPr dcPr pmPr anPr cdPr ctPr), slPr⟩)
    (cPr : PySem.W.codeIn K cdPr "Predictor.predict" = true)
    (kPr : PySem.W.keepIn K (.ref fPr) = true)
    {fTa : Addr} {odTa anTa : Option Addr} {slTa : Array (Option Value)} {ocTa kVTa dcTa pmTa cdTa ctTa : Value}
    (aTa : PySem.W.findIn K (.ref CP) "_take" = some (some (.ref fTa)))
    (iTa : PySem.W.isFn K (.ref fTa) = true)
    (lTa : K.lookup fTa = some ⟨ocTa, odTa, .func (PySem.W.fnOf "_take" "Predictor._take" (defArgs sTakeP) (defBody sTakeP) (defScope sTakeP) .none kVTa dcTa pmTa anTa cdTa ctTa), slTa⟩)
    (cTa : PySem.W.codeIn K cdTa "Predictor._take" = true)
    (kTa : PySem.W.keepIn K (.ref fTa) = true)
    {fLe : Addr} {odLe anLe : Option Addr} {slLe : Array (Option Value)} {ocLe kVLe dcLe pmLe cdLe ctLe : Value}
    (aLe : PySem.W.findIn K (.ref CP) "learn" = some (some (.ref fLe)))
    (iLe : PySem.W.isFn K (.ref fLe) = true)
    (lLe : K.lookup fLe = some ⟨ocLe, odLe, .func (PySem.W.fnOf "learn" "Predictor.learn" (defArgs sLearn) (defBody sLearn) (defScope sLearn) .none kVLe dcLe pmLe anLe cdLe ctLe), slLe⟩)
    (cLe : PySem.W.codeIn K cdLe "Predictor.learn" = true)
    (kLe : PySem.W.keepIn K (.ref fLe) = true)
    {fCa : Addr} {odCa anCa : Option Addr} {slCa : Array (Option Value)} {ocCa kVCa dcCa pmCa cdCa ctCa : Value}
    (aCa : PySem.W.findIn K (.ref CP) "__call__" = some (some (.ref fCa)))
    (iCa : PySem.W.isFn K (.ref fCa) = true)
    (lCa : K.lookup fCa = some ⟨ocCa, odCa, .func (PySem.W.fnOf "__call__" "Predictor.__call__" (defArgs sCallP) (defBody sCallP) (defScope sCallP) .none kVCa dcCa pmCa anCa cdCa ctCa), slCa⟩)
    (cCa : PySem.W.codeIn K cdCa "Predictor.__call__" = true)
    (kCa : PySem.W.keepIn K (.ref fCa) = true)
    (fiCa : PySem.W.fnIn K fCa = true)
    {fLA : Addr} {odLA anLA : Option Addr} {slLA : Array (Option Value)} {ocLA kVLA dcLA pmLA cdLA ctLA : Value}
    (aLA : PySem.W.findIn K (.ref CP) "learn_all" = some (some (.ref fLA)))
    (iLA : PySem.W.isFn K (.ref fLA) = true)
    (lLA : K.lookup fLA = some ⟨ocLA, odLA, .func (PySem.W.fnOf "learn_all" "Predictor.learn_all" (defArgs sLearnAllL) (defBody sLearnAllL) (defScope sLearnAllL) .none kVLA dcLA pmLA anLA cdLA ctLA), slLA⟩)
    (cLA : PySem.W.codeIn K cdLA "Predictor.learn_all" = true)
    (kLA : PySem.W.keepIn K (.ref fLA) = true)
    {fUn : Addr} {odUn anUn : Option Addr} {slUn : Array (Option Value)} {ocUn kVUn dcUn pmUn cdUn ctUn : Value}
    (aUn : PySem.W.findIn K (.ref CP) "undo" = some (some (.ref fUn)))
    (iUn : PySem.W.isFn K (.ref fUn) = true)
    (lUn : K.lookup fUn = some ⟨ocUn, odUn, .func (PySem.W.fnOf "undo" "Predictor.undo" (defArgs sUndo) (defBody sUndo) (defScope sUndo) .none kVUn dcUn pmUn anUn cdUn ctUn), slUn⟩)
    (cUn : PySem.W.codeIn K cdUn "Predictor.undo" = true)
    (kUn : PySem.W.keepIn K (.ref fUn) = true)
    {fCo : Addr} {odCo anCo : Option Addr} {slCo : Array (Option Value)} {ocCo kVCo dcCo pmCo cdCo ctCo : Value}
    (aCo : PySem.W.findIn K (.ref CP) "copy" = some (some (.ref fCo)))
    (iCo : PySem.W.isFn K (.ref fCo) = true)
    (lCo : K.lookup fCo = some ⟨ocCo, odCo, .func (PySem.W.fnOf "copy" "Predictor.copy" (defArgs sCopyP) (defBody sCopyP) (defScope sCopyP) .none kVCo dcCo pmCo anCo cdCo ctCo), slCo⟩)
    (cCo : PySem.W.codeIn K cdCo "Predictor.copy" = true)
    (kCo : PySem.W.keepIn K (.ref fCo) = true)
    {fLn : Addr} {odLn anLn : Option Addr} {slLn : Array (Option Value)} {ocLn kVLn dcLn pmLn cdLn ctLn : Value}
    (aLn : PySem.W.findIn K (.ref CP) "__len__" = some (some (.ref fLn)))
    (iLn : PySem.W.isFn K (.ref fLn) = true)
    (lLn : K.lookup fLn = some ⟨ocLn, odLn, .func (PySem.W.fnOf "__len__" "Predictor.__len__" (defArgs sLenP) (defBody sLenP) (defScope sLenP) .none kVLn dcLn pmLn anLn cdLn ctLn), slLn⟩)
    (cLn : PySem.W.codeIn K cdLn "Predictor.__len__" = true)
    (kLn : PySem.W.keepIn K (.ref fLn) = true)
    {fHa : Addr} {odHa anHa : Option Addr} {slHa : Array (Option Value)} {ocHa kVHa dcHa pmHa cdHa ctHa : Value}
    (aHa : PySem.W.findIn K (.ref CP) "_has" = some (some (.ref fHa)))
    (iHa : PySem.W.isFn K (.ref fHa) = true)
    (lHa : K.lookup fHa = some ⟨ocHa, odHa, .func (PySem.W.fnOf "_has" "Predictor._has" (defArgs sHas) (defBody sHas) (defScope sHas) .none kVHa dcHa pmHa anHa cdHa ctHa), slHa⟩)
    (cHa : PySem.W.codeIn K cdHa "Predictor._has" = true)
    (kHa : PySem.W.keepIn K (.ref fHa) = true)
    {fIn : Addr} {odIn anIn : Option Addr} {slIn : Array (Option Value)} {ocIn kVIn dcIn pmIn cdIn ctIn : Value}
    (aIn : PySem.W.findIn K (.ref CP) "__contains__" = some (some (.ref fIn)))
    (iIn : PySem.W.isFn K (.ref fIn) = true)
    (lIn : K.lookup fIn = some ⟨ocIn, odIn, .func (PySem.W.fnOf "__contains__" "Predictor.__contains__" (defArgs sInP) (defBody sInP) (defScope sInP) .none kVIn dcIn pmIn anIn cdIn ctIn), slIn⟩)
    (cIn : PySem.W.codeIn K cdIn "Predictor.__contains__" = true)
    (kIn : PySem.W.keepIn K (.ref fIn) = true)
    {fGe : Addr} {odGe anGe : Option Addr} {slGe : Array (Option Value)} {ocGe kVGe dcGe pmGe cdGe ctGe : Value}
    (aGe : PySem.W.findIn K (.ref CP) "__getitem__" = some (some (.ref fGe)))
    (iGe : PySem.W.isFn K (.ref fGe) = true)
    (lGe : K.lookup fGe = some ⟨ocGe, odGe, .func (PySem.W.fnOf "__getitem__" "Predictor.__getitem__" (defArgs sGetP) (defBody sGetP) (defScope sGetP) .none kVGe dcGe pmGe anGe cdGe ctGe), slGe⟩)
    (cGe : PySem.W.codeIn K cdGe "Predictor.__getitem__" = true)
    (kGe : PySem.W.keepIn K (.ref fGe) = true)
    (fiGe : PySem.W.fnIn K fGe = true)
    {fEq : Addr} {odEq anEq : Option Addr} {slEq : Array (Option Value)} {ocEq kVEq dcEq pmEq cdEq ctEq : Value}
    (aEq : PySem.W.findIn K (.ref CP) "__eq__" = some (some (.ref fEq)))
    (iEq : PySem.W.isFn K (.ref fEq) = true)
    (lEq : K.lookup fEq = some ⟨ocEq, odEq, .func (PySem.W.fnOf "__eq__" "Predictor.__eq__" (defArgs sEqP) (defBody sEqP) (defScope sEqP) .none kVEq dcEq pmEq anEq cdEq ctEq), slEq⟩)
    (cEq : PySem.W.codeIn K cdEq "Predictor.__eq__" = true)
    (kEq : PySem.W.keepIn K (.ref fEq) = true)
    {fTi : Addr} {odTi anTi : Option Addr} {slTi : Array (Option Value)} {ocTi kVTi dcTi pmTi cdTi ctTi : Value}
    (aTi : PySem.W.findIn K (.ref CT) "__init__" = some (some (.ref fTi)))
    (iTi : PySem.W.isFn K (.ref fTi) = true)
    (lTi : K.lookup fTi = some ⟨ocTi, odTi, .func (PySem.W.fnOf "__init__" "Trial.__init__" (defArgs sTrialI) (defBody sTrialI) (defScope sTrialI) .none kVTi dcTi pmTi anTi cdTi ctTi), slTi⟩)
    (cTi : PySem.W.codeIn K cdTi "Trial.__init__" = true)
    (kTi : PySem.W.keepIn K (.ref fTi) = true)
    {fEn : Addr} {odEn anEn : Option Addr} {slEn : Array (Option Value)} {ocEn kVEn dcEn pmEn cdEn ctEn : Value}
    (aEn : PySem.W.findIn K (.ref CT) "__enter__" = some (some (.ref fEn)))
    (iEn : PySem.W.isFn K (.ref fEn) = true)
    (lEn : K.lookup fEn = some ⟨ocEn, odEn, .func (PySem.W.fnOf "__enter__" "Trial.__enter__" (defArgs sEnter) (defBody sEnter) (defScope sEnter) .none kVEn dcEn pmEn anEn cdEn ctEn), slEn⟩)
    (cEn : PySem.W.codeIn K cdEn "Trial.__enter__" = true)
    (kEn : PySem.W.keepIn K (.ref fEn) = true)
    {fEx : Addr} {odEx anEx : Option Addr} {slEx : Array (Option Value)} {ocEx kVEx dcEx pmEx cdEx ctEx : Value}
    (aEx : PySem.W.findIn K (.ref CT) "__exit__" = some (some (.ref fEx)))
    (iEx : PySem.W.isFn K (.ref fEx) = true)
    (lEx : K.lookup fEx = some ⟨ocEx, odEx, .func (PySem.W.fnOf "__exit__" "Trial.__exit__" (defArgs sExit) (defBody sExit) (defScope sExit) .none kVEx dcEx pmEx anEx cdEx ctEx), slEx⟩)
    (cEx : PySem.W.codeIn K cdEx "Trial.__exit__" = true)
    (kEx : PySem.W.keepIn K (.ref fEx) = true)
    {fpS : Addr} {odpS anpS : Option Addr} {slpS : Array (Option Value)} {ocpS kVpS dcpS pmpS cdpS ctpS : Value}
    {ppS : Addr} {rspS : List Value}
    (apS : PySem.W.findIn K (.ref CP) "scheme" = some (some (.ref ppS)))
    (qpS : PySem.W.specialIn K (.ref ppS) "__get__" = some (some (.builtin "property.__get__")))
    (tpS : PySem.W.takesIn K (.ref ppS) = some true)
    (rpS : PySem.W.recIn K ppS "property" = some (.ref fpS :: rspS))
    (lpS : K.lookup fpS = some ⟨ocpS, odpS, .func (PySem.W.fnOf "scheme" "Predictor.scheme" (defArgs sPropS) (defBody sPropS) (defScope sPropS) .none kVpS dcpS pmpS anpS cdpS ctpS), slpS⟩)
    (cpS : PySem.W.codeIn K cdpS "Predictor.scheme" = true)
    (kpS : PySem.W.keepIn K (.ref fpS) = true)
    {fpC : Addr} {odpC anpC : Option Addr} {slpC : Array (Option Value)} {ocpC kVpC dcpC pmpC cdpC ctpC : Value}
    {ppC : Addr} {rspC : List Value}
    (apC : PySem.W.findIn K (.ref CP) "counter" = some (some (.ref ppC)))
    (qpC : PySem.W.specialIn K (.ref ppC) "__get__" = some (some (.builtin "property.__get__")))
    (tpC : PySem.W.takesIn K (.ref ppC) = some true)
    (rpC : PySem.W.recIn K ppC "property" = some (.ref fpC :: rspC))
    (lpC : K.lookup fpC = some ⟨ocpC, odpC, .func (PySem.W.fnOf "counter" "Predictor.counter" (defArgs sPropC) (defBody sPropC) (defScope sPropC) .none kVpC dcpC pmpC anpC cdpC ctpC), slpC⟩)
    (cpC : PySem.W.codeIn K cdpC "Predictor.counter" = true)
    (kpC : PySem.W.keepIn K (.ref fpC) = true)
    {fpE : Addr} {odpE anpE : Option Addr} {slpE : Array (Option Value)} {ocpE kVpE dcpE pmpE cdpE ctpE : Value}
    {ppE : Addr} {rspE : List Value}
    (apE : PySem.W.findIn K (.ref CP) "errors" = some (some (.ref ppE)))
    (qpE : PySem.W.specialIn K (.ref ppE) "__get__" = some (some (.builtin "property.__get__")))
    (tpE : PySem.W.takesIn K (.ref ppE) = some true)
    (rpE : PySem.W.recIn K ppE "property" = some (.ref fpE :: rspE))
    (lpE : K.lookup fpE = some ⟨ocpE, odpE, .func (PySem.W.fnOf "errors" "Predictor.errors" (defArgs sPropE) (defBody sPropE) (defScope sPropE) .none kVpE dcpE pmpE anpE cdpE ctpE), slpE⟩)
    (cpE : PySem.W.codeIn K cdpE "Predictor.errors" = true)
    (kpE : PySem.W.keepIn K (.ref fpE) = true)
    {fpL : Addr} {odpL anpL : Option Addr} {slpL : Array (Option Value)} {ocpL kVpL dcpL pmpL cdpL ctpL : Value}
    {ppL : Addr} {rspL : List Value}
    (apL : PySem.W.findIn K (.ref CP) "learned" = some (some (.ref ppL)))
    (qpL : PySem.W.specialIn K (.ref ppL) "__get__" = some (some (.builtin "property.__get__")))
    (tpL : PySem.W.takesIn K (.ref ppL) = some true)
    (rpL : PySem.W.recIn K ppL "property" = some (.ref fpL :: rspL))
    (lpL : K.lookup fpL = some ⟨ocpL, odpL, .func (PySem.W.fnOf "learned" "Predictor.learned" (defArgs sPropL) (defBody sPropL) (defScope sPropL) .none kVpL dcpL pmpL anpL cdpL ctpL), slpL⟩)
    (cpL : PySem.W.codeIn K cdpL "Predictor.learned" = true)
    (kpL : PySem.W.keepIn K (.ref fpL) = true)
    {xPt : Addr} {xto1 : Value} {xtd1 : Option Addr} {xtv1 : Array Value} {xts1 : Array (Option Value)} {q : Program}
    (xha : PySem.W.findIn K (.ref CP) "__class__" = some (some (.builtin "object.__class__")))
    (xsp : PySem.W.specialIn K (.builtin "object.__class__") "__get__" = some (some (.builtin "getset_descriptor.__get__")))
    (xtk : PySem.W.takesIn K (.builtin "object.__class__") = some true)
    (xmo : PySem.W.mroIn K CP (.type "object") = some true)
    (xme : PySem.W.kitOne K (.ref CP) (.ref CP) = some true)
    (xno0 : PySem.W.kitOne K (.type "NoneType") (.ref CP) = some false)
    (xnf0 : PySem.W.notFirst K CP (.type "NoneType") = true)
    (xno1 : PySem.W.kitOne K (.type "bool") (.ref CP) = some false)
    (xnf1 : PySem.W.notFirst K CP (.type "bool") = true)
    (xno2 : PySem.W.kitOne K (.type "int") (.ref CP) = some false)
    (xnf2 : PySem.W.notFirst K CP (.type "int") = true)
    (xno3 : PySem.W.kitOne K (.type "str") (.ref CP) = some false)
    (xnf3 : PySem.W.notFirst K CP (.type "str") = true)
    (xno4 : PySem.W.kitOne K (.type "list") (.ref CP) = some false)
    (xnf4 : PySem.W.notFirst K CP (.type "list") = true)
    (xno5 : PySem.W.kitOne K (.type "tuple") (.ref CP) = some false)
    (xnf5 : PySem.W.notFirst K CP (.type "tuple") = true)
    (xno6 : PySem.W.kitOne K (.type "dict") (.ref CP) = some false)
    (xnf6 : PySem.W.notFirst K CP (.type "dict") = true)
    (xtl : K.lookup xcc = some ⟨xto1, xtd1, .fields xtv1, xts1⟩)
    (xtp : (xtv1[11]? : Option Value) = some (.ref xPt))
    (xnp : K.lookup xPt = none)
    (xrec : ((recsOf q).find? (fun e => e.name == ("_law_step" : Str))).isSome = true)
    : ∃ (fd : FuncData) (ts : List (Addr × Addr)), (∀ p ∈ ts, K.lookup p.2 = none ∧ ∃ y : Str, PySem.W.tabIn K y = some p ∧ ((recsOf q).find? (fun e => e.name == y)).isSome = true) ∧ (∀ (s : Shared) (v : Value), BindsTo s fd ⟨[v], []⟩ [("_law_script", v)]) ∧ ∀ base : Heap, K.In base → base.Ns mainGlobals mg → (∀ p ∈ ts, TabB base mg p.1 p.2) → FnG P w K mg base 10 fa fd ["_law_script"] (spLaw K (ts.map fun p => (p.2, lamQ))) := by
  have e := hfa.symm.trans (PySem.W.mg_of X G a27)
  cases e
  have F0 := fun_mk (st := sInteger) l0 c0 k0
  have b0 := F0.binds (ps := ["value"]) fun _ _ _ _ _ _ us hl => match us, hl with | [_], _ => rfl
  have g0 := PySem.W.mg_of X G a0
  have F1 := fun_mk (st := sWithin) l1 c1 k1
  have b1 := F1.binds (ps := ["value", "low", "high"]) fun _ _ _ _ _ _ us hl => match us, hl with | [_, _, _], _ => rfl
  have g1 := PySem.W.mg_of X G a1
  have F2 := fun_mk (st := sSized) l2 c2 k2
  have b2 := F2.binds (ps := ["value", "least", "most"]) fun _ _ _ _ _ _ us hl => match us, hl with | [_, _, _], _ => rfl
  have g2 := PySem.W.mg_of X G a2
  have F3 := fun_mk (st := sBranch) l3 c3 k3
  have b3 := F3.binds (ps := ["value"]) fun _ _ _ _ _ _ us hl => match us, hl with | [_], _ => rfl
  have g3 := PySem.W.mg_of X G a3
  have F4 := fun_mk (st := sOutcome) l4 c4 k4
  have b4 := F4.binds (ps := ["value"]) fun _ _ _ _ _ _ us hl => match us, hl with | [_], _ => rfl
  have g4 := PySem.W.mg_of X G a4
  have F5 := fun_mk (st := sScheme) l5 c5 k5
  have b5 := F5.binds (ps := ["value"]) fun _ _ _ _ _ _ us hl => match us, hl with | [_], _ => rfl
  have g5 := PySem.W.mg_of X G a5
  have F6 := fun_mk (st := sCounter) l6 c6 k6
  have b6 := F6.binds (ps := ["value"]) fun _ _ _ _ _ _ us hl => match us, hl with | [_], _ => rfl
  have g6 := PySem.W.mg_of X G a6
  have F7 := fun_mk (st := sMost) l7 c7 k7
  have b7 := F7.binds (ps := ["bits"]) fun _ _ _ _ _ _ us hl => match us, hl with | [_], _ => rfl
  have g7 := PySem.W.mg_of X G a7
  have F8 := fun_mk (st := sPred) l8 c8 k8
  have b8 := F8.binds (ps := ["bits", "value"]) fun _ _ _ _ _ _ us hl => match us, hl with | [_, _], _ => rfl
  have g8 := PySem.W.mg_of X G a8
  have F9 := fun_mk (st := sAft) l9 c9 k9
  have b9 := F9.binds (ps := ["bits", "value", "outcome"]) fun _ _ _ _ _ _ us hl => match us, hl with | [_, _, _], _ => rfl
  have g9 := PySem.W.mg_of X G a9
  have F10 := fun_mk (st := sBin) l10 c10 k10
  have b10 := F10.binds (ps := ["history"]) fun _ _ _ _ _ _ us hl => match us, hl with | [_], _ => rfl
  have g10 := PySem.W.mg_of X G a10
  have F11 := fun_mk (st := sFold) l11 c11 k11
  have b11 := F11.binds (ps := ["history", "bits", "branch"]) fun _ _ _ _ _ _ us hl => match us, hl with | [_, _, _], _ => rfl
  have g11 := PySem.W.mg_of X G a11
  have F12 := fun_mk (st := sCellOf) l12 c12 k12
  have b12 := F12.binds (ps := ["scheme", "branch", "history"]) fun _ _ _ _ _ _ us hl => match us, hl with | [_, _, _], _ => rfl
  have g12 := PySem.W.mg_of X G a12
  have F13 := fun_mk (st := sOwner) l13 c13 k13
  have b13 := F13.binds (ps := ["scheme", "branch"]) fun _ _ _ _ _ _ us hl => match us, hl with | [_, _], _ => rfl
  have g13 := PySem.W.mg_of X G a13
  have F14 := fun_mk (st := sPushed) l14 c14 k14
  have b14 := F14.binds (ps := ["history", "outcome"]) fun _ _ _ _ _ _ us hl => match us, hl with | [_, _], _ => rfl
  have g14 := PySem.W.mg_of X G a14
  have F15 := fun_mk (st := sLike) l15 c15 k15
  have b15 := F15.binds (ps := ["scheme", "value"]) fun _ _ _ _ _ _ us hl => match us, hl with | [_, _], _ => rfl
  have g15 := PySem.W.mg_of X G a15
  have F16 := fun_mk (st := sBox) l16 c16 k16
  have b16 := F16.binds (ps := ["_law_script", "_law_k"]) fun _ _ _ _ _ _ us hl => match us, hl with | [_, _], _ => rfl
  have g16 := PySem.W.mg_of X G a16
  have F17 := fun_mk (st := sTake) l17 c17 k17
  have b17 := F17.binds (ps := ["_law_box_here", "_law_many"]) fun _ _ _ _ _ _ us hl => match us, hl with | [_, _], _ => rfl
  have g17 := PySem.W.mg_of X G a17
  have F18 := fun_mk (st := sOf) l18 c18 k18
  have b18 := F18.binds (ps := ["_law_box_here", "_law_some"]) fun _ _ _ _ _ _ us hl => match us, hl with | [_, _], _ => rfl
  have g18 := PySem.W.mg_of X G a18
  have F19 := fun_mk (st := sRow) l19 c19 k19
  have b19 := F19.binds (ps := ["_law_box_here", "_law_most"]) fun _ _ _ _ _ _ us hl => match us, hl with | [_, _], _ => rfl
  have g19 := PySem.W.mg_of X G a19
  have F20 := fun_mk (st := sLoop) l20 c20 k20
  have b20 := F20.binds (ps := ["_law_box_here", "_law_most", "_law_homes"]) fun _ _ _ _ _ _ us hl => match us, hl with | [_, _, _], _ => rfl
  have g20 := PySem.W.mg_of X G a20
  have F21 := fun_mk (st := sPlan) l21 c21 k21
  have b21 := F21.binds (ps := ["_law_box_here", "_law_most"]) fun _ _ _ _ _ _ us hl => match us, hl with | [_, _], _ => rfl
  have g21 := PySem.W.mg_of X G a21
  have F22 := fun_mk (st := sGau) l22 c22 k22
  have b22 := F22.binds (ps := ["_law_box_here"]) fun _ _ _ _ _ _ us hl => match us, hl with | [_], _ => rfl
  have g22 := PySem.W.mg_of X G a22
  have F23 := fun_mk (st := sTried) l23 c23 k23
  have b23 := F23.binds (ps := ["predictor", "look"]) fun _ _ _ _ _ _ us hl => match us, hl with | [_, _], _ => rfl
  have g23 := PySem.W.mg_of X G a23
  have F24 := fun_mk (st := sState) l24 c24 k24
  have b24 := F24.binds (ps := ["_law_made"]) fun _ _ _ _ _ _ us hl => match us, hl with | [_], _ => rfl
  have g24 := PySem.W.mg_of X G a24
  have F25 := fun_mk (st := sStep) l25 c25 k25
  have b25 := F25.binds (ps := ["_law_box_here", "_law_made", "_law_loop_here"]) fun _ _ _ _ _ _ us hl => match us, hl with | [_, _, _], _ => rfl
  have g25 := PySem.W.mg_of X G a25
  have F26 := fun_mk (st := sRight) l26 c26 k26
  have b26 := F26.binds (ps := ["_law_box_here"]) fun _ _ _ _ _ _ us hl => match us, hl with | [_], _ => rfl
  have g26 := PySem.W.mg_of X G a26
  have F27 := fun_mk (st := sLaw) l27 c27 k27
  have n_int := PySem.W.mg_none_of X G z0
  have n_len := PySem.W.mg_none_of X G z1
  have n_abs := PySem.W.mg_none_of X G z2
  have n_range := PySem.W.mg_none_of X G z3
  have n_enumerate := PySem.W.mg_none_of X G z4
  have n_max := PySem.W.mg_none_of X G z5
  have n_min := PySem.W.mg_none_of X G z6
  have n_all := PySem.W.mg_none_of X G z7
  have n_repr := PySem.W.mg_none_of X G z8
  have n_zip := PySem.W.mg_none_of X G z9
  have n_tuple := PySem.W.mg_none_of X G z10
  have n_str := PySem.W.mg_none_of X G z11
  have n_list := PySem.W.mg_none_of X G z12
  have n_sorted := PySem.W.mg_none_of X G z13
  have n_isinstance := PySem.W.mg_none_of X G z14
  have n_bool := PySem.W.mg_none_of X G z15
  have n_divmod := PySem.W.mg_none_of X G z16
  have c_MOST_LENGTH : ∃ u, mg "MOST_LENGTH" = some u ∧ RelV (.int 64) u := ⟨_, PySem.W.mg_of X G q0, _, rfl⟩
  have c_MOST_FOLD_BITS : ∃ u, mg "MOST_FOLD_BITS" = some u ∧ RelV (.int 16) u := ⟨_, PySem.W.mg_of X G q1, _, rfl⟩
  have c_MOST_COUNTER_BITS : ∃ u, mg "MOST_COUNTER_BITS" = some u ∧ RelV (.int 4) u := ⟨_, PySem.W.mg_of X G q2, _, rfl⟩
  have c_LAST_BRANCH : ∃ u, mg "LAST_BRANCH" = some u ∧ RelV (.int 7) u := ⟨_, PySem.W.mg_of X G q3, _, rfl⟩
  have t_PLAIN_WORDS : ∃ u, mg "PLAIN_WORDS" = some u ∧ RelV (.ref ft0) u := ⟨_, PySem.W.mg_of X G ta0, rfl⟩
  have s_PLAIN_WORDS : ∀ H, SqT K H ft0 ((["own", "split", "shared"] : List Str).map V.str) := fun H => .inr ⟨_, _, _, tb0, rfl, rfl, by show 3 ≤ sizeLine; decide, (.cons ⟨ut0_0, rfl⟩ (.cons ⟨ut0_1, rfl⟩ (.cons ⟨ut0_2, rfl⟩ .nil)))⟩
  have xtb : PySem.W.tabIn K "_law_step" = some (xcc, xPt) := tab_mk a25 l25 rfl xtl xtp
  refine ⟨PySem.W.fnOf "law" "law" (defArgs sLaw) (defBody sLaw) (defScope sLaw) .none kV27 dc27 pm27 an27 cd27 ct27, [(xcc, xPt)], fun p hp => ?_, fun s v => .of_eq rfl, fun base _ _ TBs => ?_⟩
  · obtain rfl := List.mem_singleton.mp hp
    exact ⟨xnp, _, xtb, xrec⟩
  have TS : TStep K mg CS := ⟨⟨pgS, hdS, poS, saS⟩, nS0, nS1, nS2, nS3, nS4, nS5, PySem.W.mg_of X G acS⟩
  have TM : TMem K mg CM := ⟨⟨pgM, hdM, poM, saM⟩, nM0, nM1, nM2, nM3, PySem.W.mg_of X G acM⟩
  have TP : TPr K mg CP := ⟨⟨pgP, hdP, poP, saP⟩, nP0, nP1, nP2, PySem.W.mg_of X G acP⟩
  have TK : TKept K mg CK := ⟨⟨pgK, hdK, poK, saK⟩, nK0, nK1, PySem.W.mg_of X G acK⟩
  have TT : TTrial K mg CT := ⟨⟨pgT, hdT, poT, saT⟩, nT0, nT1, PySem.W.mg_of X G acT⟩
  have FSI := fun_mk (st := sStepI) lSI cSI kSI
  have bSI := FSI.binds (ps := ["self", "pair", "is_wrong", "owner", "old_history", "place", "old_value"]) fun _ _ _ _ _ _ us hl => match us, hl with | [_, _, _, _, _, _, _], _ => rfl
  have mSI : Meth K CS "__init__" fSI := ⟨aSI, iSI, kSI⟩
  have FMI := fun_mk (st := sMemI) lMI cMI kMI
  have bMI := FMI.binds (ps := ["self"]) fun _ _ _ _ _ _ us hl => match us, hl with | [_], _ => rfl
  have mMI : Meth K CM "__init__" fMI := ⟨aMI, iMI, kMI⟩
  have FMK := fun_mk (st := sKeep) lMK cMK kMK
  have bMK := FMK.binds (ps := ["self", "step", "history", "value"]) fun _ _ _ _ _ _ us hl => match us, hl with | [_, _, _, _], _ => rfl
  have mMK : Meth K CM "keep" fMK := ⟨aMK, iMK, kMK⟩
  have FMB := fun_mk (st := sTakeBack) lMB cMB kMB
  have bMB := FMB.binds (ps := ["self"]) fun _ _ _ _ _ _ us hl => match us, hl with | [_], _ => rfl
  have mMB : Meth K CM "take_back" fMB := ⟨aMB, iMB, kMB⟩
  have FMC := fun_mk (st := sCopied) lMC cMC kMC
  have bMC := FMC.binds (ps := ["self"]) fun _ _ _ _ _ _ us hl => match us, hl with | [_], _ => rfl
  have mMC : Meth K CM "copied" fMC := ⟨aMC, iMC, kMC⟩
  have FKi := fun_mk (st := sKeptI) lKi cKi kKi
  have bKi := FKi.binds (ps := ["self", "memory", "outer"]) fun _ _ _ _ _ _ us hl => match us, hl with | [_, _, _], _ => rfl
  have mKi : Meth K CK "__init__" fKi := ⟨aKi, iKi, kKi⟩
  have FPI := fun_mk (st := sPrI) lPI cPI kPI
  have bPI := FPI.binds (ps := ["self", "scheme", "counter"]) fun _ _ _ _ _ _ us hl => match us, hl with | [_, _, _], _ => rfl
  have mPI : Meth K CP "__init__" fPI := ⟨aPI, iPI, kPI⟩
  have FNe := fun_mk (st := sNewest) lNe cNe kNe
  have bNe := FNe.binds (ps := ["self", "branch"]) fun _ _ _ _ _ _ us hl => match us, hl with | [_, _], _ => rfl
  have mNe : Meth K CP "_newest" fNe := ⟨aNe, iNe, kNe⟩
  have FHi := fun_mk (st := sHistory) lHi cHi kHi
  have bHi := FHi.binds (ps := ["self", "branch"]) fun _ _ _ _ _ _ us hl => match us, hl with | [_, _], _ => rfl
  have mHi : Meth K CP "history" fHi := ⟨aHi, iHi, kHi⟩
  have FCe := fun_mk (st := sCell) lCe cCe kCe
  have bCe := FCe.binds (ps := ["self", "branch"]) fun _ _ _ _ _ _ us hl => match us, hl with | [_, _], _ => rfl
  have mCe : Meth K CP "cell" fCe := ⟨aCe, iCe, kCe⟩
  have FPr := fun_mk (st := sPredict) lPr cPr kPr
  have bPr := FPr.binds (ps := ["self", "branch"]) fun _ _ _ _ _ _ us hl => match us, hl with | [_, _], _ => rfl
  have mPr : Meth K CP "predict" fPr := ⟨aPr, iPr, kPr⟩
  have FTa := fun_mk (st := sTakeP) lTa cTa kTa
  have bTa := FTa.binds (ps := ["self", "branch", "outcome"]) fun _ _ _ _ _ _ us hl => match us, hl with | [_, _, _], _ => rfl
  have mTa : Meth K CP "_take" fTa := ⟨aTa, iTa, kTa⟩
  have FLe := fun_mk (st := sLearn) lLe cLe kLe
  have bLe := FLe.binds (ps := ["self", "branch", "outcome"]) fun _ _ _ _ _ _ us hl => match us, hl with | [_, _, _], _ => rfl
  have mLe : Meth K CP "learn" fLe := ⟨aLe, iLe, kLe⟩
  have FCa := fun_mk (st := sCallP) lCa cCa kCa
  have bCa := FCa.binds (ps := ["self", "branch", "outcome"]) fun _ _ _ _ _ _ us hl => match us, hl with | [_, _, _], _ => rfl
  have mCa : Meth K CP "__call__" fCa := ⟨aCa, iCa, kCa⟩
  have FLA := fun_mk (st := sLearnAllL) lLA cLA kLA
  have bLA := FLA.binds (ps := ["self", "trace", "rounds"]) fun _ _ _ _ _ _ us hl => match us, hl with | [_, _, _], _ => rfl
  have mLA : Meth K CP "learn_all" fLA := ⟨aLA, iLA, kLA⟩
  have FUn := fun_mk (st := sUndo) lUn cUn kUn
  have bUn := FUn.binds (ps := ["self"]) fun _ _ _ _ _ _ us hl => match us, hl with | [_], _ => rfl
  have mUn : Meth K CP "undo" fUn := ⟨aUn, iUn, kUn⟩
  have FCo := fun_mk (st := sCopyP) lCo cCo kCo
  have bCo := FCo.binds (ps := ["self"]) fun _ _ _ _ _ _ us hl => match us, hl with | [_], _ => rfl
  have mCo : Meth K CP "copy" fCo := ⟨aCo, iCo, kCo⟩
  have FLn := fun_mk (st := sLenP) lLn cLn kLn
  have bLn := FLn.binds (ps := ["self"]) fun _ _ _ _ _ _ us hl => match us, hl with | [_], _ => rfl
  have mLn : Meth K CP "__len__" fLn := ⟨aLn, iLn, kLn⟩
  have FHa := fun_mk (st := sHas) lHa cHa kHa
  have bHa := FHa.binds (ps := ["self", "value"]) fun _ _ _ _ _ _ us hl => match us, hl with | [_, _], _ => rfl
  have mHa : Meth K CP "_has" fHa := ⟨aHa, iHa, kHa⟩
  have FIn := fun_mk (st := sInP) lIn cIn kIn
  have bIn := FIn.binds (ps := ["self", "x"]) fun _ _ _ _ _ _ us hl => match us, hl with | [_, _], _ => rfl
  have mIn : Meth K CP "__contains__" fIn := ⟨aIn, iIn, kIn⟩
  have FGe := fun_mk (st := sGetP) lGe cGe kGe
  have bGe := FGe.binds (ps := ["self", "at"]) fun _ _ _ _ _ _ us hl => match us, hl with | [_, _], _ => rfl
  have mGe : Meth K CP "__getitem__" fGe := ⟨aGe, iGe, kGe⟩
  have FEq := fun_mk (st := sEqP) lEq cEq kEq
  have bEq := FEq.binds (ps := ["self", "other"]) fun _ _ _ _ _ _ us hl => match us, hl with | [_, _], _ => rfl
  have mEq : Meth K CP "__eq__" fEq := ⟨aEq, iEq, kEq⟩
  have FTi := fun_mk (st := sTrialI) lTi cTi kTi
  have bTi := FTi.binds (ps := ["self", "predictor"]) fun _ _ _ _ _ _ us hl => match us, hl with | [_, _], _ => rfl
  have mTi : Meth K CT "__init__" fTi := ⟨aTi, iTi, kTi⟩
  have FEn := fun_mk (st := sEnter) lEn cEn kEn
  have bEn := FEn.binds (ps := ["self"]) fun _ _ _ _ _ _ us hl => match us, hl with | [_], _ => rfl
  have mEn : Meth K CT "__enter__" fEn := ⟨aEn, iEn, kEn⟩
  have FEx := fun_mk (st := sExit) lEx cEx kEx
  have bEx := FEx.binds (ps := ["self", "kind", "value", "trace"]) fun _ _ _ _ _ _ us hl => match us, hl with | [_, _, _, _], _ => rfl
  have mEx : Meth K CT "__exit__" fEx := ⟨aEx, iEx, kEx⟩
  have FpS := fun_mk (st := sPropS) lpS cpS kpS
  have bpS := FpS.binds (ps := ["self"]) fun _ _ _ _ _ _ us hl => match us, hl with | [_], _ => rfl
  have opS : PropOf K CP "scheme" ppS fpS := ⟨apS, qpS, tpS, _, rpS⟩
  have FpC := fun_mk (st := sPropC) lpC cpC kpC
  have bpC := FpC.binds (ps := ["self"]) fun _ _ _ _ _ _ us hl => match us, hl with | [_], _ => rfl
  have opC : PropOf K CP "counter" ppC fpC := ⟨apC, qpC, tpC, _, rpC⟩
  have FpE := fun_mk (st := sPropE) lpE cpE kpE
  have bpE := FpE.binds (ps := ["self"]) fun _ _ _ _ _ _ us hl => match us, hl with | [_], _ => rfl
  have opE : PropOf K CP "errors" ppE fpE := ⟨apE, qpE, tpE, _, rpE⟩
  have FpL := fun_mk (st := sPropL) lpL cpL kpL
  have bpL := FpL.binds (ps := ["self"]) fun _ _ _ _ _ _ us hl => match us, hl with | [_], _ => rfl
  have opL : PropOf K CP "learned" ppL fpL := ⟨apL, qpL, tpL, _, rpL⟩
  have TI : IsP K CP := ⟨⟨TP.cl, xha, xsp, xtk, xmo, xme⟩, fun t ht => by
      simp only [tys, List.mem_cons, List.not_mem_nil, or_false] at ht
      rcases ht with rfl | rfl | rfl | rfl | rfl | rfl | rfl <;> assumption, fun t ht => by
      simp only [tys, List.mem_cons, List.not_mem_nil, or_false] at ht
      rcases ht with rfl | rfl | rfl | rfl | rfl | rfl | rfl <;> assumption⟩
  have Dis_integer : Dfn P w K mg base 1 "is_integer" ["value"] (spInteger K) := ⟨_, _, ok_integer n_isinstance n_int n_bool F0, g0, F0.kp, b0⟩
  have Dis_within : Dfn P w K mg base 2 "is_within" ["value", "low", "high"] (spWithin K) := ⟨_, _, ok_within Dis_integer F1, g1, F1.kp, b1⟩
  have Dis_tuple_sized : Dfn P w K mg base 1 "is_tuple_sized" ["value", "least", "most"] (spSized K) := ⟨_, _, ok_sized n_len n_isinstance n_tuple F2, g2, F2.kp, b2⟩
  have Dis_branch : Dfn P w K mg base 3 "is_branch" ["value"] (spLook0 K (isInt 0 7)) := ⟨_, _, ok_branch Dis_within c_LAST_BRANCH F3, g3, F3.kp, b3⟩
  have Dis_outcome : Dfn P w K mg base 3 "is_outcome" ["value"] (spLook0 K (isInt 0 1)) := ⟨_, _, ok_outcome Dis_within F4, g4, F4.kp, b4⟩
  have Dis_scheme : Dfn P w K mg base 3 "is_scheme" ["value"] (spLook K isPlanD) := ⟨_, _, ok_scheme Dis_tuple_sized Dis_within n_len c_MOST_LENGTH c_MOST_FOLD_BITS t_PLAIN_WORDS s_PLAIN_WORDS F5, g5, F5.kp, b5⟩
  have Dis_counter : Dfn P w K mg base 3 "is_counter" ["value"] (spLook K isGauD) := ⟨_, _, ok_counter Dis_tuple_sized Dis_within c_MOST_COUNTER_BITS F6, g6, F6.kp, b6⟩
  have Dmost_value : Dfn P w K mg base 1 "most_value" ["bits"] spMost := ⟨_, _, ok_most (k := 0) n_max F7, g7, F7.kp, b7⟩
  have Dpredicted : Dfn P w K mg base 2 "predicted" ["bits", "value"] spPred := ⟨_, _, ok_pred Dmost_value F8, g8, F8.kp, b8⟩
  have Dvalue_after : Dfn P w K mg base 2 "value_after" ["bits", "value", "outcome"] spAft := ⟨_, _, ok_aft Dmost_value n_max n_min F9, g9, F9.kp, b9⟩
  have Dbinary : Dfn P w K mg base 1 "_binary" ["history"] spBin := ⟨_, _, ok_bin n_int F10, g10, F10.kp, b10⟩
  have Dfold : Dfn P w K mg base 2 "fold" ["history", "bits", "branch"] spFold := ⟨_, _, ok_fold Dbinary n_divmod F11, g11, F11.kp, b11⟩
  have Dcell_of : Dfn P w K mg base 3 "cell_of" ["scheme", "branch", "history"] (spCellC K) := ⟨_, _, ok_cellC Dfold F12, g12, F12.kp, b12⟩
  have Downer_of : Dfn P w K mg base 1 "owner_of" ["scheme", "branch"] (spOwner K) := ⟨_, _, ok_owner (k := 0) F13, g13, F13.kp, b13⟩
  have Dpushed : Dfn P w K mg base 1 "pushed" ["history", "outcome"] spPushed := ⟨_, _, ok_pushed (k := 0) n_str F14, g14, F14.kp, b14⟩
  have Dis_like_a_cell : Dfn P w K mg base 2 "_is_like_a_cell" ["scheme", "value"] (spLike K) := ⟨_, _, ok_like Dis_integer Dis_tuple_sized n_isinstance n_str F15, g15, F15.kp, b15⟩
  have Dlaw_box : Dfn P w K mg base 1 "_law_box" ["_law_script", "_law_k"] (spBox K) := ⟨_, _, ok_box n_len n_abs n_int F16, g16, F16.kp, b16⟩
  have Dlaw_take : Dfn P w K mg base 1 "_law_take" ["_law_box_here", "_law_many"] spTake := ⟨_, _, ok_take F17, g17, F17.kp, b17⟩
  have Dlaw_of : Dfn P w K mg base 2 "_law_of" ["_law_box_here", "_law_some"] (spOf K) := ⟨_, _, ok_of Dlaw_take n_len F18, g18, F18.kp, b18⟩
  have Dlaw_row : Dfn P w K mg base 2 "_law_row" ["_law_box_here", "_law_most"] (spRow K) := ⟨_, _, ok_row Dlaw_take n_range n_min n_tuple n_len F19, g19, F19.kp, b19⟩
  have Dlaw_loop : Dfn P w K mg base 3 "_law_loop" ["_law_box_here", "_law_most", "_law_homes"] (spLoop K) := ⟨_, _, ok_loop Dlaw_take Dlaw_row n_tuple n_enumerate n_len F20, g20, F20.kp, b20⟩
  have Dlaw_plan : Dfn P w K mg base 3 "_law_plan" ["_law_box_here", "_law_most"] (spPlan K) := ⟨_, _, ok_plan Dlaw_take Dlaw_of n_min F21, g21, F21.kp, b21⟩
  have Dlaw_gauge : Dfn P w K mg base 3 "_law_gauge" ["_law_box_here"] spGau := ⟨_, _, ok_gau Dlaw_take Dlaw_of F22, g22, F22.kp, b22⟩
  have GSI := ok_stepI (P := P) (w := w) (base := base) TS FSI
  have GMI := ok_memI (P := P) (w := w) (base := base) TM FMI
  have GMK := ok_keep (P := P) (w := w) (base := base) TM TS FMK
  have GMB := ok_takeBack (P := P) (w := w) (base := base) TM TS FMB
  have GMC := ok_copied TM ⟨mkM, aMI, iMI, kcM⟩ GMI bMI n_list FMC
  have GKi := ok_keptI (P := P) (w := w) (base := base) TK FKi
  have GPI := ok_prI TP TM ⟨mkM, aMI, iMI, kcM⟩ GMI bMI Dis_scheme Dis_counter FPI
  have GNe := ok_newest TP TM Downer_of FNe
  have GHi := ok_history TP mNe GNe bNe Dis_branch FHi
  have GCe := ok_cellP TP mHi GHi bHi Dcell_of FCe
  have GPr := ok_predict TP TM mCe GCe bCe Dpredicted FPr
  have GTa := ok_takeF TP TM TS mNe GNe bNe mMK GMK bMK ⟨mkS, aSI, iSI, kcS⟩ GSI bSI Dcell_of Dpredicted Dvalue_after Downer_of Dpushed FTa
  have GLe := ok_learnL TP mTa GTa bTa Dis_branch Dis_outcome FLe
  have GCa := ok_callL TP mLe GLe bLe FCa
  have GLA := ok_learnAllL TP TM mTa GTa bTa n_range FLA
  have GUn := ok_undo TP TM mMB GMB bMB n_len FUn
  have GCo := ok_copyP (CS := CS) TP ⟨mkP, aPI, iPI, kcP⟩ GPI bPI TM mMC GMC bMC FCo
  have GLn := ok_lenP (P := P) (w := w) (base := base) (kk := 0) (CM := CM) TP TM n_len FLn
  have GHa := ok_has TP TM Dis_like_a_cell FHa
  have GIn := ok_inP TP mHa GHa bHa FIn
  have GGe := ok_getP TP TM mHa GHa bHa FGe
  have GpS := ok_propS (P := P) (w := w) (base := base) (kk := 0) (CM := CM) TP FpS
  have GpC := ok_propC (P := P) (w := w) (base := base) (kk := 0) (CM := CM) TP FpC
  have GpE := ok_propE (P := P) (w := w) (base := base) (kk := 0) TP TM FpE
  have GpL := ok_propL (P := P) (w := w) (base := base) (kk := 0) TP TM TS n_tuple FpL
  have GEq := ok_eqP TP TI opS GpS bpS opC GpC bpC opL GpL bpL n_isinstance FEq
  have GTi := ok_trialI (P := P) (w := w) (base := base) TT TP TI n_isinstance FTi
  have GEn := ok_enter (CS := CS) TT TK TP TM ⟨mkK, aKi, iKi, kcK⟩ GKi bKi mMC GMC bMC FEn
  have GEx := ok_exit (P := P) (w := w) (base := base) TT TK TP FEx
  have Dlaw_state : DfG P w K mg base 8 "_law_state" ["_law_made"] (spState P w K CM CS CP) := ⟨_, _, ok_state TP mHi GHi bHi mCe GCe bCe mPr GPr bPr opS GpS bpS opC GpC bpC opE GpE bpE opL GpL bpL aLn iLn GLn bLn aIn iIn GIn bIn aGe fiGe iGe GGe bGe n_range n_repr n_len F24, g24, F24.kp, b24⟩
  have Dlaw_step : DfG P w K mg base 8 "_law_step" ["_law_box_here", "_law_made", "_law_loop_here"] (spStep P w K CM CS CP [(xPt, lamQ)]) := ⟨_, _, ok_step TP TT mUn GUn bUn mCo GCo bCo mLA GLA bLA mLe GLe bLe opL GpL bpL ⟨mkT, aTi, iTi, kcT⟩ GTi bTi aEn iEn GEn bEn aEx iEx GEx bEx g23 F23 b23 Dlaw_take (TBs _ (List.mem_singleton_self _)) (fd := PySem.W.fnOf "_law_step" "_law_step" (defArgs sStep) (defBody sStep) (defScope sStep) .none kV25 dc25 pm25 an25 (.ref xcc) ct25) rfl F25, g25, F25.kp, b25⟩
  have Dlaw_right : DfG P w K mg base 9 "_law_right" ["_law_box_here"] (spRight [(xPt, lamQ)]) := ⟨_, _, ok_right TP TI ⟨mkP, aPI, iPI, kcP⟩ GPI bPI mUn GUn bUn aCa fiCa iCa GCa bCa opL GpL bpL aEq iEq GEq bEq Dlaw_take Dlaw_of Dlaw_loop Dlaw_plan Dlaw_gauge Dlaw_step Dlaw_state n_range n_list F26, g26, F26.kp, b26⟩
  exact ok_law (by decide) Dlaw_box Dlaw_right n_range n_max n_min n_len n_all F27
end Pf
open PySem PySem.W PyProof.Rows
set_option maxHeartbeats 0 in
theorem PySem.Challenge.cw_pastenough_k84_whole_predictors_as_new_o_holds : PySem.Challenge.rw_pastenough_k84_whole_predictors_as_new_o.Holds := by
  w_on; o_law; k_head; (case hw => w_witness2)
  k_fill
  refine Gk.walkGT (l := PySem.Challenge.rw_pastenough_k84_whole_predictors_as_new_o) (n := 63) (k := 10) (x := "_law_script") (sp := fun w ts => Pf.spLaw _ (ts.map fun p => (p.2, Pf.lamQ))) rfl (by decide) rfl ⟨rfl, by decide, by decide⟩ (fun w h Y => PySem.W.km_in_of Y) ?F (fun _ ts _ a ns hl ht hS => Pf.law_start hl ht hS)
  case F =>
    intro w mg fa h KX G hmg
    refine' Pf.all_mk KX G hmg ?a0 ?l0 ?c0 ?k0 ?a1 ?l1 ?c1 ?k1 ?a2 ?l2 ?c2 ?k2 ?a3 ?l3 ?c3 ?k3 ?a4 ?l4 ?c4 ?k4 ?a5 ?l5 ?c5 ?k5 ?a6 ?l6 ?c6 ?k6 ?a7 ?l7 ?c7 ?k7 ?a8 ?l8 ?c8 ?k8 ?a9 ?l9 ?c9 ?k9 ?a10 ?l10 ?c10 ?k10 ?a11 ?l11 ?c11 ?k11 ?a12 ?l12 ?c12 ?k12 ?a13 ?l13 ?c13 ?k13 ?a14 ?l14 ?c14 ?k14 ?a15 ?l15 ?c15 ?k15 ?a16 ?l16 ?c16 ?k16 ?a17 ?l17 ?c17 ?k17 ?a18 ?l18 ?c18 ?k18 ?a19 ?l19 ?c19 ?k19 ?a20 ?l20 ?c20 ?k20 ?a21 ?l21 ?c21 ?k21 ?a22 ?l22 ?c22 ?k22 ?a23 ?l23 ?c23 ?k23 ?a24 ?l24 ?c24 ?k24 ?a25 ?l25 ?c25 ?k25 ?a26 ?l26 ?c26 ?k26 ?a27 ?l27 ?c27 ?k27 ?z0 ?z1 ?z2 ?z3 ?z4 ?z5 ?z6 ?z7 ?z8 ?z9 ?z10 ?z11 ?z12 ?z13 ?z14 ?z15 ?z16 ?q0 ?q1 ?q2 ?q3 ?ta0 ?tb0 ?acS ?pgS ?hdS ?poS ?saS ?mkS ?kcS ?nS0 ?nS1 ?nS2 ?nS3 ?nS4 ?nS5 ?acM ?pgM ?hdM ?poM ?saM ?mkM ?kcM ?nM0 ?nM1 ?nM2 ?nM3 ?acP ?pgP ?hdP ?poP ?saP ?mkP ?kcP ?nP0 ?nP1 ?nP2 ?acK ?pgK ?hdK ?poK ?saK ?mkK ?kcK ?nK0 ?nK1 ?acT ?pgT ?hdT ?poT ?saT ?mkT ?kcT ?nT0 ?nT1 ?aSI ?iSI ?lSI ?cSI ?kSI ?aMI ?iMI ?lMI ?cMI ?kMI ?aMK ?iMK ?lMK ?cMK ?kMK ?aMB ?iMB ?lMB ?cMB ?kMB ?aMC ?iMC ?lMC ?cMC ?kMC ?aKi ?iKi ?lKi ?cKi ?kKi ?aPI ?iPI ?lPI ?cPI ?kPI ?aNe ?iNe ?lNe ?cNe ?kNe ?aHi ?iHi ?lHi ?cHi ?kHi ?aCe ?iCe ?lCe ?cCe ?kCe ?aPr ?iPr ?lPr ?cPr ?kPr ?aTa ?iTa ?lTa ?cTa ?kTa ?aLe ?iLe ?lLe ?cLe ?kLe ?aCa ?iCa ?lCa ?cCa ?kCa ?fiCa ?aLA ?iLA ?lLA ?cLA ?kLA ?aUn ?iUn ?lUn ?cUn ?kUn ?aCo ?iCo ?lCo ?cCo ?kCo ?aLn ?iLn ?lLn ?cLn ?kLn ?aHa ?iHa ?lHa ?cHa ?kHa ?aIn ?iIn ?lIn ?cIn ?kIn ?aGe ?iGe ?lGe ?cGe ?kGe ?fiGe ?aEq ?iEq ?lEq ?cEq ?kEq ?aTi ?iTi ?lTi ?cTi ?kTi ?aEn ?iEn ?lEn ?cEn ?kEn ?aEx ?iEx ?lEx ?cEx ?kEx ?apS ?qpS ?tpS ?rpS ?lpS ?cpS ?kpS ?apC ?qpC ?tpC ?rpC ?lpC ?cpC ?kpC ?apE ?qpE ?tpE ?rpE ?lpE ?cpE ?kpE ?apL ?qpL ?tpL ?rpL ?lpL ?cpL ?kpL ?xha ?xsp ?xtk ?xmo ?xme ?xno0 ?xnf0 ?xno1 ?xnf1 ?xno2 ?xnf2 ?xno3 ?xnf3 ?xno4 ?xnf4 ?xno5 ?xnf5 ?xno6 ?xnf6 ?xtl ?xtp ?xnp ?xrec
    (case a0 => k_is)
    (case l0 => k_is)
    (case c0 => k_is)
    (case k0 => k_is)
    (case a1 => k_is)
    (case l1 => k_is)
    (case c1 => k_is)
    (case k1 => k_is)
    (case a2 => k_is)
    (case l2 => k_is)
    (case c2 => k_is)
    (case k2 => k_is)
    (case a3 => k_is)
    (case l3 => k_is)
    (case c3 => k_is)
    (case k3 => k_is)
    (case a4 => k_is)
    (case l4 => k_is)
    (case c4 => k_is)
    (case k4 => k_is)
    (case a5 => k_is)
    (case l5 => k_is)
    (case c5 => k_is)
    (case k5 => k_is)
    (case a6 => k_is)
    (case l6 => k_is)
    (case c6 => k_is)
    (case k6 => k_is)
    (case a7 => k_is)
    (case l7 => k_is)
    (case c7 => k_is)
    (case k7 => k_is)
    (case a8 => k_is)
    (case l8 => k_is)
    (case c8 => k_is)
    (case k8 => k_is)
    (case a9 => k_is)
    (case l9 => k_is)
    (case c9 => k_is)
    (case k9 => k_is)
    (case a10 => k_is)
    (case l10 => k_is)
    (case c10 => k_is)
    (case k10 => k_is)
    (case a11 => k_is)
    (case l11 => k_is)
    (case c11 => k_is)
    (case k11 => k_is)
    (case a12 => k_is)
    (case l12 => k_is)
    (case c12 => k_is)
    (case k12 => k_is)
    (case a13 => k_is)
    (case l13 => k_is)
    (case c13 => k_is)
    (case k13 => k_is)
    (case a14 => k_is)
    (case l14 => k_is)
    (case c14 => k_is)
    (case k14 => k_is)
    (case a15 => k_is)
    (case l15 => k_is)
    (case c15 => k_is)
    (case k15 => k_is)
    (case a16 => k_is)
    (case l16 => k_is)
    (case c16 => k_is)
    (case k16 => k_is)
    (case a17 => k_is)
    (case l17 => k_is)
    (case c17 => k_is)
    (case k17 => k_is)
    (case a18 => k_is)
    (case l18 => k_is)
    (case c18 => k_is)
    (case k18 => k_is)
    (case a19 => k_is)
    (case l19 => k_is)
    (case c19 => k_is)
    (case k19 => k_is)
    (case a20 => k_is)
    (case l20 => k_is)
    (case c20 => k_is)
    (case k20 => k_is)
    (case a21 => k_is)
    (case l21 => k_is)
    (case c21 => k_is)
    (case k21 => k_is)
    (case a22 => k_is)
    (case l22 => k_is)
    (case c22 => k_is)
    (case k22 => k_is)
    (case a23 => k_is)
    (case l23 => k_is)
    (case c23 => k_is)
    (case k23 => k_is)
    (case a24 => k_is)
    (case l24 => k_is)
    (case c24 => k_is)
    (case k24 => k_is)
    (case a25 => k_is)
    (case l25 => k_is)
    (case c25 => k_is)
    (case k25 => k_is)
    (case a26 => k_is)
    (case l26 => k_is)
    (case c26 => k_is)
    (case k26 => k_is)
    (case a27 => k_is)
    (case l27 => k_is)
    (case c27 => k_is)
    (case k27 => k_is)
    (case z0 => k_is)
    (case z1 => k_is)
    (case z2 => k_is)
    (case z3 => k_is)
    (case z4 => k_is)
    (case z5 => k_is)
    (case z6 => k_is)
    (case z7 => k_is)
    (case z8 => k_is)
    (case z9 => k_is)
    (case z10 => k_is)
    (case z11 => k_is)
    (case z12 => k_is)
    (case z13 => k_is)
    (case z14 => k_is)
    (case z15 => k_is)
    (case z16 => k_is)
    (case q0 => k_is)
    (case q1 => k_is)
    (case q2 => k_is)
    (case q3 => k_is)
    (case ta0 => k_is)
    (case tb0 => k_is)
    (case acS => k_is)
    (case pgS => k_is)
    (case hdS => k_is)
    (case poS => k_is)
    (case saS => k_is)
    (case mkS => k_is)
    (case kcS => k_is)
    (case nS0 => k_is)
    (case nS1 => k_is)
    (case nS2 => k_is)
    (case nS3 => k_is)
    (case nS4 => k_is)
    (case nS5 => k_is)
    (case acM => k_is)
    (case pgM => k_is)
    (case hdM => k_is)
    (case poM => k_is)
    (case saM => k_is)
    (case mkM => k_is)
    (case kcM => k_is)
    (case nM0 => k_is)
    (case nM1 => k_is)
    (case nM2 => k_is)
    (case nM3 => k_is)
    (case acP => k_is)
    (case pgP => k_is)
    (case hdP => k_is)
    (case poP => k_is)
    (case saP => k_is)
    (case mkP => k_is)
    (case kcP => k_is)
    (case nP0 => k_is)
    (case nP1 => k_is)
    (case nP2 => k_is)
    (case acK => k_is)
    (case pgK => k_is)
    (case hdK => k_is)
    (case poK => k_is)
    (case saK => k_is)
    (case mkK => k_is)
    (case kcK => k_is)
    (case nK0 => k_is)
    (case nK1 => k_is)
    (case acT => k_is)
    (case pgT => k_is)
    (case hdT => k_is)
    (case poT => k_is)
    (case saT => k_is)
    (case mkT => k_is)
    (case kcT => k_is)
    (case nT0 => k_is)
    (case nT1 => k_is)
    (case aSI => k_is)
    (case iSI => k_is)
    (case lSI => k_is)
    (case cSI => k_is)
    (case kSI => k_is)
    (case aMI => k_is)
    (case iMI => k_is)
    (case lMI => k_is)
    (case cMI => k_is)
    (case kMI => k_is)
    (case aMK => k_is)
    (case iMK => k_is)
    (case lMK => k_is)
    (case cMK => k_is)
    (case kMK => k_is)
    (case aMB => k_is)
    (case iMB => k_is)
    (case lMB => k_is)
    (case cMB => k_is)
    (case kMB => k_is)
    (case aMC => k_is)
    (case iMC => k_is)
    (case lMC => k_is)
    (case cMC => k_is)
    (case kMC => k_is)
    (case aKi => k_is)
    (case iKi => k_is)
    (case lKi => k_is)
    (case cKi => k_is)
    (case kKi => k_is)
    (case aPI => k_is)
    (case iPI => k_is)
    (case lPI => k_is)
    (case cPI => k_is)
    (case kPI => k_is)
    (case aNe => k_is)
    (case iNe => k_is)
    (case lNe => k_is)
    (case cNe => k_is)
    (case kNe => k_is)
    (case aHi => k_is)
    (case iHi => k_is)
    (case lHi => k_is)
    (case cHi => k_is)
    (case kHi => k_is)
    (case aCe => k_is)
    (case iCe => k_is)
    (case lCe => k_is)
    (case cCe => k_is)
    (case kCe => k_is)
    (case aPr => k_is)
    (case iPr => k_is)
    (case lPr => k_is)
    (case cPr => k_is)
    (case kPr => k_is)
    (case aTa => k_is)
    (case iTa => k_is)
    (case lTa => k_is)
    (case cTa => k_is)
    (case kTa => k_is)
    (case aLe => k_is)
    (case iLe => k_is)
    (case lLe => k_is)
    (case cLe => k_is)
    (case kLe => k_is)
    (case aCa => k_is)
    (case iCa => k_is)
    (case lCa => k_is)
    (case cCa => k_is)
    (case kCa => k_is)
    (case fiCa => k_is)
    (case aLA => k_is)
    (case iLA => k_is)
    (case lLA => k_is)
    (case cLA => k_is)
    (case kLA => k_is)
    (case aUn => k_is)
    (case iUn => k_is)
    (case lUn => k_is)
    (case cUn => k_is)
    (case kUn => k_is)
    (case aCo => k_is)
    (case iCo => k_is)
    (case lCo => k_is)
    (case cCo => k_is)
    (case kCo => k_is)
    (case aLn => k_is)
    (case iLn => k_is)
    (case lLn => k_is)
    (case cLn => k_is)
    (case kLn => k_is)
    (case aHa => k_is)
    (case iHa => k_is)
    (case lHa => k_is)
    (case cHa => k_is)
    (case kHa => k_is)
    (case aIn => k_is)
    (case iIn => k_is)
    (case lIn => k_is)
    (case cIn => k_is)
    (case kIn => k_is)
    (case aGe => k_is)
    (case iGe => k_is)
    (case lGe => k_is)
    (case cGe => k_is)
    (case kGe => k_is)
    (case fiGe => k_is)
    (case aEq => k_is)
    (case iEq => k_is)
    (case lEq => k_is)
    (case cEq => k_is)
    (case kEq => k_is)
    (case aTi => k_is)
    (case iTi => k_is)
    (case lTi => k_is)
    (case cTi => k_is)
    (case kTi => k_is)
    (case aEn => k_is)
    (case iEn => k_is)
    (case lEn => k_is)
    (case cEn => k_is)
    (case kEn => k_is)
    (case aEx => k_is)
    (case iEx => k_is)
    (case lEx => k_is)
    (case cEx => k_is)
    (case kEx => k_is)
    (case apS => k_is)
    (case qpS => k_is)
    (case tpS => k_is)
    (case rpS => k_is)
    (case lpS => k_is)
    (case cpS => k_is)
    (case kpS => k_is)
    (case apC => k_is)
    (case qpC => k_is)
    (case tpC => k_is)
    (case rpC => k_is)
    (case lpC => k_is)
    (case cpC => k_is)
    (case kpC => k_is)
    (case apE => k_is)
    (case qpE => k_is)
    (case tpE => k_is)
    (case rpE => k_is)
    (case lpE => k_is)
    (case cpE => k_is)
    (case kpE => k_is)
    (case apL => k_is)
    (case qpL => k_is)
    (case tpL => k_is)
    (case rpL => k_is)
    (case lpL => k_is)
    (case cpL => k_is)
    (case kpL => k_is)
    (case xha => k_is)
    (case xsp => k_is)
    (case xtk => k_is)
    (case xmo => k_is)
    (case xme => kit_is)
    (case xno0 => kit_is)
    (case xnf0 => k_is)
    (case xno1 => kit_is)
    (case xnf1 => k_is)
    (case xno2 => kit_is)
    (case xnf2 => k_is)
    (case xno3 => kit_is)
    (case xnf3 => k_is)
    (case xno4 => kit_is)
    (case xnf4 => k_is)
    (case xno5 => kit_is)
    (case xnf5 => k_is)
    (case xno6 => kit_is)
    (case xnf6 => k_is)
    (case xtl => k_is)
    (case xtp => first | rfl | exact rfl)
    (case xnp => first | kernel_rfl | decide +kernel)
    (case xrec => first | kernel_rfl | decide +kernel | rfl)
