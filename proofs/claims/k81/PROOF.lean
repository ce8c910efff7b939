import PyProof.Rows.All
import Wide.All
import OpenK.AllK
import Wide.FinOn
import HandS.ForMost
import HandS.Codes
import HandS.Wide
import HandS.WideBits
import HandS.Defaults
import HandS.Walk
import PyProof.ReprRoads
import HandS.Text
import HandS.Iter
import HandS.Style
import KE.GoesMore
import KE.KRevSl
import PyProof.ReprLen
import PyProof.StrBlock2
import HandS.Ends
import HandS.TupMul
import HandS.TupAny
import HandS.IsInst
import HandS.SetBool
import HandS.Strs
import HandS.Dict
import HandS.GenList
import PyProof.EnumMake
import PyProof.EnumFor
import PyProof.EnumStmt
import HandS.SetKeys
import HandS.DictTup
import HandS.TupLen
import PyProof.DictMoreH
import KE.KeyNested
import HandS.Small
import HandS.Gcd
import KE.KMathGC
import HandS.Zip
import PyProof.Rows.ReprOcc
import HandS.SetFor
import HandS.Comp
import HandS.List
import HandS.Evl
import PyProof.TupleOfGen
import PySem.Challenge.RW_pastenough_k81_whole_rounds_and_sums
set_option Elab.async false
set_option linter.all false
set_option maxRecDepth 100000
set_option maxHeartbeats 4000000
/-! Defs that are run where no repr is under way; repr of data; further small rules. -/
namespace Gk
open PySem PySem.Spec PyProof.Rows L2

/-- a def's promise wherever nothing is being shown -/
structure FnG (P : Program) (w : World) (K : PySem.W.Frag) (mg : Str → Option Value) (base : Heap) (k : Nat)
    (f : Addr) (fd : FuncData) (ps : List Str) (sp : Sp) : Prop where
  len : ∀ vs H Q E, sp vs H Q E → vs.length = ps.length
  go : ∀ (A : Around) (outer : List Env) (s : Shared) (H : Hp) (args : Args) (us : List Value) (vs : List V) (Q : VK),
    Room k A → A.guards = some [] → Env0 P w K mg base A outer s H → BindsTo s fd args (ps.zip us) → Vals vs us → sp vs H Q L2.E0 →
    codeAny (model P w) A (.call (.ref f) args) (CR L2.CX0 outer P w H s Q L2.E0) s

section
variable {P : Program} {w : World} {K : PySem.W.Frag} {mg : Str → Option Value} {base : Heap}
theorem FnG.weak {j k : Nat} {f : Addr} {fd : FuncData} {ps : List Str} {sp : Sp} (F : FnG P w K mg base j f fd ps sp) (h : j ≤ k) : FnG P w K mg base k f fd ps sp :=
  ⟨F.len, fun A outer s H args us vs Q r g => F.go A outer s H args us vs Q (r.mono h) g⟩
theorem FnG.from {k : Nat} {f : Addr} {fd : FuncData} {ps : List Str} {sp : Sp} (F : FnOk P w K mg base L2.CX0 k f fd ps sp) : FnG P w K mg base k f fd ps sp :=
  ⟨F.len, fun A outer s H args us vs Q r _ e b v q => F.run A outer s H args us vs Q L2.E0 r e b v q⟩

theorem guards_deeper {A : Around} {env : Env} (h : A.guards = some []) : (A.deeper env).guards = some [] := by
  first | exact h | (unfold Around.deeper; exact h)

/-- THE RULE for a def, by its body -/
theorem fnG {x qual : Str} {st : Stmt} {f : Addr} {fd : FuncData} {N ps : List Str} {k : Nat} {sp : Sp} (F : L2.Fun K x qual st f fd) (S : FnScope N ps (defScope st))
    (len : ∀ vs H Q E, sp vs H Q E → vs.length = ps.length)
    (hbody : ∀ (cdv : Value) (A : Around) (outer : List Env) (s : Shared) (H : Hp) (vs : List V) (Q : VK),
      Room k (A.deeper (envOfC qual (defScope st) s.heap.objs.size f cdv)) → (A.deeper (envOfC qual (defScope st) s.heap.objs.size f cdv)).guards = some [] → sp vs H Q L2.E0 →
      ∃ t, PSs (cxOf L2.CX0 P w K mg base N qual (defScope st) f cdv A outer s H L2.E0).nox (defBody st) t ∧ t { nx := fun _ H' => Q .non H', rt := Q } (start N vs) H) :
    FnG P w K mg base (k + 1) f fd ps sp := by
  obtain ⟨oc, od, kV, doc, pm, an, cdv, ct, osl, rfl, lk, hcd⟩ := F.ex
  refine ⟨len, fun A outer s H args us vs Q room gd en bd rv want => ?_⟩
  have many := len _ _ _ _ want
  have KX : K.In s.heap := en.mod.kin.keeps (fun b o hbo => (en.bs b o hbo).1)
  have lim : s.heap.NoLimit := en.mod.nolimit.keeps (fun b o hbo => (en.bs b o hbo).1)
  have kinds : ∀ y ∈ ps.zip us, (defScope st).names.lookup y.1 = some .local ∨
      ((defScope st).names.lookup y.1 = some .cell ∧ ((cellsFrom (s.heap.objs.size + 1) (defScope st).names []).lookup y.1).isSome = true) := fun y hy =>
    (S.par y.1 (List.of_mem_zip (a := y.1) (b := y.2) hy).1).elim Or.inl fun q => .inr ⟨q, PySem.W.cellsFrom_some _ _ _ (.inl q)⟩
  refine codeAny_call_function room.depth (KX _ _ lk) rfl S.co S.gen rfl (PySem.W.codeRec_of KX hcd) (bd _ _ _ _ ?_)
  refine wpAny_newFunctionEnv_cells S.kind kinds fun env he st1 inC => ?_
  subst he
  refine ⟨lim.keeps inC.toInCall.keep, codeAny_func ?_⟩
  obtain ⟨t, ht, hq⟩ := hbody cdv A outer s H vs Q (room.deeper _) (guards_deeper gd) want
  have I := inv_start (CX := L2.CX0) (P := P) (w := w) (mg := mg) (E := L2.E0) S room.hd en many rv inC
  refine wpAny_mono (ht.nox.run [] st1 (start N vs) H _ I hq) (fun fl s' hs => ?_) fun e s' hs => hs
  cases fl with
  | brk => obtain ⟨_, _, _, z⟩ := hs; exact False.elim z
  | cont => obtain ⟨_, _, _, z⟩ := hs; exact False.elim z
  | next => obtain ⟨σ1, H1, J, z⟩ := hs; exact ⟨V.non, H1, J.os, J.bare, J.base, J.hok, rfl, z⟩
  | ret u => obtain ⟨v, σ1, H1, J, rv1, z⟩ := hs; exact ⟨v, H1, J.os, J.bare, J.base, J.hok, rv1, z⟩
end

section
variable {X : Cx} {k : Nat} {f : Addr} {fd : FuncData} {ps : List Str} {sp : Sp} {x : Str} {p pos : Pos} {e : Expr} {es : List Expr} {t : TA}
theorem go_fn {pins : List (Addr × Obj)} {σ : L2.St} {H : Hp} {s : Shared} {Q : VK} {us : List Value} {vs : List V} (F : FnG X.prog X.w X.K X.mg X.base k f fd ps sp)
    (hr : Room k X.A) (hg : X.A.guards = some []) (hb : Binds X.K fd ps []) (I : Inv X pins σ H s) (r : Vals vs us) (h : sp vs H Q L2.E0) : wpAny (model X.prog X.w) X.A (call (.ref f) us) (EP X pins σ Q) X.xe s := by
  have hl : (us ++ []).length = ps.length := by rw [List.append_nil, ← r.length]; exact F.len _ _ _ _ h
  have b := hb s us I.kIn hl
  rw [List.append_nil] at b
  refine wpAny_call (codeAny_mono (F.go X.A X.stack s H ⟨us, []⟩ us vs Q hr hg I.env0 b r h) fun res s' hq => ?_)
  cases res with
  | error er => exact False.elim hq
  | ok fl =>
    cases fl with
    | brk => exact False.elim hq
    | cont => exact False.elim hq
    | next => exact False.elim hq
    | ret u => exact I.after hq
def tG (sp : Sp) (t : TA) : TE := fun σ H Q => t σ H fun vs H1 => sp vs H1 Q L2.E0
/-- f(e, ..) -/
theorem pe_g (F : FnG X.prog X.w X.K X.mg X.base k f fd ps sp) (hr : Room k X.A) (hd : X.A.guards = some []) (hg : Gl X x) (hm : X.mg x = some (.ref f)) (hk : PySem.W.keepIn X.K (.ref f) = true) (hb : Binds X.K fd ps [])
    (ha : PA X (e :: es) t) (hdb : (x == ("__debug__" : Str)) = false := by decide) (he : starEach (e :: es) X.env = (false, eval e X.env) :: starEach es X.env := by rfl)
    (hpl : (backTo pos (starEach es X.env)).any (·.1) = false := by rfl) : PE X (.Call (.Name x p) (e :: es) [] pos) (tG sp t) :=
  ⟨fun pins s σ H Q I h => wpAny_Call_Name_kw (ld_glob I hg hm (PySem.W.callWith_K (h₀ := X.base) I.ok.mod.kin hk (thn (ha.run pos pins s σ H _ I h) fun us s1 ⟨vs, H1, I1, r, q⟩ => ⟨I1.kIn, go_fn F hr hd hb I1 r q⟩) he hpl) hdb)⟩
end

/-! ### keywords alone -/
section
variable {X : Cx} {k : Nat} {f : Addr} {fd : FuncData} {ps ks : List Str} {sp : Sp} {x : Str} {p pos : Pos} {kws : List Keyword} {tk : TA} {g : List Value → List Value → List Value} {gV : List V → List V → List V}
def tKw (n : Nat) (gV : List V → List V) (sp : Sp) (tk : TA) : TE := fun σ H Q => tk σ H fun zs H1 => zs.length = n ∧ sp (gV zs) H1 Q L2.E0
/-- f(k = v, ..) -/
theorem pe_kw (F : FnOk X.prog X.w X.K X.mg X.base L2.CX0 k f fd ps sp) (hr : Room k X.A) (hg : Gl X x) (hm : X.mg x = some (.ref f)) (hk : PySem.W.keepIn X.K (.ref f) = true) (hb : KBn X.K fd ps 0 ks g gV)
    (hkw : PK X kws tk) (hall : (backToKw pos (keywordEach kws X.env)).all (·.1.isSome) = true := by rfl) (hks : (backToKw pos (keywordEach kws X.env)).filterMap (·.1) = ks := by rfl) (hdb : (x == ("__debug__" : Str)) = false := by decide)
    (hpl : ((backTo pos (starEach [] X.env)).any (·.1) || (backToKw pos (keywordEach kws X.env)).any (·.1.isNone)) = false := by rfl) :
    PE X (.Call (.Name x p) [] kws pos) (tKw ks.length (gV []) sp tk) := by
  refine ⟨fun pins s σ H Q I h => wpAny_Call_Name_kw (ld_glob I hg hm ?_ hdb)⟩
  refine PySem.W.callWith_KW0 (h₀ := X.base) I.ok.mod.kin hk hall (thn (hkw.run pos pins s σ H _ I h) fun ws s2 ⟨zs, H2, I2, rz, l2, q2⟩ => ⟨I2.kIn, ?_⟩) hpl
  rw [hks]
  exact run_fnN (us := []) (vs := []) F hr hb L2.pass0 I2 .nil rz rfl l2 q2
end
end Gk
/-! i // j where j has at most 64 bits. -/
namespace Gk
open PySem PySem.Spec PyProof.Rows L2
def CDiv64 (i j : Int) : Prop := 0 < j ∧ j < 18446744073709551616
theorem noPylong64 {x y : Int} (h : y.natAbs < 18446744073709551616) : Builtin.divisionGoesByPylong x y = false := by
  refine PyProof.noPylong_of_log2 ?_
  by_cases h0 : y.natAbs = 0
  · rw [h0]; decide +kernel
  · have h64 : y.natAbs.log2 < 64 := (Nat.log2_lt h0).mpr h
    omega
theorem op_fdiv64 {X : Cx} : OpR X (binaryOp .FloorDiv) (rI CDiv64 fun i j => .int (i / j)) := opI fun i j _ _ _ _ _ hc q => by
  refine floordiv_int (by have := hc.1; omega) ?_ (.inl (noPylong64 (by have := hc.1; have := hc.2; omega)))
  rw [Int.fdiv_eq_ediv_of_nonneg _ (by have := hc.1; omega)]
  exact q
end Gk
namespace Gk
open PySem PySem.Spec PyProof.Rows L2 PySem.Builtin.Str

/-! ### powers of great numbers -/
def CBigPow (i j : Int) : Prop := 0 ≤ j ∧ (Builtin.Int.intBits i : Int) * j ≤ 2 ^ 27
theorem op_bigpow {X : Cx} : OpR X (binaryOp .Pow) (rI CBigPow fun i j => .int (i ^ j.toNat)) := opI fun _ _ _ _ _ _ _ hc q => pow_int hc.1 hc.2 q

/-! ### repr of data -/
theorem call_reprD {X : Cx} {k : Nat} (hr : Room k X.A) (hg : X.A.guards = some []) : CallR X (.builtin "repr") (fun xs H Q => ∃ v d, xs = [v] ∧ Dp X.K H v d ∧ d.showable = true ∧ d.hasDict = false ∧
    d.depth ≤ 40 ∧ d.shown.length ≤ sizeLine ∧ Q (.str d.shown) H) := by
  intro pins s σ H xs us Q I r h
  obtain ⟨v, d, rfl, hd, hs, hn, hdep, hz, q⟩ := h
  obtain ⟨u, rfl, ru⟩ := vals1 r
  have hun := hr.units
  cases hd with
  | non =>
    cases ru
    exact PySem.P.repr_of_none ⟨.str _, H, I.tok _, ⟨_, rfl⟩, q⟩
  | bl b =>
    cases ru
    exact PySem.P.repr_of_bool ⟨.str _, H, I.tok _, ⟨_, rfl⟩, q⟩
  | int i =>
    obtain ⟨t, rfl⟩ := ru
    exact PySem.P.repr_of_int (of_decide_eq_true hs) ⟨.str _, H, I.tok _, ⟨_, rfl⟩, q⟩
  | str x =>
    obtain ⟨t, rfl⟩ := ru
    exact PySem.P.repr_of_str ⟨.str _, H, I.tok _, ⟨_, rfl⟩, q⟩ hz
  | lst h1 h2 =>
    rename_i a xs ds
    obtain ⟨as, rd⟩ := Dp.reads I (.list ds) (.ref a) u (.lst h1 h2) ru
    cases ru
    exact repr_of_reads' rd hs (PyData.noDict_hsm hn) hg (by omega) (fun _ _ e => e) (fun h' t tk hk => ⟨.str _, H, I.kept (t' := tk) hk, ⟨_, rfl⟩, q⟩) hz
  | tup h1 h2 =>
    rename_i a xs ds
    obtain ⟨as, rd⟩ := Dp.reads I (.tuple ds) (.ref a) u (.tup h1 h2) ru
    cases ru
    exact repr_of_reads' rd hs (PyData.noDict_hsm hn) hg (by omega) (fun _ _ e => e) (fun h' t tk hk => ⟨.str _, H, I.kept (t' := tk) hk, ⟨_, rfl⟩, q⟩) hz

/-! ### a text from behind -/
theorem rev_signs (z : Str) : ((strSliceIndices none none (-1) z.length).filterMap (z.cps[·]?)).toArray = z.cps.toList.reverse.toArray := by
  have e : strSliceIndices none none (-1) z.length = (List.range z.cps.size).reverse := by
    show sliceRange ((z.cps.size : Int) - 1) (-1) (-1) = _
    rw [PySem.W.krv_sliceRange, PySem.W.krv_range]
  rw [e, List.filterMap_reverse, PySem.W.krv_all]
def tRevT (te : TE) : TE := fun σ H Q => te σ H fun x H1 => ∃ z : Str, x = .str z ∧ z.length ≤ sizeLine ∧ Q (.str ⟨z.cps.toList.reverse.toArray⟩) H1
theorem pe_revT {X : Cx} {e : Expr} {te : TE} {k : Nat} {p1 p2 p3 pos : Pos} (he : PE X e te) : PE X (.Subscript e (.Slice none none (some (.UnaryOp .USub (.Constant (.int 1) k p1) p2)) p3) pos) (tRevT te) := by
  refine ⟨fun pins s σ H Q I h => Subscript_ (thn (he.run pins s σ H _ I h) fun v s1 ⟨x, H1, I1, r1, z, ex, hz, q⟩ => ?_)⟩
  subst ex
  obtain ⟨t, rfl⟩ := r1
  have step : PO X (some (.UnaryOp .USub (.Constant (.int 1) k p1) p2)) (tPart (tUn (rU fun i => .int (-i)) (tC (.int 1)))) := po_some (pe_un un_neg pe_int)
  refine wpAny_Slice (thn (po_none.run pins s1 σ H1 (fun o G => o = none ∧ G = H1) I1 ⟨rfl, rfl⟩) fun vl s2 ⟨l, H2, I2, pl, el, e2⟩ => ?_)
  subst e2 el
  refine thn (po_none.run pins s2 σ H2 (fun o G => o = none ∧ G = H2) I2 ⟨rfl, rfl⟩) fun vu s3 ⟨u, H3, I3, pu, eu, e3⟩ => ?_
  subst e3 eu
  refine thn (step.run pins s3 σ H3 (fun o G => o = some (-1) ∧ G = H3) I3 ⟨1, rfl, -1, rfl, rfl, rfl⟩) fun vs s4 ⟨o, H4, I4, ps, eo, e4⟩ => ?_
  subst e4 eo
  obtain ⟨l, rfl, el⟩ := IsPart.raw pl
  obtain ⟨u, rfl, eu⟩ := IsPart.raw pu
  obtain ⟨w, rfl, ew⟩ := IsPart.raw ps
  have I5 : Inv X pins σ H4 { s4 with heap := s4.heap.push { cls := .type "slice", data := .fields #[partValue l, partValue u, partValue w] } } :=
    I4.kept (t' := s4.toks) fun b ob g => Heap.get?_push_of_some _ g
  refine tail_any (T := "str") (ops := [.str z t, .ref s4.heap.objs.size]) (typeIs_str _ _ _) F.slot_str_getitem.lookup ?_ (by with_unfolding_all rfl)
  refine wpAny_getItem_str_slice (l := l) (u := u) (st := w) ⟨_, Heap.get?_push_size _ rfl, rfl, rfl⟩ (by rw [ew]; rfl) ?_
  unfold sliceMade slicePicked
  rw [el, eu, ew]
  show Made.post (if ((-1 : Int) == 1 && _) = true then _ else Made.str ⟨((strSliceIndices none none (-1) z.length).filterMap (z.cps[·]?)).toArray⟩) _ _
  rw [show ((-1 : Int) == 1) = false from rfl, Bool.false_and, if_neg Bool.false_ne_true, rev_signs]
  have hl : (⟨z.cps.toList.reverse.toArray⟩ : Str).length ≤ sizeLine := by
    show z.cps.toList.reverse.toArray.size ≤ sizeLine
    rw [List.size_toArray, List.length_reverse, Array.length_toList]
    exact hz
  exact ⟨hl, .str _, H4, I5.tok _, ⟨_, rfl⟩, q⟩

/-! ### enumerate of a text -/
def Iet (z : Str) : It := ⟨fun i _ => i < z.cps.size, fun i H v H' => ∃ T c, v = .ref T ∧ H T = none ∧ z.cps[i]? = some c ∧ H' = upd H T (.tup [.int (i : Nat), .str ⟨#[c]⟩]), fun i _ => z.cps.size ≤ i⟩
theorem turn_et {P : Program} {w : World} {K : PySem.W.Frag} {elts : List Expr} {kk : Nat} {tpos : Pos} (e it : Addr) (z : Str) (t : Tok) :
    Turn P w K (.Tuple elts kk tpos) (Iet z) [e, it] e (fun i h => ((∃ old, IsEnum h e it i old) ∧ h.IsStrIter it (strIterType z) z t i) ∧ e ≠ it ∧ i ≤ z.cps.size) where
  mem := List.mem_cons_self
  obj := fun i h st b hb => by
    obtain ⟨⟨⟨old, he⟩, ⟨o, ho, hc, hd⟩⟩, _⟩ := st
    rcases List.mem_cons.mp hb with rfl | hb
    · exact ⟨_, he, fun v g => nomatch g⟩
    · rw [List.mem_singleton.mp hb]
      exact ⟨o, ho, fun v g => by rw [hd] at g; cases g⟩
  keep := fun i h h' st k => by
    obtain ⟨⟨⟨old, he⟩, ⟨o, ho, hc, hd⟩⟩, hne⟩ := st
    exact ⟨⟨⟨old, k e List.mem_cons_self _ he⟩, o, k it (List.mem_cons_of_mem _ List.mem_cons_self) o ho, hc, hd⟩, hne⟩
  item := by
    intro X hP hw hK hc i pins s σ H E I hf st hg
    subst hP hw hK
    have hg' : i < z.cps.size := hg
    obtain ⟨st, hne, hi⟩ := st
    have D : Draws X.prog X.w X.A.in1 it [it] z.cps.size _ _ := Draws.text (show X.A.in1.handled = none from I.ok.hd hc) it z t
    have W := WalksT.enumerateD D e hne (fun q => hne (List.mem_singleton.mp q)) List.mem_cons_self
    have hel : e < s.heap.objs.size := by obtain ⟨⟨old, he⟩, _⟩ := st; exact Heap.lt_size he
    have hil : it < s.heap.objs.size := by obtain ⟨_, o, ho, _⟩ := st; exact Heap.lt_size ho
    refine W.item i s _ _ hg' st fun T vals h' tk hp hT isT mid hk => ?_
    obtain ⟨t1, x1, ⟨c, u1, hcx, rfl⟩, rfl⟩ := hp
    have nT := W.apart i T h' mid
    refine ⟨_, rfl, W.go elts kk tpos i T { s with heap := h', toks := tk } _ _ mid fun h2 st2 hk2 => ?_⟩
    obtain ⟨oT, gT, cT, nTT, dT⟩ := isT
    have gT2 := hk2 T oT nT gT
    have new : ObjOk X.prog X.w (upd H T (.tup [.int (i : Nat), .str ⟨#[c]⟩])) h2 T (.tup [.int (i : Nat), .str ⟨#[c]⟩]) :=
      ⟨by show 2 ≤ sizeLine; decide, [.int i t1, .str ⟨#[c]⟩ u1], .cons ⟨_, rfl⟩ (.cons ⟨_, rfl⟩ .nil), ⟨oT, gT2, cT, nTT, dT⟩⟩
    have I1 : Inv X pins σ (upd H T (.tup [.int (i : Nat), .str ⟨#[c]⟩])) { s with heap := h2, toks := tk } :=
      I.turnedNew (ch := [e, it]) (fun b ob hb g => hk2 b ob hb (hk b ob hb g)) hf hT new
    refine ⟨.ref T, _, I1, rfl, ⟨T, c, rfl, I.hok.fresh hT, hcx, rfl⟩, ⟨⟨?_, st2.2⟩, hne, hg'⟩, fun b hb => ?_⟩
    · exact st2.1
    · have hb' : b < s.heap.objs.size := by
        rcases List.mem_cons.mp hb with rfl | hb
        · exact hel
        · rw [List.mem_singleton.mp hb]; exact hil
      rw [upd_ne (Nat.ne_of_lt (Nat.lt_of_lt_of_le hb' hT))]
      exact (hf b hb).1
  done := by
    intro X hP hw hK hc i pins s σ H E I hf st hg
    subst hP hw hK
    obtain ⟨st, hne, hi⟩ := st
    have hg' : z.cps.size ≤ i := hg
    obtain rfl : i = z.cps.size := Nat.le_antisymm hi hg'
    have D : Draws X.prog X.w X.A.in1 it [it] z.cps.size _ _ := Draws.text (show X.A.in1.handled = none from I.ok.hd hc) it z t
    have W := WalksT.enumerateD D e hne (fun q => hne (List.mem_singleton.mp q)) List.mem_cons_self
    refine W.done s _ _ st fun h' tk hk => ⟨rfl, ?_⟩
    exact I.step (g' := s.gens) (d' := s.drawn) (ch := [e, it]) (fun b hb => ⟨(hf b hb).2.2.2.1, (hf b hb).2.1, (hf b hb).2.2.2.2.1, (hf b hb).2.2.2.2.2⟩) (fun b o _ _ hc g _ => hk b o hc g) (fun b o _ _ hc g _ => ⟨o.slots, hk b o hc g⟩)
      (fun _ _ _ _ n => n) (fun b o hc g => ⟨o, hk b o hc g⟩) (fun _ _ g => g) (fun _ _ _ g => g) (fun b ps g => ⟨#[], by rw [g]; simp⟩)
      (fun m hm => by
        obtain ⟨o, es, ep, ho, r⟩ := hm
        exact ⟨o, es, ep, hk _ o (fun q => (hf _ q).2.1 rfl) ho, r⟩)
      (fun b u g => by
        have nb : ∀ c v, H c = some v → c ∉ [e, it] := fun c v g q => by
          have g' := (hf c q).1
          rw [g'] at g; cases g
        refine (I.hok b u g).stay (fun c v hcv q => hk c v ?_ q) (fun _ q => q) fun _ _ q => q
        rcases hcv with rfl | hcv
        · exact nb _ _ g
        · exact nb _ _ hcv) I.bare
  self := fun A i s Q E st h => by
    obtain ⟨⟨⟨old, he⟩, _⟩, _⟩ := st
    exact wpAny_pyIter_enum he h
def iEnumT (ta : TA) : TI := fun σ H R => ta σ H fun vs H1 => ∃ z, vs = [.str z] ∧ R (Iet z) H1
theorem pi_enumT {X : Cx} {e : Expr} {ta : TA} {p pos tpos : Pos} {elts : List Expr} {kk : Nat} (hg : Gl X "enumerate") (hm : X.mg "enumerate" = none) (ha : PA X [e] ta) (hs : starEach [e] X.env = [(false, eval e X.env)] := by rfl) :
    PI X (.Tuple elts kk tpos) (.Call (.Name "enumerate" p) [e] [] pos) (iEnumT ta) := by
  refine ⟨fun pins s σ H R I h => Call_ (ld_blt I hg hm boot_enumerate (PyProof.Rows.callWith_type1 (thn (ha.run pos pins s σ H _ I h) fun us s1 ⟨vs, H1, I1, r1, z, ez, q⟩ => ?_) hs rfl))⟩
  subst ez
  obtain ⟨u, rfl, t, rfl⟩ := vals1 r1
  refine call_enumerate_str fun h' he hit hsz hk => wpAny_pyIter_enum he ?_
  refine ⟨s1.heap.objs.size + 1, [s1.heap.objs.size + 1, s1.heap.objs.size], _, _, H1, rfl, I1.kept (t' := s1.toks) hk, turn_et (s1.heap.objs.size + 1) s1.heap.objs.size z t, ⟨⟨⟨.none, he⟩, hit⟩, Nat.succ_ne_self _, Nat.zero_le _⟩, fun b hb => ?_, q⟩
  have hle : s1.heap.objs.size ≤ b := by
    rcases List.mem_cons.mp hb with rfl | hb
    · exact Nat.le_succ _
    · rw [List.mem_singleton.mp hb]
      exact Nat.le_refl _
  exact I1.fpOk hle (I1.hok.fresh hle)
theorem walk_et {z : Str} : Walk (Iet z) z.cps.size (fun _ => True) (fun i H v H' => ∃ T c, v = .ref T ∧ H T = none ∧ z.cps[i]? = some c ∧ H' = upd H T (.tup [.int (i : Nat), .str ⟨#[c]⟩])) :=
  ⟨fun _ _ hi _ => hi, fun _ _ => Nat.le_refl _, fun _ _ _ _ _ _ y => y⟩
end Gk
namespace Gk
open PySem PySem.Spec PyProof.Rows L2
/-! ### the box of draws -/
def Box (m : Nat) (H : Hp) (b : Addr) : Prop := ∃ x y s : Int, H b = some (.lst [.int x, .int y, .int s]) ∧ 0 ≤ s ∧ s ≤ m
theorem Box.up {m n : Nat} {H : Hp} {b : Addr} (h : Box m H b) (hn : m ≤ n) : Box n H b := by
  obtain ⟨x, y, s, e, h0, h1⟩ := h
  exact ⟨x, y, s, e, h0, by omega⟩
/-- all but the box is as it was -/
def But (b : Addr) (H H' : Hp) : Prop := ∀ a o, a ≠ b → H a = some o → H' a = some o
theorem But.refl (b : Addr) (H : Hp) : But b H H := fun _ _ _ h => h
theorem But.trans {b : Addr} {H H1 H2 : Hp} (x : But b H H1) (y : But b H1 H2) : But b H H2 := fun a o n h => y a o n (x a o n h)
theorem But.set {b : Addr} {H : Hp} {o : HO} : But b H (upd H b o) := fun a u n h => by rw [upd_ne n]; exact h
theorem But.new {b p : Addr} {H : Hp} {o : HO} (h : H p = none) : But b H (upd H p o) := fun a u _ e => by rw [upd_ne (ne_of_none e h)]; exact e
theorem But.of_same {b : Addr} {H H' : Hp} (h : Same H H') : But b H H' := fun a o _ e => h a o e
theorem same_new {H : Hp} {p : Addr} {o : HO} (h : H p = none) : Same H (upd H p o) := fun a u e => by rw [upd_ne (ne_of_none e h)]; exact e
theorem Box.same {m : Nat} {H H' : Hp} {b : Addr} (h : Box m H b) (s : Same H H') : Box m H' b := by
  obtain ⟨x, y, z, e, r⟩ := h
  exact ⟨x, y, z, s _ _ e, r⟩
theorem Box.ne {m : Nat} {H : Hp} {b p : Addr} (h : Box m H b) (hp : H p = none) : b ≠ p := by
  obtain ⟨x, y, z, e, r⟩ := h
  exact ne_of_none e hp
theorem But.seqL {b : Addr} {K : PySem.W.Frag} {H H' : Hp} {a : Addr} {xs : List V} (e : But b H H') (n : a ≠ b) (h : SqL K H a xs) : SqL K H' a xs := by
  rcases h with (h | ⟨o, h⟩) | h
  · exact .inl (.inl (e _ _ n h))
  · exact .inl (.inr ⟨o, e _ _ n h⟩)
  · exact .inr h
theorem But.seqT {b : Addr} {K : PySem.W.Frag} {H H' : Hp} {a : Addr} {xs : List V} (e : But b H H') (n : a ≠ b) (h : SqT K H a xs) : SqT K H' a xs := by
  rcases h with (h | ⟨o, h⟩) | h
  · exact .inl (.inl (e _ _ n h))
  · exact .inl (.inr ⟨o, e _ _ n h⟩)
  · exact .inr h
theorem Same.seqT {K : PySem.W.Frag} {H H' : Hp} {a : Addr} {xs : List V} (e : Same H H') (h : SqT K H a xs) : SqT K H' a xs := by
  rcases h with (h | ⟨o, h⟩) | h
  · exact .inl (.inl (e _ _ h))
  · exact .inl (.inr ⟨o, e _ _ h⟩)
  · exact .inr h
/-- what is read at an address that is not the box's -/
theorem box_not_tup {m : Nat} {K : PySem.W.Frag} {H : Hp} {b a : Addr} (h : Box m H b) {xs : List V} (t : H a = some (.tup xs)) : a ≠ b := by
  obtain ⟨x, y, z, e, r⟩ := h
  exact ne_of t e (fun q => HO.noConfusion q)

/-! ### defs with their names -/
structure Dfn (P : Program) (w : World) (K : PySem.W.Frag) (mg : Str → Option Value) (base : Heap) (k : Nat) (x : Str) (ps : List Str) (sp : Sp) : Prop where
  ex : ∃ (f : Addr) (fd : FuncData), FnOk P w K mg base L2.CX0 k f fd ps sp ∧ mg x = some (.ref f) ∧ PySem.W.keepIn K (.ref f) = true ∧ Binds K fd ps []
/-- .. where nothing is being shown -/
structure DfG (P : Program) (w : World) (K : PySem.W.Frag) (mg : Str → Option Value) (base : Heap) (k : Nat) (x : Str) (ps : List Str) (sp : Sp) : Prop where
  ex : ∃ (f : Addr) (fd : FuncData), FnG P w K mg base k f fd ps sp ∧ mg x = some (.ref f) ∧ PySem.W.keepIn K (.ref f) = true ∧ Binds K fd ps []
section
variable {X : Cx} {k j : Nat} {x : Str} {ps : List Str} {sp : Sp} {p pos : Pos} {e : Expr} {es : List Expr} {t : TA}
theorem pe_d (D : Dfn X.prog X.w X.K X.mg X.base k x ps sp) (hr : Room j X.A) (hk : k ≤ j) (hg : Gl X x) (ha : PA X (e :: es) t)
    (hdb : (x == ("__debug__" : Str)) = false := by decide) (he : starEach (e :: es) X.env = (false, eval e X.env) :: starEach es X.env := by rfl)
    (hpl : (backTo pos (starEach es X.env)).any (·.1) = false := by rfl) : PE X (.Call (.Name x p) (e :: es) [] pos) (tCall sp [] L2.E0 t) := by
  obtain ⟨f, fd, F, m, kp, b⟩ := D.ex
  exact L2.pe_call (F.mono hk) hr hg m kp b .nil L2.pass0 ha hdb he hpl
theorem pe_dg (D : DfG X.prog X.w X.K X.mg X.base k x ps sp) (hr : Room j X.A) (hd : X.A.guards = some []) (hk : k ≤ j) (hg : Gl X x) (ha : PA X (e :: es) t)
    (hdb : (x == ("__debug__" : Str)) = false := by decide) (he : starEach (e :: es) X.env = (false, eval e X.env) :: starEach es X.env := by rfl)
    (hpl : (backTo pos (starEach es X.env)).any (·.1) = false := by rfl) : PE X (.Call (.Name x p) (e :: es) [] pos) (tG sp t) := by
  obtain ⟨f, fd, F, m, kp, b⟩ := D.ex
  exact pe_g (F.weak hk) hr hd hg m kp b ha hdb he hpl
end
/-- an expression whose ways meet -/
def tMid (t : TE) : TE := fun σ H Q => ∃ Mid : V → Hp → Prop, t σ H Mid ∧ ∀ v H', Mid v H' → Q v H'
theorem pe_mid {X : Cx} {e : Expr} {t : TE} (h : PE X e t) : PE X e (tMid t) :=
  ⟨fun pins s σ H Q I ⟨M, h1, h2⟩ => thn (h.run pins s σ H M I h1) fun u s1 ⟨v, H1, I1, r, q⟩ => ⟨v, H1, I1, r, h2 v H1 q⟩⟩
/-- a test whose ways meet -/
def tMidT (t : TT) : TT := fun σ H Q => ∃ Mid : Bool → Hp → Prop, t σ H Mid ∧ ∀ b H', Mid b H' → Q b H'
/-- a def called by keywords alone -/
structure DfK (P : Program) (w : World) (K : PySem.W.Frag) (mg : Str → Option Value) (base : Heap) (k : Nat) (x : Str) (ps ks : List Str) (gV : List V → List V) (sp : Sp) : Prop where
  ex : ∃ (f : Addr) (fd : FuncData) (g : List Value → List Value → List Value), FnOk P w K mg base L2.CX0 k f fd ps sp ∧ mg x = some (.ref f) ∧ PySem.W.keepIn K (.ref f) = true ∧ KBn K fd ps 0 ks g (fun _ zs => gV zs)
theorem pe_dk {X : Cx} {k j : Nat} {x : Str} {ps ks : List Str} {sp : Sp} {gV : List V → List V} {p pos : Pos} {kws : List Keyword} {tk : TA} (D : DfK X.prog X.w X.K X.mg X.base k x ps ks gV sp) (hr : Room j X.A) (hk : k ≤ j) (hg : Gl X x)
    (hkw : PK X kws tk) (hall : (backToKw pos (keywordEach kws X.env)).all (·.1.isSome) = true := by rfl) (hks : (backToKw pos (keywordEach kws X.env)).filterMap (·.1) = ks := by rfl) (hdb : (x == ("__debug__" : Str)) = false := by decide)
    (hpl : ((backTo pos (starEach [] X.env)).any (·.1) || (backToKw pos (keywordEach kws X.env)).any (·.1.isNone)) = false := by rfl) :
    PE X (.Call (.Name x p) [] kws pos) (tKw ks.length gV sp tk) := by
  obtain ⟨f, fd, g, F, m, kp, b⟩ := D.ex
  exact pe_kw (F.mono hk) hr hg m kp b hkw hall hks hdb hpl
/-- text * n -/
theorem op_mulS {X : Cx} : OpR X (binaryOp .Mult) (fun x y H Q => ∃ z n, x = .str z ∧ y = .int n ∧ MulOk z n ∧ Q (.str (Txt.mul z n)) H) := by
  intro pins s σ H x y v u Q I rx ry h
  obtain ⟨z, n, rfl, rfl, hc, q⟩ := h
  obtain ⟨t, rfl⟩ := rx
  obtain ⟨t', rfl⟩ := ry
  exact SB.mul hc fun t2 k => ⟨.str _, H, I.tok _, ⟨_, rfl⟩, q⟩
/-- data that may be shown -/
structure Fine (d : PyData) : Prop where
  a : d.showable = true
  b : d.hasDict = false
  c : d.depth ≤ 40
  e : d.shown.length ≤ sizeLine
theorem Fine.of {d : PyData} (B : Nat) (hB : 8 ≤ B) (hB2 : B ≤ 1000) (a : d.showable = true) (b : d.hasDict = false) (c : d.depth ≤ 40) (l : d.leavesShort B = true) (w : d.weight ≤ 10000) : Fine d :=
  ⟨a, b, c, by
    have h := PyData.shown_le B hB d l
    have h2 : (B + 2) * d.weight ≤ 1002 * 10000 := Nat.mul_le_mul (by omega) w
    have h3 : sizeLine = 16777216 := sizeLine_eq
    omega⟩
theorem call_reprF {X : Cx} {k : Nat} (hr : Room k X.A) (hg : X.A.guards = some []) : CallR X (.builtin "repr") (fun xs H Q => ∃ v d, xs = [v] ∧ Dp X.K H v d ∧ Fine d ∧ Q (.str d.shown) H) :=
  fun pins s σ H xs us Q I r ⟨v, d, h1, h2, h3, q⟩ => call_reprD hr hg pins s σ H xs us Q I r ⟨v, d, h1, h2, h3.a, h3.b, h3.c, h3.e, q⟩
theorem fine_ints {a b : Int} (ha : a.natAbs < 10 ^ 20) (hb : b.natAbs < 10 ^ 20) : Fine (.list [.int a, .int b]) := by
  have len : ∀ c : Int, c.natAbs < 10 ^ 20 → (PyData.shown (.int c)).length ≤ 21 := fun c hc => by
    have h := int_text_length_le10 (a := c) (k := 20) (by decide) hc
    show (Str.ofString (toString c)).length ≤ 21
    rw [PySem.ofString_length]
    exact h
  have la := len a ha
  have lb := len b hb
  have ga : a.natAbs.log2 < 1920 := PySem.Flt.log2_lt_of (by decide) (Nat.lt_of_lt_of_le ha (by decide))
  have gb : b.natAbs.log2 < 1920 := PySem.Flt.log2_lt_of (by decide) (Nat.lt_of_lt_of_le hb (by decide))
  refine Fine.of 21 (by decide) (by decide) ?_ rfl (by simp [PyData.depth, PyData.depthAll]) ?_ (by simp only [PyData.weight, PyData.weightAll]; split <;> split <;> omega)
  · simp only [PyData.showable, PyData.showableAll, ga, gb, decide_true, Bool.and_self]
  · simp only [PyData.leavesShort, PyData.leavesShortAll, la, lb, decide_true, Bool.and_self]
/-- a promise that does not speak of what is raised, as a value -/
theorem sqL_at {K : PySem.W.Frag} {H : Hp} {a : Addr} {xs : List V} (h : H a = some (.lst xs)) : SqL K H a xs := SqL.of h
end Gk
namespace Gk
open PySem PySem.Spec PyProof.Rows L2
/-- the caller shows nothing -/
theorem caller_guards : callerA.guards = some [] := rfl
/-- the law's call, its promise told where nothing is being shown -/
theorem callG {P : Program} {w : World} {K : PySem.W.Frag} {mg mb : Str → Option Value} {k : Nat} {fa a : Addr} {fd : FuncData} {x : Str} {sp : Sp} {s1 : Shared} {vs : List Value} {ns : List Int}
    (KX : K.In s1.heap) (n1 : s1.heap.Ns mainGlobals mg) (n2 : s1.heap.Ns builtinsNs mb) (n3 : ∀ x : Str, x ≠ "__name__" → mb x = bootBuiltins x) (lim : s1.heap.NoLimit) (gen : s1.gens = #[])
    (at_ : s1.heap.get? a = some { cls := .type "list", data := .seq vs.toArray }) (iss : IntsAre vs ns) (few : ns.length ≤ sizeLine) (room : Room k callerA)
    (F : ∀ base : Heap, K.In base → base.Ns mainGlobals mg → FnG P w K mg base k fa fd [x] sp) (binds : ∀ (s : Shared) (u : Value), BindsTo s fd ⟨[u], []⟩ [(x, u)])
    (want : ∀ H : Hp, Only H → SqL K H a (ns.map V.int) → sp [.ref a] H (fun v _ => v = .bl true) L2.E0) :
    codeAny (model P w) callerA (.call (.ref fa) ⟨[.ref a], []⟩) (fun r s' => r = .ok (.ret (.bool true)) ∧ OldK s1.heap s'.heap ∧ s'.os = s1.os ∧ AllBare s'.gens) s1 := by
  have rv := L2.vals_ints iss
  have go : ∀ H : Hp, Only H → SqL K H a (ns.map V.int) → HOk P w H s1.heap → (∀ b, H b ≠ none → b = a) → (H a ≠ none → K.lookup a = none) →
      codeAny (model P w) callerA (.call (.ref fa) ⟨[.ref a], []⟩) (fun r s' => r = .ok (.ret (.bool true)) ∧ OldK s1.heap s'.heap ∧ s'.os = s1.os ∧ AllBare s'.gens) s1 := by
    intro H only there held alone apart
    have isA : ∀ {b : Addr} {u : HO}, H b = some u → b = a := fun {b u} e => alone b (fun z => by rw [e] at z; cases z)
    have free : ∀ {b : Addr} {o : Obj} {es : Array DictEntry} {ep : Nat}, s1.heap.get? b = some o → o.data = .dict es ep → H b = none := by
      intro b o es ep e d
      cases q : H b with
      | none => rfl
      | some u =>
        obtain rfl := isA q
        rw [at_] at e
        cases e
        exact Data.noConfusion (show Data.seq vs.toArray _ = Data.dict es ep from d)
    have nsB : ∀ {b : Addr} {m : Str → Option Value}, s1.heap.Ns b m → (hidT s1.heap H).Ns b m := by
      intro b m h
      obtain ⟨o, es, ep, e, d, r⟩ := h
      exact ⟨o, es, ep, hidT_get e (free e d), d, r⟩
    have KB : K.In (hidT s1.heap H) := by
      intro b o e
      refine hidT_get (KX b o e) ?_
      cases q : H b with
      | none => rfl
      | some u =>
        obtain rfl := isA q
        have z := apart (fun z => by rw [q] at z; cases z)
        rw [z] at e
        cases e
    obtain ⟨mc, c1, c2⟩ := lim
    have en : Env0 P w K mg (hidT s1.heap H) callerA [] s1 H :=
      { frames := rfl, mod := ⟨KB, nsB n1, ⟨mb, nsB n2, n3⟩, ⟨mc, nsB c1, c2⟩⟩, bs := fun b o e => of_hidT e, bsz := Nat.le_of_eq (hidT_size _ _), funs := trivial,
        frf := fun b hb => (nomatch (show b ∈ ([] : List Addr) from hb)), hok := held, bare := .of_eq gen }
    refine codeAny_mono ((F _ KB (nsB n1)).go callerA [] s1 H ⟨[.ref a], []⟩ [.ref a] [.ref a] _ room caller_guards en (binds s1 (.ref a)) (.cons rfl .nil) (want H only there)) fun r s' res => ?_
    match r, res with
    | .error _, res => exact False.elim res
    | .ok .next, res => exact False.elim res
    | .ok .brk, res => exact False.elim res
    | .ok .cont, res => exact False.elim res
    | .ok (.ret u), res =>
      obtain ⟨v, H1, os, bare, un, held1, rel, qv⟩ := res
      have qv : v = .bl true := qv
      subst qv
      obtain rfl : u = Value.bool true := rel
      refine ⟨rfl, OldK.of_keep fun b o e => ?_, os, bare⟩
      cases q : H b with
      | none => exact un.keep b o e q (fun z => (nomatch (show b ∈ ([] : List Addr) from z))) (fun z => (nomatch z))
      | some u =>
        rcases only b with z | ⟨ob, xs, z⟩
        · rw [q] at z
          cases z
        · have f1 := (held b _ z).1
          have f2 := (held1 b _ (un.frzs b ob _ z)).1
          rw [e] at f1
          cases f1
          exact f2
  cases kl : K.lookup a with
  | some o =>
    have e := KX a o kl
    rw [at_] at e
    cases e
    exact go (fun _ => none) (fun _ => .inl rfl) (.inr ⟨_, vs.toArray, _, kl, rfl, rfl, rfl, by rw [List.size_toArray, iss.length]; exact few, by simpa using rv⟩) (fun b u z => (nomatch (show (none : Option HO) = some u from z))) (fun b z => absurd rfl z) (fun z => absurd rfl z)
  | none =>
    refine go (fun b => if b = a then some (.frz { cls := .type "list", data := .seq vs.toArray } (.lst (ns.map V.int))) else none) ?_ (.inl (.inr ⟨_, if_pos rfl⟩)) ?_ ?_ (fun _ => kl)
    · intro b
      by_cases h : b = a
      · exact .inr ⟨_, _, if_pos h⟩
      · exact .inl (if_neg h)
    · intro b u z
      by_cases h : b = a
      · obtain rfl := Option.some.inj ((if_pos h).symm.trans z)
        subst h
        exact ⟨at_, by rw [List.length_map]; exact few, vs, _, rv, at_⟩
      · exact (nomatch ((if_neg h).symm.trans z))
    · intro b z
      by_cases h : b = a
      · exact h
      · exact absurd (if_neg h) z

/-- the goal behind the head -/
theorem walkG {l : PySem.W.OpenLaw} {n k : Nat} {q : Program} {loose : List Str} {XP : (Str → Option Value) → Heap → Prop} {YP : World → Heap → Prop} {d : DefRec} {K : Params → PySem.W.Frag} {sp : World → Sp} {x : Str}
    (h1 : l.most = some n) (h2 : n ≤ sizeLine) (h3 : d.params.defaults = []) (h4 : Room k callerA) (h5 : ∀ (w : World) (h : Heap), YP w h → (K w.params).In h)
    (F : ∀ (w : World) (mg : Str → Option Value) (fa : Addr) (h : Heap), (K w.params).In h → h.Ns mainGlobals mg → mg d.name = some (.ref fa) →
      ∃ fd : FuncData, (∀ (s : Shared) (u : Value), BindsTo s fd ⟨[u], []⟩ [(x, u)]) ∧ ∀ base : Heap, (K w.params).In base → base.Ns mainGlobals mg → FnG l.prog w (K w.params) mg base k fa fd [x] (sp w))
    (h6 : ∀ (w : World) (H : Hp) (a : Addr) (ns : List Int), ns.length ≤ n → Only H → SqL (K w.params) H a (ns.map V.int) → sp w [.ref a] H (fun v _ => v = .bl true) L2.E0) :
    PySem.W.WalkO q loose XP YP l.row.toRowW d [] (fun f vs => PySem.call f vs) :=
  Att.attach_call h1 h3 fun w s0 s1 mg mb fa o pm cd doc a vs ns G Y ho hd hcd hmg obj iss len gen => by
    obtain ⟨fd, hb, hF⟩ := F w mg fa _ (h5 w _ Y) G.T.g hmg
    exact callG (h5 w _ Y) G.T.g G.T.b G.T.builtins G.T.nolimit gen obj iss (Nat.le_trans len h2) h4 hF hb (fun H hO hS => h6 w H a ns len hO hS)
end Gk
namespace Gk
open PySem PySem.Spec PyProof.Rows L2
theorem mul_same (l : Addr) (its : Array Value) (n : Nat) (dd : Option Addr) (sl : Array (Option Value)) (u : Tok) :
    Meets (Builtin.«tuple.__mul__» ⟨[.ref l, .int 1 u], []⟩) (fun _ R s => s.heap.get? l = some { cls := .type "tuple", dict := dd, data := .seq its n, slots := sl } ∧ R (.ok (.ret (.ref l))) s) :=
  .of_wp fun prog w A R s h => by
    obtain ⟨hp, g, d, tk, os⟩ := s
    obtain ⟨hl, h⟩ := h
    have f1 := AutoSeq1.idx_int
    have c0 : (decide ((1 : Int) < -(2 ^ 63)) || decide ((1 : Int) ≥ 2 ^ 63)) = false := by decide
    have c1 : (its.isEmpty || (1 : Int) == 1) = true := by simp
    wp_walk using wpAny_loadPart' hl
    repeat (first
      | (refine wpAny_ite_false (decide_eq_false (by rw [c0]; exact Bool.false_ne_true)) ?_; wp_walk using wpAny_loadPart' hl)
      | (refine wpAny_ite_true (decide_eq_true (by rw [c1])) ?_; wp_walk using wpAny_loadPart' hl))
    all_goals first | exact ⟨_, rfl, h⟩ | skip
theorem mul_none (l : Addr) (its : Array Value) (n : Nat) (dd : Option Addr) (sl : Array (Option Value)) (x : Int) (u : Tok) (hx : x ≤ 0) (hx2 : -(2 ^ 63) ≤ x) (hi : its.isEmpty = false) :
    Meets (Builtin.«tuple.__mul__» ⟨[.ref l, .int x u], []⟩) (fun _ R s => s.heap.get? l = some { cls := .type "tuple", dict := dd, data := .seq its n, slots := sl } ∧
      R (.ok (.ret (Value.ref s.heap.objs.size))) { s with heap := s.heap.push { cls := Value.type "tuple", data := Data.seq #[] }, toks := s.toks }) :=
  .of_wp fun prog w A R s h => by
    obtain ⟨hp, g, d, tk, os⟩ := s
    obtain ⟨hl, h⟩ := h
    have f1 := AutoSeq1.idx_int
    have c0 : (decide (x < -(2 ^ 63)) || decide (x ≥ 2 ^ 63)) = false := by
      rw [decide_eq_false (by omega), decide_eq_false (by omega)] <;> rfl
    have c1 : (its.isEmpty || x == 1) = false := by
      rw [hi, Bool.false_or]
      exact beq_eq_false_iff_ne.mpr (by omega)
    have c2 : (decide (x ≤ 0) || its.isEmpty) = true := by
      rw [decide_eq_true hx] <;> rfl
    wp_walk using wpAny_loadPart' hl
    repeat (first
      | (refine wpAny_ite_false (decide_eq_false (by rw [c0]; exact Bool.false_ne_true)) ?_; wp_walk using wpAny_loadPart' hl)
      | (refine wpAny_ite_false (decide_eq_false (by rw [c1]; exact Bool.false_ne_true)) ?_; wp_walk using wpAny_loadPart' hl)
      | (refine wpAny_ite_true (decide_eq_true (by rw [c2])) ?_; wp_walk using wpAny_loadPart' hl))
    all_goals first | exact ⟨_, rfl, h⟩ | skip
/-- t * k, whatever object it is -/
def rRepU (K : PySem.W.Frag) : R2 := fun x y H Q => ∃ l k xs, x = .ref l ∧ y = .int k ∧ SqT K H l xs ∧ xs ≠ [] ∧ 0 ≤ k ∧ k ≤ 1000 ∧ xs.length ≤ 1000 ∧
  ∀ p H', Same H H' → SqT K H' p (List.replicate k.toNat xs).flatten → Q (.ref p) H'
section
variable {X : Cx}
theorem op_repU : OpR X (binaryOp .Mult) (rRepU X.K) := by
  intro pins s σ H x y v u Q I rx ry h
  obtain ⟨l, k, xs, rfl, rfl, hT, hne, h0, h1, hz, q⟩ := h
  by_cases h2 : 2 ≤ k
  · exact op_repT pins s σ H _ _ v u Q I rx ry ⟨l, k, xs, rfl, rfl, hT, hne, h2, h1, hz, fun p np => q p _ (same_new np) (.inl (.inl upd_same))⟩
  · cases rx
    obtain ⟨t, rfl⟩ := ry
    obtain ⟨its, r, ⟨⟨cls, dd, data, sl⟩, ho, hc, n, hd⟩, hs⟩ := I.tuple hT
    simp only at hc hd
    subst hc hd
    have many : its.length = xs.length := r.length.symm
    have full : its.toArray.isEmpty = false := by
      cases its with
      | nil => exact absurd (List.eq_nil_of_length_eq_zero many.symm) hne
      | cons a b => rfl
    by_cases h3 : k = 1
    · subst h3
      refine wpAny_binaryOp_repeat_ref (T := "tuple") (U := "int") (by decide) ⟨_, ho, rfl⟩ (fun s' => typeIs_int s' 1 t) noFill_tuple_mul F.fills_int_mul F.slot_int_rmul repeat_tuple F.slot_int_index.lookup
        (call_meets F.slot_int_rmul (typeIs_int s 1 t) F.entry_int_rmul (F.args_int_rmul_2 _ _) (int_rmul_tuple 1 t l its.toArray n dd sl)
          ⟨ho, rfl, ⟨_, ho, rfl⟩, call_meets F.slot_tuple_mul ⟨_, ho, rfl⟩ F.entry_tuple_mul (F.args_tuple_mul_2 _ _) (mul_same l its.toArray n dd sl t) ⟨ho, ?_⟩⟩)
      refine ⟨.ref l, H, I, rfl, q l H (Same.refl H) ?_⟩
      show SqT X.K H l ([xs].flatten)
      rw [List.flatten_cons, List.flatten_nil, List.append_nil]
      exact hT
    · have h4 : k = 0 := by omega
      subst h4
      refine wpAny_binaryOp_repeat_ref (T := "tuple") (U := "int") (by decide) ⟨_, ho, rfl⟩ (fun s' => typeIs_int s' 0 t) noFill_tuple_mul F.fills_int_mul F.slot_int_rmul repeat_tuple F.slot_int_index.lookup
        (call_meets F.slot_int_rmul (typeIs_int s 0 t) F.entry_int_rmul (F.args_int_rmul_2 _ _) (int_rmul_tuple 0 t l its.toArray n dd sl)
          ⟨ho, rfl, ⟨_, ho, rfl⟩, call_meets F.slot_tuple_mul ⟨_, ho, rfl⟩ F.entry_tuple_mul (F.args_tuple_mul_2 _ _) (mul_none l its.toArray n dd sl 0 t (by decide) (by decide) full) ⟨ho, ?_⟩⟩)
      have nf : H s.heap.objs.size = none := I.hok.fresh (Nat.le_refl _)
      exact ⟨.ref s.heap.objs.size, upd H s.heap.objs.size (.tup []), I.laid (t' := s.toks) (fun b ob g => Heap.get?_push_of_some _ g) (Nat.le_refl _) ⟨Nat.zero_le _, [], .nil, IsTup.new _ _⟩, rfl, q _ _ (same_new nf) (.inl (.inl upd_same))⟩
/-- t + u, whatever object it is -/
def rCatU (K : PySem.W.Frag) : R2 := fun x y H Q => ∃ a b xs ys, x = .ref a ∧ y = .ref b ∧ SqT K H a xs ∧ SqT K H b ys ∧ xs.length + ys.length ≤ sizeLine ∧ ∀ p H', Same H H' → SqT K H' p (xs ++ ys) → Q (.ref p) H'
theorem op_catU : OpR X (binaryOp .Add) (rCatU X.K) := by
  intro pins s σ H x y v u Q I rx ry h
  obtain ⟨a, b, xs, ys, rfl, rfl, ha, hb, hz, q⟩ := h
  refine op_catA pins s σ H _ _ v u Q I rx ry ⟨a, b, xs, ys, rfl, rfl, ha, hb, hz, fun e => ?_, fun _ e => ?_, fun _ _ p np => q p _ (same_new np) (.inl (.inl upd_same))⟩
  · subst e
    exact q b H (Same.refl H) hb
  · subst e
    exact q a H (Same.refl H) (by rw [List.append_nil]; exact ha)
theorem cut_whole {xs : List V} {lo hi : Option Int} (h : HT.sIx xs.length 0 lo = 0 ∧ HT.sIx xs.length xs.length hi = xs.length) : cutV xs lo hi = xs := by
  unfold cutV
  rw [h.1, h.2]
  simp
/-- t[lo:hi], whatever object it is -/
def rSlU (K : PySem.W.Frag) : V → Option Int → Option Int → Hp → VK → Prop := fun x lo hi H Q => ∃ a xs, x = .ref a ∧ SqT K H a xs ∧ ∀ p H', Same H H' → SqT K H' p (cutV xs lo hi) → Q (.ref p) H'
theorem sl_tupU : SlR X (rSlU X.K) := by
  intro pins s σ H x v vl vu lo hi sl Q I rx hs pl pu h
  obtain ⟨a, xs, rfl, hx, q⟩ := h
  exact sl_tupA pins s σ H _ v vl vu lo hi sl Q I rx hs pl pu ⟨a, xs, rfl, hx, fun e => q a H (Same.refl H) (by rw [cut_whole e]; exact hx), fun _ p np => q p _ (same_new np) (.inl (.inl upd_same))⟩
end
theorem cut_to {xs : List V} (n : Nat) : cutV xs none (some (n : Int)) = xs.take n := by
  unfold cutV
  rw [HT.sIx_none, HT.sIx_nat]
  show ((xs.drop 0).take (min n xs.length - 0)) = _
  rw [List.drop_zero, Nat.sub_zero, Nat.min_comm, List.take_eq_take_iff]
  omega
theorem cut_from {xs : List V} (n : Nat) : cutV xs (some (n : Int)) none = xs.drop n := by
  unfold cutV
  rw [HT.sIx_none, HT.sIx_nat]
  by_cases h : n ≤ xs.length
  · rw [Nat.min_eq_left h, List.take_of_length_le (by rw [List.length_drop]; exact Nat.le_refl _)]
  · rw [Nat.min_eq_right (by omega), List.drop_eq_nil_of_le (Nat.le_refl _), List.drop_eq_nil_of_le (by omega)]
    exact List.take_nil
end Gk
namespace Gk
open PySem PySem.Spec PyProof.Rows L2
/-! ### data that is easily shown and compared -/
mutual
def tame : PyData → Bool
  | .none | .bool _ => true
  | .int i => decide (i.natAbs < 10 ^ 20)
  | .str x => x.cps.all (· < 0x110000)
  | .list xs | .tuple xs => tameAll xs
  | .dict _ => false
def tameAll : List PyData → Bool
  | [] => true
  | x :: xs => tame x && tameAll xs
end
mutual
def cost : PyData → Nat
  | .none | .bool _ | .int _ => 70
  | .str x => x.cps.size + 1
  | .list xs | .tuple xs => costAll xs
  | .dict _ => 0
def costAll : List PyData → Nat
  | [] => 1
  | x :: xs => cost x + 1 + costAll xs
end
theorem int_len20 {c : Int} (hc : c.natAbs < 10 ^ 20) : (PyData.shown (.int c)).length ≤ 21 := by
  have h := int_text_length_le10 (a := c) (k := 20) (by decide) hc
  show (Str.ofString (toString c)).length ≤ 21
  rw [PySem.ofString_length]
  exact h
theorem int_log20 {c : Int} (hc : c.natAbs < 10 ^ 20) : c.natAbs.log2 < 68 := PySem.Flt.log2_lt_of (by decide) (Nat.lt_of_lt_of_le hc (by decide))
mutual
theorem tame_showable : ∀ d : PyData, tame d = true → d.showable = true
  | .none, _ => rfl
  | .bool _, _ => rfl
  | .int i, h => by
    have h1 := int_log20 (of_decide_eq_true (by simpa only [tame] using h))
    simp only [PyData.showable]
    exact decide_eq_true (by omega)
  | .str _, _ => rfl
  | .list xs, h => by simpa only [PyData.showable] using tame_showableAll xs (by simpa only [tame] using h)
  | .tuple xs, h => by simpa only [PyData.showable] using tame_showableAll xs (by simpa only [tame] using h)
  | .dict _, h => by simp [tame] at h
theorem tame_showableAll : ∀ ds : List PyData, tameAll ds = true → PyData.showableAll ds = true
  | [], _ => rfl
  | x :: xs, h => by
    simp only [tameAll, Bool.and_eq_true] at h
    simp only [PyData.showableAll, tame_showable x h.1, tame_showableAll xs h.2, Bool.and_self]
end
mutual
theorem tame_nodict : ∀ d : PyData, tame d = true → d.hasDict = false
  | .none, _ => rfl
  | .bool _, _ => rfl
  | .int _, _ => rfl
  | .str _, _ => rfl
  | .list xs, h => by simpa only [PyData.hasDict] using tame_nodictAll xs (by simpa only [tame] using h)
  | .tuple xs, h => by simpa only [PyData.hasDict] using tame_nodictAll xs (by simpa only [tame] using h)
  | .dict _, h => by simp [tame] at h
theorem tame_nodictAll : ∀ ds : List PyData, tameAll ds = true → PyData.hasDictAll ds = false
  | [], _ => rfl
  | x :: xs, h => by
    simp only [tameAll, Bool.and_eq_true] at h
    simp only [PyData.hasDictAll, tame_nodict x h.1, tame_nodictAll xs h.2, Bool.or_self]
end
mutual
theorem tame_short : ∀ d : PyData, tame d = true → d.leavesShort 21 = true
  | .none, _ => rfl
  | .bool _, _ => rfl
  | .int i, h => by
    have h1 := int_len20 (of_decide_eq_true (by simpa only [tame] using h))
    simp only [PyData.leavesShort]
    exact decide_eq_true h1
  | .str x, h => by
    have h1 : x.cps.all (· < 0x110000) = true := by simpa only [tame] using h
    simp only [PyData.leavesShort, List.all_eq_true, decide_eq_true_eq]
    intro c hc
    rw [Array.all_eq_true_iff_forall_mem] at h1
    have h2 := h1 c (Array.mem_toList_iff.mp hc)
    have h3 : c < 0x110000 := by simpa using h2
    exact Nat.lt_of_lt_of_le h3 (by decide)
  | .list xs, h => by simpa only [PyData.leavesShort] using tame_shortAll xs (by simpa only [tame] using h)
  | .tuple xs, h => by simpa only [PyData.leavesShort] using tame_shortAll xs (by simpa only [tame] using h)
  | .dict _, h => by simp [tame] at h
theorem tame_shortAll : ∀ ds : List PyData, tameAll ds = true → PyData.leavesShortAll 21 ds = true
  | [], _ => rfl
  | x :: xs, h => by
    simp only [tameAll, Bool.and_eq_true] at h
    simp only [PyData.leavesShortAll, tame_short x h.1, tame_shortAll xs h.2, Bool.and_self]
end
mutual
theorem tame_weight : ∀ d : PyData, tame d = true → d.weight ≤ cost d
  | .none, _ => Nat.zero_le _
  | .bool _, _ => Nat.zero_le _
  | .int i, h => by
    have h1 := int_log20 (of_decide_eq_true (by simpa only [tame] using h))
    simp only [PyData.weight, cost]
    split <;> omega
  | .str x, h => by
    simp only [PyData.weight, cost]
    omega
  | .list xs, h => by simpa only [PyData.weight, cost] using tame_weightAll xs (by simpa only [tame] using h)
  | .tuple xs, h => by simpa only [PyData.weight, cost] using tame_weightAll xs (by simpa only [tame] using h)
  | .dict _, h => by simp [tame] at h
theorem tame_weightAll : ∀ ds : List PyData, tameAll ds = true → PyData.weightAll ds ≤ costAll ds
  | [], _ => Nat.zero_le _
  | x :: xs, h => by
    simp only [tameAll, Bool.and_eq_true] at h
    have h1 := tame_weight x h.1
    have h2 := tame_weightAll xs h.2
    simp only [PyData.weightAll, costAll]
    omega
end
mutual
theorem tame_lay : ∀ d : PyData, tame d = true → d.canLay0 = true
  | .none, _ => rfl
  | .bool _, _ => rfl
  | .int _, _ => rfl
  | .str x, h => by
    have h1 : x.cps.all (· < 0x110000) = true := by simpa only [tame] using h
    simpa only [PyData.canLay0, PyData.strOk] using h1
  | .list xs, h => by simpa only [PyData.canLay0] using tame_layAll xs (by simpa only [tame] using h)
  | .tuple xs, h => by simpa only [PyData.canLay0] using tame_layAll xs (by simpa only [tame] using h)
  | .dict _, h => by simp [tame] at h
theorem tame_layAll : ∀ ds : List PyData, tameAll ds = true → PyData.canLayAll0 ds = true
  | [], _ => rfl
  | x :: xs, h => by
    simp only [tameAll, Bool.and_eq_true] at h
    simp only [PyData.canLayAll0, tame_lay x h.1, tame_layAll xs h.2, Bool.and_self]
end
theorem Fine.tame {d : PyData} (h : Gk.tame d = true) (hd : d.depth ≤ 40) (hc : cost d ≤ 500000) : Fine d :=
  ⟨tame_showable d h, tame_nodict d h, hd, by
    have h1 := PyData.shown_le 21 (by decide) d (tame_short d h)
    have h2 := tame_weight d h
    have h3 : sizeLine = 16777216 := sizeLine_eq
    omega⟩
theorem tame_shaped {d : PyData} (h : tame d = true) (hd : d.depth ≤ 40) : SeqAt.shaped d = true := by
  unfold SeqAt.shaped
  rw [tame_lay d h, Bool.true_and]
  exact decide_eq_true (by omega)

/-! ### data of tuples stays while other things change -/
def Keep (K : PySem.W.Frag) (H H' : Hp) : Prop := ∀ a xs, SqT K H a xs → SqT K H' a xs
theorem Keep.refl {K : PySem.W.Frag} {H : Hp} : Keep K H H := fun _ _ h => h
theorem Keep.trans {K : PySem.W.Frag} {H H1 H2 : Hp} (a : Keep K H H1) (b : Keep K H1 H2) : Keep K H H2 := fun x xs h => b x xs (a x xs h)
theorem Same.keep {K : PySem.W.Frag} {H H' : Hp} (e : Same H H') : Keep K H H' := fun _ _ h => Same.seqT e h
theorem But.keep {K : PySem.W.Frag} {H H' : Hp} {b : Addr} {m : Nat} (e : But b H H') (hb : Box m H b) : Keep K H H' := by
  intro a xs h
  obtain ⟨x, y, z, g, _⟩ := hb
  rcases h with (h | ⟨o, h⟩) | h
  · exact .inl (.inl (e _ _ (ne_of h g (fun q => HO.noConfusion q)) h))
  · exact .inl (.inr ⟨o, e _ _ (ne_of h g (fun q => HO.noConfusion q)) h⟩)
  · exact .inr h
/-- all but the box, read: a list or a tuple that is not the box -/
theorem But.keepL {K : PySem.W.Frag} {H H' : Hp} {b a : Addr} {xs : List V} (e : But b H H') (n : a ≠ b) (h : SqL K H a xs) : SqL K H' a xs := e.seqL n h
mutual
def tups : PyData → Bool
  | .none | .bool _ | .int _ | .str _ => true
  | .tuple xs => tupsAll xs
  | .list _ | .dict _ => false
def tupsAll : List PyData → Bool
  | [] => true
  | x :: xs => tups x && tupsAll xs
end
mutual
theorem Dp.keep {K : PySem.W.Frag} {H H' : Hp} (k : Keep K H H') : ∀ (d : PyData) (v : V), tups d = true → Dp K H v d → Dp K H' v d
  | .none, _, _, h => by cases h; exact .non
  | .bool _, _, _, h => by cases h; exact .bl _
  | .int _, _, _, h => by cases h; exact .int _
  | .str _, _, _, h => by cases h; exact .str _
  | .tuple ds, _, t, h => by
    cases h with
    | tup h1 h2 => exact .tup (k _ _ h1) (DpAll.keep k ds _ (by simpa only [tups] using t) h2)
  | .list _, _, t, _ => by simp [tups] at t
  | .dict _, _, t, _ => by simp [tups] at t
theorem DpAll.keep {K : PySem.W.Frag} {H H' : Hp} (k : Keep K H H') : ∀ (ds : List PyData) (vs : List V), tupsAll ds = true → DpAll K H vs ds → DpAll K H' vs ds
  | [], _, _, h => by cases h; exact .nil
  | d :: ds, _, t, h => by
    simp only [tupsAll, Bool.and_eq_true] at t
    cases h with
    | cons h1 h2 => exact .cons (Dp.keep k d _ t.1 h1) (DpAll.keep k ds _ t.2 h2)
end
section
variable {K : PySem.W.Frag} {H : Hp}
theorem DpAll.len : ∀ {vs : List V} {ds : List PyData}, DpAll K H vs ds → vs.length = ds.length
  | _, _, .nil => rfl
  | _, _, .cons _ t => by rw [List.length_cons, List.length_cons, DpAll.len t]
theorem DpAll.take : ∀ {vs : List V} {ds : List PyData} (n : Nat), DpAll K H vs ds → DpAll K H (vs.take n) (ds.take n)
  | _, _, 0, _ => .nil
  | _, _, _ + 1, .nil => .nil
  | _, _, n + 1, .cons h t => .cons h (DpAll.take n t)
theorem DpAll.drop : ∀ {vs : List V} {ds : List PyData} (n : Nat), DpAll K H vs ds → DpAll K H (vs.drop n) (ds.drop n)
  | _, _, 0, h => h
  | _, _, _ + 1, .nil => .nil
  | _, _, n + 1, .cons _ t => DpAll.drop n t
theorem DpAll.app : ∀ {vs us : List V} {ds es : List PyData}, DpAll K H vs ds → DpAll K H us es → DpAll K H (vs ++ us) (ds ++ es)
  | _, _, _, _, .nil, h => h
  | _, _, _, _, .cons h t, h2 => .cons h (DpAll.app t h2)
theorem DpAll.rep {vs : List V} {ds : List PyData} (h : DpAll K H vs ds) : ∀ n : Nat, DpAll K H (List.replicate n vs).flatten (List.replicate n ds).flatten
  | 0 => .nil
  | n + 1 => by
    rw [List.replicate_succ, List.replicate_succ, List.flatten_cons, List.flatten_cons]
    exact DpAll.app h (DpAll.rep h n)
theorem DpAll.at : ∀ {vs : List V} {ds : List PyData} {i : Nat} {v : V} {d : PyData}, DpAll K H vs ds → vs[i]? = some v → ds[i]? = some d → Dp K H v d
  | _, _, _, _, _, .nil, h, _ => by simp at h
  | _, _, 0, _, _, .cons h _, e1, e2 => by
    obtain rfl := Option.some.inj e1
    obtain rfl := Option.some.inj e2
    exact h
  | _, _, i + 1, _, _, .cons _ t, e1, e2 => DpAll.at (i := i) t (by simpa using e1) (by simpa using e2)
theorem DpAll.ints : ∀ l : List Int, DpAll K H (l.map V.int) (l.map PyData.int)
  | [] => .nil
  | i :: l => .cons (.int i) (DpAll.ints l)
end
end Gk
namespace Pf
open PySem PySem.Spec PyProof.Rows L2 Gk
def topS (i : Nat) : Stmt := PySem.Challenge.pw_pastenough_k81_whole_rounds_and_sums.main.body.getD i (.Pass ⟨0, 0, 0, 0⟩)
abbrev sTake : Stmt := topS 24
abbrev sOf : Stmt := topS 25
abbrev sBox : Stmt := topS 23
theorem scOf : FnScope ["_law_box_here", "_law_some"] ["_law_box_here", "_law_some"] (defScope sOf) := ⟨rfl, rfl, rfl, by decide +kernel, rfl, by decide +kernel, by decide +kernel⟩
theorem scBox : FnScope ["_law_script", "_law_k", "_law_digits", "_law_own"] ["_law_script", "_law_k"] (defScope sBox) := ⟨rfl, rfl, rfl, by decide +kernel, rfl, by decide +kernel, by decide +kernel⟩
theorem scTake : FnScope ["_law_box_here", "_law_many", "_law_digit", "_law_drawn"] ["_law_box_here", "_law_many"] (defScope sTake) := ⟨rfl, rfl, rfl, by decide +kernel, rfl, by decide +kernel, by decide +kernel⟩
def spTake : Sp := fun vs H Q _ => ∃ (b : Addr) (n : Int) (m : Nat), vs = [.ref b, .int n] ∧ 0 < n ∧ n < 18446744073709551616 ∧ Box m H b ∧ m < 1000000000 ∧
  ∀ (d : Int) (H' : Hp), 0 ≤ d → d < n → But b H H' → Box (m + 1) H' b → (∀ p, p ≠ b → H' p = H p) → Q (.int d) H'

section
variable {P : Program} {w : World} {K : PySem.W.Frag} {mg : Str → Option Value} {base : Heap}
theorem ok_take {f : Addr} {fd : FuncData} {k : Nat} (F : L2.Fun K "_law_take" "_law_take" sTake f fd) : FnOk P w K mg base L2.CX0 (k + 1) f fd ["_law_box_here", "_law_many"] spTake := by
  refine F.ok scTake (fun vs H Q E h => ?_) (fun cdv A outer s H vs Q E hr h => ?_)
  · obtain ⟨b, n, m, rfl, _⟩ := h
    rfl
  · obtain ⟨b, n, m, rfl, n0, n1, ⟨x, y, z, hb, z0, z1⟩, hm, q⟩ := h
    refine ⟨_, pss_cons (ps_if (pt_cmpR op_gt (pe_ix ix_list (pv 0) pe_int (fun _ _ => rfl)) pe_int (nomark _))
        (pss_cons (ps_set (i := 2) scTake.nd rfl (.inl rfl) (pe_op op_mod (pe_ix ix_list (pv 0) pe_int (fun _ _ => rfl)) (pv 1)))
        (pss_cons (ps_asg (pe_op op_fdiv64 (pe_ix ix_list (pv 0) pe_int (fun _ _ => rfl)) (pv 1)) (pg_sub (pv 0) pe_int set_list))
        (pss_one (ps_ret (pv 2))))) pss_nil)
      (pss_cons (ps_asg (pe_op op_add (pe_ix ix_list (pv 0) pe_int (fun _ _ => rfl)) pe_int) (pg_sub (pv 0) pe_int set_list))
      (pss_cons (ps_set (i := 3) scTake.nd rfl (.inl rfl) (pe_op op_mod (pe_op op_mul (pe_op op_add (pe_op op_add (pe_ix ix_list (pv 0) pe_int (fun _ _ => rfl))
          (pe_op op_mul (pe_op op_mul pe_int (pe_ix ix_list (pv 0) pe_int (fun _ _ => rfl))) (pe_ix ix_list (pv 0) pe_int (fun _ _ => rfl)))) pe_int) pe_int) pe_int))
      (pss_cons (ps_set (i := 3) scTake.nd rfl (.inl rfl) (pe_op op_mod (pe_op op_mul (pv 3) (pe_op op_add (pe_op op_mod (pv 3) pe_int) (pe_op op_mul pe_int (pe_ix ix_list (pv 0) pe_int (fun _ _ => rfl))))) pe_int))
      (pss_one (ps_ret (pe_op op_mod (pe_op op_add (pe_op op_fdiv (pv 3) pe_int) (pe_op op_fdiv (pv 3) pe_int)) (pv 1))))))), ?_⟩
    refine ⟨.ref b, rfl, b, _, 0, .int x, rfl, rfl, SqL.of hb, rfl, x, 0, rfl, rfl, _, rfl, ite2 (fun e => ?_) (fun e => ?_)⟩
    · refine ⟨.ref b, rfl, b, _, 0, .int x, rfl, rfl, SqL.of hb, rfl, .int n, rfl, x, n, rfl, rfl, n0, ?_⟩
      refine ⟨.ref b, rfl, b, _, 0, .int x, rfl, rfl, SqL.of hb, rfl, .int n, rfl, x, n, rfl, rfl, ⟨n0, n1⟩, ?_⟩
      refine ⟨.ref b, rfl, b, _, _, 0, rfl, rfl, hb, rfl, ?_⟩
      refine ⟨.int (x % n), rfl, q _ _ (Int.emod_nonneg _ (by omega)) (Int.emod_lt_of_pos _ n0) But.set ⟨_, _, _, upd_same, z0, by omega⟩ fun p hp => upd_ne hp⟩
    · have hz : (z + 1 : Int) < 2 ^ 64 := by omega
      refine ⟨.ref b, rfl, b, _, 2, .int z, rfl, rfl, SqL.of hb, rfl, z, 1, rfl, rfl, ?_⟩
      refine ⟨.ref b, rfl, b, _, _, 2, rfl, rfl, hb, rfl, ?_⟩
      have h1 : upd H b (.lst [.int x, .int y, .int (z + 1)]) b = some (.lst [.int x, .int y, .int (z + 1)]) := upd_same
      refine ⟨.ref b, rfl, b, _, 1, .int y, rfl, rfl, SqL.of h1, rfl, .ref b, rfl, b, _, 2, .int (z + 1), rfl, rfl, SqL.of h1, rfl, _, _, rfl, rfl, .inl ⟨by decide, by decide⟩,
        .ref b, rfl, b, _, 2, .int (z + 1), rfl, rfl, SqL.of h1, rfl, _, _, rfl, rfl, .inr ⟨by omega, hz⟩, _, _, rfl, rfl, _, _, rfl, rfl, _, _, rfl, rfl, .inr ⟨by decide, by decide⟩, _, _, rfl, rfl, by show (0 : Int) < 2305843009213693921; decide, ?_⟩
      refine ⟨_, rfl, _, rfl, _, _, rfl, rfl, by show (0 : Int) < 1000033; decide, .ref b, rfl, b, _, 2, .int (z + 1), rfl, rfl, SqL.of h1, rfl, _, _, rfl, rfl, .inl ⟨by decide, by decide⟩, _, _, rfl, rfl, _, _, rfl, rfl,
        .inl ⟨Int.lt_of_lt_of_le (by decide) (Int.emod_nonneg _ (by decide)), Int.lt_trans (Int.emod_lt_of_pos _ (by decide)) (by decide)⟩, _, _, rfl, rfl, by show (0 : Int) < 2305843009213693907; decide, ?_⟩
      refine ⟨_, rfl, _, _, rfl, rfl, ⟨by decide, by decide⟩, _, rfl, _, _, rfl, rfl, ⟨by decide, by decide⟩, _, _, rfl, rfl, .int n, rfl, _, n, rfl, rfl, n0, ?_⟩
      exact q _ _ (Int.emod_nonneg _ (by omega)) (Int.emod_lt_of_pos _ n0) But.set ⟨_, _, _, h1, by omega, by omega⟩ fun p hp => upd_ne hp
def spOf (K : PySem.W.Frag) : Sp := fun vs H Q _ => ∃ (b a : Addr) (xs : List V) (m : Nat), vs = [.ref b, .ref a] ∧ SqL K H a xs ∧ a ≠ b ∧ 0 < xs.length ∧ xs.length ≤ 1000 ∧ Box m H b ∧ m < 1000000000 ∧
  ∀ (i : Nat) (v : V) (H' : Hp), xs[i]? = some v → But b H H' → Box (m + 1) H' b → (∀ p, p ≠ b → H' p = H p) → Q v H'
theorem ok_of {f : Addr} {fd : FuncData} {k : Nat} (D : Dfn P w K mg base k "_law_take" ["_law_box_here", "_law_many"] spTake) (ml : mg "len" = none)
    (F : L2.Fun K "_law_of" "_law_of" sOf f fd) : FnOk P w K mg base L2.CX0 (k + 1) f fd ["_law_box_here", "_law_some"] (spOf K) := by
  refine F.ok scOf (fun vs H Q E h => ?_) (fun cdv A outer s H vs Q E hr h => ?_)
  · obtain ⟨b, a, xs, m, rfl, _⟩ := h
    rfl
  · obtain ⟨b, a, xs, m, rfl, hS, hne, hl, hl2, hb, hm, q⟩ := h
    refine ⟨_, pss_one (ps_ret (pe_ix ix_list (pv 1) (pe_d D hr (Nat.le_refl _) (by rfl) (pa_cons (pv 0) (pa_cons (pe_callB call_len_seq (by rfl) ml PySem.boot_len (pa_cons (pv 1) pa_nil)) pa_nil))) (fun _ _ => rfl))), ?_⟩
    refine ⟨.ref a, rfl, .ref b, rfl, .ref a, rfl, a, xs, rfl, .inl hS, b, _, m, rfl, by omega, by omega, hb, hm, fun d H' d0 d1 bt bx same => ?_⟩
    have hi : d.toNat < xs.length := by omega
    have g : xs[d.toNat]? = some xs[d.toNat] := List.getElem?_eq_getElem hi
    have ga : atI xs d = some xs[d.toNat] := by
      have := atI_nat g
      rwa [Int.toNat_of_nonneg d0] at this
    exact ⟨a, xs, d, _, rfl, rfl, bt.seqL hne hS, ga, q _ _ H' g bt bx same⟩
def spBox (K : PySem.W.Frag) : Sp := fun vs H Q _ => ∃ (a : Addr) (ns : List Int) (k : Int), vs = [.ref a, .int k] ∧ SqL K H a (ns.map V.int) ∧ ns.length ≤ 63 ∧ 0 ≤ k ∧ k ≤ 1000 ∧
  ∀ p x y, H p = none → Q (.ref p) (upd H p (.lst [.int x, .int y, .int 0]))
theorem flag_small (c : Bool) : -(2 ^ 64) < (if c = true then (1 : Int) else 0) ∧ (if c = true then (1 : Int) else 0) < 2 ^ 64 := by cases c <;> decide
theorem bits60 : CBigPow 10 60 := ⟨by decide, by decide +kernel⟩
theorem bits300 : CBigPow (10 ^ (60 : Int).toNat) 5 := ⟨by decide, by decide +kernel⟩
theorem ok_box {f : Addr} {fd : FuncData} (ml : mg "len" = none) (ma : mg "abs" = none) (mi : mg "int" = none)
    (F : L2.Fun K "_law_box" "_law_box" sBox f fd) : FnOk P w K mg base L2.CX0 1 f fd ["_law_script", "_law_k"] (spBox K) := by
  refine F.ok scBox (fun vs H Q E h => ?_) (fun cdv A outer s H vs Q E hr h => ?_)
  · obtain ⟨a, ns, k, rfl, _⟩ := h
    rfl
  · obtain ⟨a, ns, k, rfl, hS, hl, k0, k1, q⟩ := h
    refine ⟨_, C8.pss_cut (ps_set (i := 2) scBox.nd rfl (.inl rfl) (pe_ifExp (pt_cmpR op_lt (pv 1) (pe_callB call_len_seq (by rfl) ml PySem.boot_len (pa_cons (pv 0) pa_nil)) (nomark _))
        (pe_ix ix_list (pv 0) (pv 1) (fun _ _ => rfl)) (pe_op op_add (pe_op op_mul pe_int (pv 1)) pe_int)))
      (pss_cons (ps_set (i := 3) scBox.nd rfl (.inl rfl) (pe_op op_mul (pe_op op_mod (pe_callB call_abs (by rfl) ma (by decide +kernel) (pa_cons (pv 2) pa_nil)) (pe_op op_bigpow (pe_op op_bigpow pe_int pe_int) pe_int))
          (pe_callTy call_int1 (by rfl) mi (by decide +kernel) (pa_cons (pe_cmpR op_ge (pe_callB call_abs (by rfl) ma (by decide +kernel) (pa_cons (pv 2) pa_nil)) (pe_op op_bigpow pe_int pe_int) (nomark _)) pa_nil))))
      (pss_one (ps_ret (pe_lst (pa_cons (pv 3) (pa_cons (pe_op op_mod (pe_op op_add (pe_op op_add (pe_op op_mul (pe_op op_mod (pv 2) pe_int) pe_int) (pe_op op_mul (pe_op op_mul pe_int (pv 1)) (pv 1))) pe_int) pe_int) (pa_cons pe_int pa_nil))))))), ?_⟩
    refine ⟨fun σ H' => H' = H ∧ ∃ d : Int, σ = [some (.ref a), some (.int k), some (.int d), none], ?_, fun σ' H' hM => ?_⟩
    · refine ⟨.int k, rfl, .ref a, rfl, a, _, rfl, .inl hS, _, _, rfl, rfl, _, rfl, ite2 (fun e => ?_) (fun e => ?_)⟩
      · have hk : k < (ns.map V.int).length := of_decide_eq_true e
        rw [List.length_map] at hk
        have g : (ns.map V.int)[k.toNat]? = some (.int ns[k.toNat]) := by
          rw [List.getElem?_map, List.getElem?_eq_getElem (by omega)]; rfl
        have ga := atI_nat g
        rw [Int.toNat_of_nonneg k0] at ga
        exact ⟨.ref a, rfl, .int k, rfl, a, _, k, _, rfl, rfl, hS, ga, rfl, _, rfl⟩
      · exact ⟨.int k, rfl, _, _, rfl, rfl, .inl ⟨by decide, by decide⟩, _, _, rfl, rfl, rfl, _, rfl⟩
    · obtain ⟨rfl, d, rfl⟩ := hM
      refine ⟨.int d, rfl, d, rfl, _, _, rfl, rfl, bits60, _, _, rfl, rfl, bits300, _, _, rfl, rfl, by show (0 : Int) < (10 ^ (60 : Int).toNat) ^ (5 : Int).toNat; decide +kernel, ?_⟩
      refine ⟨.int d, rfl, d, rfl, _, _, rfl, rfl, ⟨by decide, by decide +kernel⟩, _, _, rfl, rfl, .inr ⟨_, rfl, _, _, rfl, rfl, .inr ?_, ?_⟩⟩
      · exact flag_small _
      · refine ⟨_, rfl, .int d, rfl, _, _, rfl, rfl, by show (0 : Int) < 2305843009213693951; decide, _, _, rfl, rfl, .inr ⟨by decide, by decide⟩, .int k, rfl, _, _, rfl, rfl, .inl ⟨by decide, by decide⟩, .int k, rfl, _, _, rfl, rfl, .inr ⟨by omega, by omega⟩,
          _, _, rfl, rfl, _, _, rfl, rfl, _, _, rfl, rfl, by show (0 : Int) < 2305843009213693921; decide, by show 3 ≤ sizeLine; decide, fun p hp => q p _ _ hp⟩
end
end Pf
namespace Pf
open PySem PySem.Spec PyProof.Rows L2 Gk
abbrev sRow : Stmt := topS 26
abbrev nRow : List Str := ["_law_box_here", "_law_most", "_law_size", "_law_kind", "_law_piece", "_law_found", "_law_is_kept", "_law_turn"]
theorem scRow : FnScope nRow ["_law_box_here", "_law_most"] (defScope sRow) := ⟨rfl, rfl, rfl, by decide +kernel, rfl, by decide +kernel, by decide +kernel⟩
/-- outcomes -/
def Bits (l : List Int) : Prop := ∀ o ∈ l, o = 0 ∨ o = 1
theorem Bits.nil : Bits [] := fun _ h => (nomatch h)
theorem Bits.snoc {l : List Int} {o : Int} (h : Bits l) (h0 : 0 ≤ o) (h1 : o < 2) : Bits (l ++ [o]) := fun x hx => by
  rcases List.mem_append.mp hx with g | g
  · exact h x g
  · rw [List.mem_singleton.mp g]
    omega
theorem Bits.rep {l : List Int} (h : Bits l) (n : Nat) : Bits (List.replicate n l).flatten := fun x hx => by
  obtain ⟨m, hm, hx⟩ := List.mem_flatten.mp hx
  rw [(List.mem_replicate.mp hm).2] at hx
  exact h x hx
theorem Bits.take {l : List Int} (h : Bits l) (n : Nat) : Bits (l.take n) := fun x hx => h x (List.mem_of_mem_take hx)
theorem rep_map (n : Nat) (l : List Int) : (List.replicate n (l.map V.int)).flatten = ((List.replicate n l).flatten).map V.int := by
  induction n with
  | zero => rfl
  | succ n ih => rw [List.replicate_succ, List.replicate_succ, List.flatten_cons, List.flatten_cons, List.map_append, ih]
theorem rep_len (n : Nat) (l : List Int) : ((List.replicate n l).flatten).length = n * l.length := by
  induction n with
  | zero => simp
  | succ n ih => rw [List.replicate_succ, List.flatten_cons, List.length_append, ih, Nat.succ_mul, Nat.add_comm]
theorem last_some {l : List Int} (h : 0 < l.length) : ∃ o, o ∈ l ∧ atI (l.map V.int) (-1) = some (V.int o) := by
  have e : l ≠ [] := fun z => by rw [z] at h; exact absurd h (Nat.lt_irrefl 0)
  refine ⟨l.getLast e, List.getLast_mem e, ?_⟩
  have g : l.map V.int = (l.dropLast.map V.int) ++ [V.int (l.getLast e)] := by
    rw [← List.map_singleton, ← List.map_append, List.dropLast_concat_getLast]
  rw [g]
  exact atI_last _ _
theorem but_local {b D : Addr} {H H1 H2 : Hp} (nD : H D = none) (h : But b H H1) (g : ∀ a o, a ≠ b → a ≠ D → H1 a = some o → H2 a = some o) : But b H H2 := fun a o n e => g a o n (fun z => by rw [z, nD] at e; cases e) (h a o n e)
section
variable {P : Program} {w : World} {K : PySem.W.Frag} {mg : Str → Option Value} {base : Heap}
def spRow (K : PySem.W.Frag) : Sp := fun vs H Q _ => ∃ (b : Addr) (most : Int) (m : Nat), vs = [.ref b, .int most] ∧ 1 ≤ most ∧ most ≤ 64 ∧ Box m H b ∧ m ≤ 1000000 ∧
  ∀ H' p l, But b H H' → Box (m + 150) H' b → SqT K H' p (l.map V.int) → 1 ≤ l.length → (l.length : Int) ≤ most → Bits l → Q (.ref p) H'
theorem ok_row {f : Addr} {fd : FuncData} (DT : Dfn P w K mg base 1 "_law_take" ["_law_box_here", "_law_many"] spTake) (mr : mg "range" = none) (mn : mg "min" = none) (mt : mg "tuple" = none) (ml : mg "len" = none)
    (F : L2.Fun K "_law_row" "_law_row" sRow f fd) : FnOk P w K mg base L2.CX0 2 f fd ["_law_box_here", "_law_most"] (spRow K) := by
  refine F.ok scRow (fun vs H Q E h => ?_) (fun cdv A outer s H vs Q E hr h => ?_)
  · obtain ⟨b, most, m, rfl, _⟩ := h
    rfl
  · obtain ⟨b, most, m, rfl, m1, m2, hb, hm, q⟩ := h
    refine ⟨_, C8.pss_cut (ps_par (i := 2) (j := 3) (by rfl) scRow.nd rfl rfl (by decide) rfl rfl (pa_cons (pe_op op_add pe_int (pe_d DT hr (by decide) (by rfl) (pa_cons (pv 0) (pa_cons (pv 1) pa_nil)))) (pa_cons (pe_d DT hr (by decide) (by rfl) (pa_cons (pv 0) (pa_cons pe_int pa_nil))) pa_nil)) (by rfl))
      (pss_cons (ps_if (pt_cmpR op_eq (pv 3) pe_int (nomark _))
        (pss_one (ps_ret (pe_op op_catU (pe_op op_repU (pe_tup (pa_cons pe_int pa_nil)) (pe_op op_sub (pv 2) pe_int)) (pe_tup (pa_cons pe_int pa_nil))))) pss_nil)
      (pss_cons (ps_if (pt_cmpR op_eq (pv 3) pe_int (nomark _))
        (pss_cons (ps_setLc (i := 4) (own := [("_law_turn", 7)]) (g := gName 7) (by rfl) scRow.nd rfl rfl (sw_true rfl rfl rfl (by decide +kernel)) (pi_range1 rfl mr (pa_cons (pe_op op_add pe_int (pe_d DT hr (by decide) (by rfl) (pa_cons (pv 0) (pa_cons (pe_callB (call_min2 rfl) (by rfl) mn (by decide +kernel) (pa_cons (pv 2) (pa_cons pe_int pa_nil))) pa_nil)))) pa_nil))
            (blkOk_by (N := nRow) (sc := defScope sRow) (by decide +kernel)) (fun _ _ _ _ _ => pg_name (i := 7) scRow.nd rfl (.inl rfl)) (fun _ _ _ _ _ => pts_nil)
            (fun _ _ _ _ _ => pe_d DT hr (by decide) (by rfl) (pa_cons (pv 0) (pa_cons pe_int pa_nil))))
        (pss_one (ps_ret (pe_callTy call_tuple_of (by rfl) mt (by decide +kernel) (pa_cons (pe_slice sl_list (pe_op op_rep (pv 4) (pv 2)) po_none (po_some (pv 2))) pa_nil))))) pss_nil)
      (pss_cons (ps_set (i := 5) scRow.nd rfl (.inl rfl) (pe_lst (pa_cons (pe_d DT hr (by decide) (by rfl) (pa_cons (pv 0) (pa_cons pe_int pa_nil))) pa_nil)))
      (pss_cons (ps_while PassesOwn.never (pt_cmpR op_lt (pe_callB call_len_seq (by rfl) ml PySem.boot_len (pa_cons (pv 5) pa_nil)) (pv 2) (nomark _))
        (pss_cons (ps_set (i := 6) scRow.nd rfl (.inl rfl) (pe_mid (pe_and (pe_cmpR op_eq (pv 3) pe_int (nomark _)) (pe_one (pe_cmpR op_gt (pe_d DT hr (by decide) (by rfl) (pa_cons (pv 0) (pa_cons pe_int pa_nil))) pe_int (nomark _))))))
        (pss_one (ps_expr (pe_bm PySem.F.plainAttrs_list PySem.F.slot_list_append PySem.F.type_list_append mt_append (pv 5) (pa_cons (pe_mid (pe_ifExp (pt_val (pv 6)) (pe_ix ix_list (pv 5) (pe_un un_neg pe_int) (fun _ _ => rfl))
            (pe_d DT hr (by decide) (by rfl) (pa_cons (pv 0) (pa_cons pe_int pa_nil))))) pa_nil))))))
      (pss_one (ps_ret (pe_callTy call_tuple_of (by rfl) mt (by decide +kernel) (pa_cons (pv 5) pa_nil)))))))), ?_⟩
    refine ⟨fun σ H2 => ∃ z k : Int, σ = [some (.ref b), some (.int most), some (.int z), some (.int k), none, none, none, none] ∧ 1 ≤ z ∧ z ≤ most ∧ 0 ≤ k ∧ k < 5 ∧ But b H H2 ∧ Box (m + 1 + 1) H2 b, ?_, fun σ' H2 hM => ?_⟩
    · exact ⟨.ref b, rfl, .int most, rfl, b, most, m, rfl, by omega, by omega, hb, by omega, fun d H1 d0 d1 bt1 bx1 sm1 => ⟨_, _, rfl, rfl, .ref b, rfl, b, 5, m + 1, rfl, by decide, by decide, bx1, by omega,
        fun k H2 k0 k1 bt2 bx2 sm2 => ⟨_, _, rfl, 1 + d, k, rfl, by omega, by omega, k0, k1, bt1.trans bt2, bx2⟩⟩⟩
    obtain ⟨z, k, rfl, size1, size2, k0, k1, bt, bx2⟩ := hM
    refine ⟨.int k, rfl, rfl, _, rfl, ite2 (fun e => ?_) (fun e => ?_)⟩
    · refine ⟨by show 1 ≤ sizeLine; decide, fun p np => ⟨.int z, rfl, z, 1, rfl, rfl, p, z - 1, [.int 1], rfl, rfl, .inl (.inl upd_same), List.cons_ne_nil _ _, by omega, by omega, by show 1 ≤ 1000; decide, fun p2 H3 s3 t3 => ⟨by show 1 ≤ sizeLine; decide, fun p4 np4 => ?_⟩⟩⟩
      refine ⟨p2, p4, _, [.int 0], rfl, rfl, Same.seqT (same_new np4) t3, .inl (.inl upd_same), ?_, fun p5 H5 s5 t5 => ?_⟩
      · show ((List.replicate (z - 1).toNat [V.int 1]).flatten).length + 1 ≤ sizeLine
        rw [show [V.int 1] = [(1 : Int)].map V.int from rfl, rep_map, List.length_map, rep_len]
        show (z - 1).toNat * 1 + 1 ≤ sizeLine
        exact Nat.le_trans (show _ ≤ 100 by omega) (by decide)
      · rw [show [V.int 1] = [(1 : Int)].map V.int from rfl, rep_map, show [V.int 0] = [(0 : Int)].map V.int from rfl, ← List.map_append] at t5
        refine q H5 p5 _ (((bt.trans (But.new np)).trans (But.of_same s3)).trans ((But.new np4).trans (But.of_same s5))) ?_ t5 ?_ ?_ ?_
        · exact (((((bx2.same (same_new np)).same s3).same (same_new np4)).same s5)).up (by omega)
        · rw [List.length_append]
          exact Nat.le_add_left _ _
        · rw [List.length_append, rep_len]
          show (((z - 1).toNat * 1 + 1 : Nat) : Int) ≤ most
          omega
        · exact Bits.snoc (Bits.rep (fun o ho => by rw [List.mem_singleton.mp ho]; exact .inr rfl) _) (by decide) (by decide)
    · refine ⟨.int k, rfl, rfl, _, rfl, ite2 (fun e1 => ?_) (fun e1 => ?_)⟩
      · refine ⟨.ref b, rfl, .int z, rfl, z, 4, rfl, b, _, m + 2, rfl, by split <;> omega, by split <;> omega, bx2, by omega, fun d3 H3 g0 g1 bt3 bx3 sm3 => ?_⟩
        have d34 : d3 < 4 := by
          have : (if (4 : Int) < z then (4 : Int) else z) ≤ 4 := by split <;> omega
          omega
        refine ⟨_, _, rfl, rfl, 1 + d3, rfl, by omega, by omega, fun D nD => lc_range (lo := 0) (n := (1 + d3).toNat)
          (fun i H' => But b H3 H' ∧ Box (m + 3 + i) H' b ∧ ∃ l : List Int, l.length = i ∧ H' D = some (.lst (l.map V.int)) ∧ Bits l) ⟨But.new nD, bx3.same (same_new nD), [], rfl, upd_same, Bits.nil⟩ (fun i H4 hi hp => ?_) (fun H4 hp => ?_)⟩
        · obtain ⟨bt4, bx4, l, hl, hD, hB⟩ := hp
          have nDb : D ≠ b := (bx3.ne nD).symm
          refine ⟨rfl, .ref b, rfl, b, 2, _, rfl, by decide, by decide, bx4, by omega, fun d5 H5 e0 e2 bt5 bx5 sm5 => ⟨l.map V.int, (sm5 D nDb).trans hD, ?_, ?_, ?_, l ++ [d5], ?_, ?_, Bits.snoc hB e0 e2⟩⟩
          · rw [List.length_map, hl]
            exact small1000 (by omega)
          · refine but_local nD (bt4.trans bt5) fun a o n1 n2 h => ?_
            rw [upd_ne n2]
            exact h
          · obtain ⟨x1, x2, x3, g1, g2⟩ := bx5
            exact ⟨x1, x2, x3, by rw [upd_ne nDb.symm]; exact g1, g2.1, by have := g2.2; omega⟩
          · rw [List.length_append, hl]
            rfl
          · rw [upd_same, List.map_append]
            rfl
        · obtain ⟨bt4, bx4, l, hl, hD, hB⟩ := hp
          have hz : l.length ≤ 4 := by omega
          have hz1 : 1 ≤ l.length := by omega
          have hlen : (List.replicate z.toNat l).flatten.length = z.toNat * l.length := rep_len _ _
          have hmul : z.toNat ≤ z.toNat * l.length := Nat.le_mul_of_pos_right _ hz1
          have hmul2 : z.toNat * l.length ≤ 64 * 4 := Nat.mul_le_mul (by omega) hz
          refine ⟨.ref D, rfl, .int z, rfl, D, z, l.map V.int, rfl, rfl, hD, by omega, by omega, ?_, fun p np => ?_⟩
          · rw [List.length_map]
            exact Nat.le_trans (show _ ≤ 256 by rw [Nat.mul_comm]; exact hmul2) (by decide)
          · refine ⟨.int z, rfl, z, rfl, p, _, rfl, .inl (.inl upd_same), fun p2 np2 => ?_⟩
            refine ⟨p2, _, rfl, .inl ⟨.inl (.inl upd_same), fun p3 np3 => ?_⟩⟩
            have ec : cutV (List.replicate z.toNat (l.map V.int)).flatten none (some z) = (((List.replicate z.toNat l).flatten).take z.toNat).map V.int := by
              have := cut_to (xs := (List.replicate z.toNat (l.map V.int)).flatten) z.toNat
              rw [Int.toNat_of_nonneg (by omega)] at this
              rw [this, rep_map, List.map_take]
            have lt : (((List.replicate z.toNat l).flatten).take z.toNat).length = z.toNat := by
              rw [List.length_take, hlen]
              omega
            have new3 : ∀ {G : Hp} {a : Addr} {u : HO}, G a = none → But b G (upd G a u) := fun h => But.new h
            refine q _ p3 (((List.replicate z.toNat l).flatten).take z.toNat) ((((bt.trans bt3).trans bt4).trans (But.new np)).trans ((But.new np2).trans (But.new np3))) ?_ ?_ ?_ ?_ ((Bits.rep hB _).take _)
            · exact (((bx4.same (same_new np)).same (same_new np2)).same (same_new np3)).up (by omega)
            · refine .inl (.inl ?_)
              rw [upd_same, ec]
            · rw [lt]
              omega
            · rw [lt]
              omega
      · refine ⟨.ref b, rfl, b, 2, m + 2, rfl, by decide, by decide, bx2, by omega, fun d3 H3 g0 g1 bt3 bx3 sm3 => ⟨by show 1 ≤ sizeLine; decide, fun D nD => ?_⟩⟩
        have nDb : D ≠ b := (bx3.ne nD).symm
        have nDH : H D = none := by
          cases hh : H D with
          | none => rfl
          | some u =>
            have := (bt.trans bt3) D u nDb hh
            rw [nD] at this
            cases this
        refine while_by (fun σ H' => ∃ (l : List Int) (y6 : Option V), σ = [some (.ref b), some (.int most), some (.int z), some (.int k), none, some (.ref D), y6, none] ∧ But b H H' ∧ Box (m + 3 + 2 * l.length) H' b ∧ H' D = some (.lst (l.map V.int)) ∧ 1 ≤ l.length ∧ l.length ≤ z.toNat ∧ Bits l)
          (fun σ H' => match H' D with
            | some (HO.lst xs) => z.toNat - xs.length
            | _ => 0) ⟨[d3], none, rfl, (bt.trans bt3).trans (But.new nD), (bx3.same (same_new nD)).up (by omega), upd_same, Nat.le_refl _, by show 1 ≤ z.toNat; omega, Bits.snoc Bits.nil g0 g1⟩
          (fun σ H4 hp => ?_) (fun σ H Q Q' hq h => ?_)
        · obtain ⟨l, y6, rfl, bt4, bx4, hD, l1, l2, hB⟩ := hp
          refine ⟨.ref D, rfl, D, _, rfl, .inl (.inl (.inl hD)), .int z, rfl, _, _, rfl, rfl, _, rfl, ite2 (fun e2 => ?_) (fun e2 => ?_)⟩
          · have hlt : ((l.map V.int).length : Int) < z := of_decide_eq_true e2
            rw [List.length_map] at hlt
            refine ⟨fun v H' => (∃ c : Bool, v = .bl c) ∧ But b H4 H' ∧ Box (m + 3 + 2 * l.length + 1) H' b ∧ H' D = some (.lst (l.map V.int)), ?_, fun v H5 hv => ?_⟩
            · refine ⟨.int k, rfl, rfl, _, rfl, ite2 (fun _ => ?_) (fun _ => ?_)⟩
              · exact ⟨.ref b, rfl, b, 4, _, rfl, by decide, by decide, bx4, by omega, fun d5 H5 e0 e2 bt5 bx5 sm5 => ⟨_, _, rfl, rfl, ⟨_, rfl⟩, bt5, bx5, (sm5 D nDb).trans hD⟩⟩
              · exact ⟨⟨_, rfl⟩, But.refl _ _, bx4.up (by omega), hD⟩
            · obtain ⟨⟨c, rfl⟩, bt5, bx5, hD5⟩ := hv
              refine ⟨.ref D, rfl, .inl ⟨rfl, _, .inl (.inl hD5)⟩, fun v H' => (∃ o : Int, v = .int o ∧ 0 ≤ o ∧ o < 2) ∧ But b H5 H' ∧ Box (m + 3 + 2 * l.length + 2) H' b ∧ H' D = some (.lst (l.map V.int)), ?_, fun v H6 hv => ?_⟩
              · refine ⟨.bl c, rfl, c, rfl, ite2 (fun _ => ?_) (fun _ => ?_)⟩
                · obtain ⟨o, ho, hat⟩ := last_some (l := l) l1
                  refine ⟨.ref D, rfl, 1, rfl, D, _, _, _, rfl, rfl, .inl (.inl hD5), hat, ⟨o, rfl, ?_⟩, But.refl _ _, bx5.up (by omega), hD5⟩
                  have := hB o ho
                  omega
                · exact ⟨.ref b, rfl, b, 2, _, rfl, by decide, by decide, bx5, by omega, fun d6 H6 e0 e2 bt6 bx6 sm6 => ⟨⟨d6, rfl, e0, e2⟩, bt6, bx6, (sm6 D nDb).trans hD5⟩⟩
              · obtain ⟨⟨o, rfl, o0, o1⟩, bt6, bx6, hD6⟩ := hv
                refine ⟨D, _, _, rfl, rfl, hD6, ?_, ⟨l ++ [o], _, rfl, ?_, ?_, ?_, ?_, ?_, Bits.snoc hB o0 o1⟩, ?_⟩
                · rw [List.length_map]
                  exact small1000 (by omega)
                · refine but_local nDH ((bt4.trans bt5).trans bt6) fun a o n1 n2 h => ?_
                  rw [upd_ne n2]
                  exact h
                · obtain ⟨x1, x2, x3, g1, g2⟩ := bx6
                  refine ⟨x1, x2, x3, by rw [upd_ne nDb.symm]; exact g1, g2.1, ?_⟩
                  rw [List.length_append]
                  have := g2.2
                  show x3 ≤ ((m + 3 + 2 * (l.length + 1) : Nat) : Int)
                  omega
                · rw [upd_same, List.map_append]
                  rfl
                · rw [List.length_append]
                  exact Nat.le_add_left _ _
                · rw [List.length_append]
                  show l.length + 1 ≤ _
                  omega
                · show (match upd H6 D (.lst (l.map V.int ++ [V.int o])) D with
                    | some (HO.lst xs) => z.toNat - xs.length
                    | _ => 0) < (match H4 D with
                    | some (HO.lst xs) => z.toNat - xs.length
                    | _ => 0)
                  rw [upd_same, hD]
                  show z.toNat - (l.map V.int ++ [V.int o]).length < z.toNat - (l.map V.int).length
                  rw [List.length_append, List.length_map]
                  show z.toNat - (l.length + 1) < z.toNat - l.length
                  omega
          · refine ⟨.ref D, rfl, D, _, rfl, .inl ⟨.inl (.inl hD), fun p np => ?_⟩⟩
            exact q _ p l (bt4.trans (But.new np)) ((bx4.same (same_new np)).up (by omega)) (.inl (.inl upd_same)) l1 (by omega) hB
        · obtain ⟨v, h1, a, xs, h2, h3, v2, h4, i, j, h5, h6, c, h7, h8⟩ := h
          exact ⟨v, h1, a, xs, h2, h3, v2, h4, i, j, h5, h6, c, h7, hq _ _ h8⟩
end
end Pf
namespace Gk
open PySem PySem.Spec PyProof.Rows L2 PySem.Builtin.Str
/-! ### enumerate of a tuple -/
theorem enum_newT (l : Addr) (its : Array Value) :
    Meets (Builtin.«enumerate.__new__» ⟨[.type "enumerate", .ref l], []⟩) (fun _ R s => Heap.IsTuple s.heap l its ∧
      R (.ok (.ret (.ref (s.heap.push { cls := .type "tuple_iterator", data := .fields #[.ref l, .int 0 0] }).objs.size)))
        { s with heap := (s.heap.push { cls := .type "tuple_iterator", data := .fields #[.ref l, .int 0 0] }).push { cls := .type "enumerate", data := .fields #[.none, .bool false, .ref s.heap.objs.size, rawInt 0, .none, .none] } }) :=
  .of_wp fun prog w A R s h => by
    obtain ⟨hp, g, d, tk, os⟩ := s
    obtain ⟨hL, h⟩ := h
    have hsub := sub_enumerate
    obtain ⟨⟨oc, od, dt, sl⟩, hl, hcl, n, hdt⟩ := id hL
    replace hcl : oc = .type "tuple" := hcl
    replace hdt : dt = .seq its n := hdt
    subst hcl hdt
    wp_walk using wpAny_loadPart' hl
    refine wpAny_stack_any fun st => wpAny_pure ?_
    split
    · rename_i c _ _ _ _ _
      cases (c == Value.type "enumerate") <;>
      · wp_walk using wpAny_loadPart' hl, wpAny_pyIter_tuple hL
        exact ⟨_, rfl, h⟩
    · wp_walk using wpAny_loadPart' hl, wpAny_pyIter_tuple hL
      exact ⟨_, rfl, h⟩
section
variable {prog : Program} {w : World} {A : Around} {E : Value → Shared → Prop} {s : Shared}
theorem enumT {l : Addr} {its : Array Value} {Q : Value → Shared → Prop} (hL : s.heap.IsTuple l its)
    (h : ∀ h', IsEnum h' (s.heap.objs.size + 1) s.heap.objs.size 0 .none → h'.IsTupleIter s.heap.objs.size l 0 → (∀ b o, s.heap.get? b = some o → h'.get? b = some o) → Q (.ref (s.heap.objs.size + 1)) { s with heap := h' }) :
    wpAny (model prog w) A (call (.type "enumerate") [.ref l]) Q E s := by
  refine callType_new F.called_enumerate (by decide) (F.typeCall_enumerate_1 _) (F.newCall_enumerate_1 _) (fun obj => F.args_object_init_2 obj _) F.entry_enumerate_new (enum_newT l its) ⟨hL, ?_⟩
  have hz : (s.heap.push { cls := .type "tuple_iterator", data := .fields #[.ref l, .int 0 0] }).objs.size = s.heap.objs.size + 1 := Heap.size_push ..
  show _ ∧ _
  rw [hz]
  have he : IsEnum ((s.heap.push { cls := .type "tuple_iterator", data := .fields #[.ref l, .int 0 0] }).push { cls := .type "enumerate", data := .fields #[.none, .bool false, .ref s.heap.objs.size, rawInt 0, .none, .none] }) (s.heap.objs.size + 1) s.heap.objs.size 0 .none := by
    have g := Heap.get?_push_size (s.heap.push { cls := .type "tuple_iterator", data := .fields #[.ref l, .int 0 0] }) (o := { cls := .type "enumerate", data := .fields #[.none, .bool false, .ref s.heap.objs.size, rawInt 0, .none, .none] }) rfl
    rw [hz] at g
    exact g
  exact ⟨⟨_, he, rfl⟩, h _ he ⟨_, Heap.get?_push_of_some _ (Heap.get?_push_size _ rfl), rfl, rfl⟩ fun b o x => Heap.get?_push_of_some _ (Heap.get?_push_of_some _ x)⟩
end
def Ient (K : PySem.W.Frag) (a : Addr) (N : Nat) : It := ⟨fun i H => i < N ∧ ∃ xs : List V, SqT K H a xs ∧ xs.length = N,
  fun i H v H' => ∃ T x, v = .ref T ∧ H T = none ∧ (∀ xs, SqT K H a xs → xs[i]? = some x) ∧ H' = upd H T (.tup [.int (i : Nat), x]), fun i H => N ≤ i ∧ ∃ xs : List V, SqT K H a xs ∧ xs.length = N⟩
theorem turn_ent {P : Program} {w : World} {K : PySem.W.Frag} {elts : List Expr} {kk : Nat} {tpos : Pos} (e it a : Addr) (N : Nat) :
    Turn P w K (.Tuple elts kk tpos) (Ient K a N) [e, it] e (fun i h => ((∃ old, IsEnum h e it i old) ∧ h.IsTupleIter it a i) ∧ e ≠ it ∧ i ≤ N) where
  mem := List.mem_cons_self
  obj := fun i h st b hb => by
    obtain ⟨⟨⟨old, he⟩, ⟨o, ho, hc, hd⟩⟩, _⟩ := st
    rcases List.mem_cons.mp hb with rfl | hb
    · exact ⟨_, he, fun v g => nomatch g⟩
    · rw [List.mem_singleton.mp hb]
      exact ⟨o, ho, fun v g => by rw [hd] at g; cases g⟩
  keep := fun i h h' st k => by
    obtain ⟨⟨⟨old, he⟩, ⟨o, ho, hc, hd⟩⟩, hne⟩ := st
    exact ⟨⟨⟨old, k e List.mem_cons_self _ he⟩, o, k it (List.mem_cons_of_mem _ List.mem_cons_self) o ho, hc, hd⟩, hne⟩
  item := by
    intro X hP hw hK hc i pins s σ H E I hf st hg
    subst hP hw hK
    obtain ⟨hlt, xs, hq, hN⟩ := hg
    obtain ⟨st, hne, hi⟩ := st
    obtain ⟨its, rv, tup, hz⟩ := I.tuple hq
    have hlen : its.toArray.size = N := by rw [List.size_toArray, ← hN]; exact rv.length.symm
    have nat : a ≠ it := fun z => by
      obtain ⟨o1, g1, c1, _⟩ := tup
      obtain ⟨_, o2, g2, c2, _⟩ := st
      rw [z, g2] at g1
      cases g1
      rw [c2] at c1
      exact absurd c1 (by decide)
    have D : Draws X.prog X.w X.A.in1 it [it, a] its.toArray.size _ _ := Draws.tuple (show X.A.in1.handled = none from I.ok.hd hc) it a nat its.toArray
    have nea : e ≠ a := fun z => by
      obtain ⟨o1, g1, c1, _⟩ := tup
      obtain ⟨⟨old, g2⟩, _⟩ := st
      rw [z] at g2
      rw [g2] at g1
      cases g1
      exact absurd (show Value.type "enumerate" = Value.type "tuple" from c1) (by decide)
    have W := WalksT.enumerateD D e hne (fun q => (List.mem_cons.mp q).elim hne fun q => nea (List.mem_singleton.mp q)) List.mem_cons_self
    have hel : e < s.heap.objs.size := by obtain ⟨⟨old, he⟩, _⟩ := st; exact Heap.lt_size he
    have hil : it < s.heap.objs.size := by obtain ⟨_, o, ho, _⟩ := st; exact Heap.lt_size ho
    refine W.item i s _ _ (by rw [hlen]; exact hlt) ⟨st.1, st.2, tup⟩ fun T vals h' tk hp hT isT mid hk => ?_
    obtain ⟨t1, x1, hx1, rfl⟩ := hp
    have nT := W.apart i T h' mid
    obtain ⟨y, hy⟩ : ∃ y, xs[i]? = some y := ⟨xs[i]'(by omega), List.getElem?_eq_getElem (by omega)⟩
    obtain ⟨u, hu, ru⟩ := rv.get hy
    have hx1 : its.toArray[i]? = some x1 := hx1
    rw [List.getElem?_toArray, hu] at hx1
    obtain rfl := Option.some.inj hx1
    refine ⟨_, rfl, W.go elts kk tpos i T { s with heap := h', toks := tk } _ _ mid fun h2 st2 hk2 => ?_⟩
    obtain ⟨oT, gT, cT, nTT, dT⟩ := isT
    have gT2 := hk2 T oT nT gT
    have new : ObjOk X.prog X.w (upd H T (.tup [.int (i : Nat), y])) h2 T (.tup [.int (i : Nat), y]) :=
      ⟨by show 2 ≤ sizeLine; decide, [.int i t1, u], .cons ⟨_, rfl⟩ (.cons ru .nil), ⟨oT, gT2, cT, nTT, dT⟩⟩
    have I1 : Inv X pins σ (upd H T (.tup [.int (i : Nat), y])) { s with heap := h2, toks := tk } :=
      I.turnedNew (ch := [e, it]) (fun b ob hb g => hk2 b ob hb (hk b ob hb g)) hf hT new
    refine ⟨.ref T, _, I1, rfl, ⟨T, y, rfl, I.hok.fresh hT, fun ys hys => ?_, rfl⟩, ⟨⟨st2.1, st2.2.1⟩, hne, hlt⟩, fun b hb => ?_⟩
    · rw [I.tuple_inj hys hq]
      exact hy
    · have hb' : b < s.heap.objs.size := by
        rcases List.mem_cons.mp hb with rfl | hb
        · exact hel
        · rw [List.mem_singleton.mp hb]; exact hil
      rw [upd_ne (Nat.ne_of_lt (Nat.lt_of_lt_of_le hb' hT))]
      exact (hf b hb).1
  done := by
    intro X hP hw hK hc i pins s σ H E I hf st hg
    subst hP hw hK
    obtain ⟨hge, xs, hq, hN⟩ := hg
    obtain ⟨st, hne, hi⟩ := st
    obtain ⟨its, rv, tup, hz⟩ := I.tuple hq
    have hlen : its.toArray.size = N := by rw [List.size_toArray, ← hN]; exact rv.length.symm
    obtain rfl : i = N := Nat.le_antisymm hi hge
    have nat : a ≠ it := fun z => by
      obtain ⟨o1, g1, c1, _⟩ := tup
      obtain ⟨_, o2, g2, c2, _⟩ := st
      rw [z, g2] at g1
      cases g1
      rw [c2] at c1
      exact absurd c1 (by decide)
    have nea : e ≠ a := fun z => by
      obtain ⟨o1, g1, c1, _⟩ := tup
      obtain ⟨⟨old, g2⟩, _⟩ := st
      rw [z] at g2
      rw [g2] at g1
      cases g1
      exact absurd (show Value.type "enumerate" = Value.type "tuple" from c1) (by decide)
    have D : Draws X.prog X.w X.A.in1 it [it, a] its.toArray.size _ _ := Draws.tuple (show X.A.in1.handled = none from I.ok.hd hc) it a nat its.toArray
    have W := WalksT.enumerateD D e hne (fun q => (List.mem_cons.mp q).elim hne fun q => nea (List.mem_singleton.mp q)) List.mem_cons_self
    rw [← hlen] at st
    refine W.done s _ _ ⟨st.1, st.2, tup⟩ fun h' tk hk => ⟨rfl, ?_⟩
    exact I.step (g' := s.gens) (d' := s.drawn) (ch := [e, it]) (fun b hb => ⟨(hf b hb).2.2.2.1, (hf b hb).2.1, (hf b hb).2.2.2.2.1, (hf b hb).2.2.2.2.2⟩) (fun b o _ _ hc g _ => hk b o hc g) (fun b o _ _ hc g _ => ⟨o.slots, hk b o hc g⟩)
      (fun _ _ _ _ n => n) (fun b o hc g => ⟨o, hk b o hc g⟩) (fun _ _ g => g) (fun _ _ _ g => g) (fun b ps g => ⟨#[], by rw [g]; simp⟩)
      (fun m hm => by
        obtain ⟨o, es, ep, ho, r⟩ := hm
        exact ⟨o, es, ep, hk _ o (fun q => (hf _ q).2.1 rfl) ho, r⟩)
      (fun b u g => by
        have nb : ∀ c v, H c = some v → c ∉ [e, it] := fun c v g q => by
          have g' := (hf c q).1
          rw [g'] at g; cases g
        refine (I.hok b u g).stay (fun c v hcv q => hk c v ?_ q) (fun _ q => q) fun _ _ q => q
        rcases hcv with rfl | hcv
        · exact nb _ _ g
        · exact nb _ _ hcv) I.bare
  self := fun A i s Q E st h => by
    obtain ⟨⟨⟨old, he⟩, _⟩, _⟩ := st
    exact wpAny_pyIter_enum he h
def iEnumU (K : PySem.W.Frag) (ta : TA) : TI := fun σ H R => ta σ H fun vs H1 => ∃ a xs, vs = [.ref a] ∧ SqT K H1 a xs ∧ R (Ient K a xs.length) H1
theorem pi_enumU {X : Cx} {e : Expr} {ta : TA} {p pos tpos : Pos} {elts : List Expr} {kk : Nat} (hg : Gl X "enumerate") (hm : X.mg "enumerate" = none) (ha : PA X [e] ta) (hs : starEach [e] X.env = [(false, eval e X.env)] := by rfl) :
    PI X (.Tuple elts kk tpos) (.Call (.Name "enumerate" p) [e] [] pos) (iEnumU X.K ta) := by
  refine ⟨fun pins s σ H R I h => Call_ (ld_blt I hg hm boot_enumerate (PyProof.Rows.callWith_type1 (thn (ha.run pos pins s σ H _ I h) fun us s1 ⟨vs, H1, I1, r1, a, xs, ez, hq, q⟩ => ?_) hs rfl))⟩
  subst ez
  obtain ⟨u, rfl, r2⟩ := vals1 r1
  cases r2
  obtain ⟨its, rv, tup, hz⟩ := I1.tuple hq
  refine enumT tup fun h' he hit hk => wpAny_pyIter_enum he ?_
  refine ⟨s1.heap.objs.size + 1, [s1.heap.objs.size + 1, s1.heap.objs.size], _, _, H1, rfl, I1.kept (t' := s1.toks) hk, turn_ent (s1.heap.objs.size + 1) s1.heap.objs.size a xs.length, ⟨⟨⟨.none, he⟩, hit⟩, Nat.succ_ne_self _, Nat.zero_le _⟩, fun b hb => ?_, q⟩
  have hle : s1.heap.objs.size ≤ b := by
    rcases List.mem_cons.mp hb with rfl | hb
    · exact Nat.le_succ _
    · rw [List.mem_singleton.mp hb]
      exact Nat.le_refl _
  exact I1.fpOk hle (I1.hok.fresh hle)
theorem walk_ent {K : PySem.W.Frag} {a : Addr} {xs : List V} : Walk (Ient K a xs.length) xs.length (fun H => SqT K H a xs) (fun i H v H' => ∃ T x, v = .ref T ∧ H T = none ∧ xs[i]? = some x ∧ H' = upd H T (.tup [.int (i : Nat), x])) :=
  ⟨fun i _ hi g => ⟨hi, xs, g, rfl⟩, fun _ g => ⟨Nat.le_refl _, xs, g, rfl⟩, fun i H v H' _ g y => by
    obtain ⟨T, x, h1, h2, h3, h4⟩ := y
    exact ⟨T, x, h1, h2, h3 xs g, h4⟩⟩
end Gk
namespace Gk
open PySem PySem.Spec PyProof.Rows L2
/-- a pair (branch, outcome) -/
def pd (x : Int × Int) : PyData := .tuple [.int x.1, .int x.2]
def PairsAt (K : PySem.W.Frag) (H : Hp) (p : Addr) (l : List (Int × Int)) : Prop := Dp K H (.ref p) (.tuple (l.map pd))
theorem tups_pd : ∀ l : List (Int × Int), tupsAll (l.map pd) = true
  | [] => rfl
  | x :: l => by
    show (tups (pd x) && tupsAll (l.map pd)) = true
    rw [tups_pd l]
    rfl
theorem PairsAt.keep {K : PySem.W.Frag} {H H' : Hp} {p : Addr} {l : List (Int × Int)} (h : PairsAt K H p l) (k : Keep K H H') : PairsAt K H' p l :=
  Dp.keep k _ _ (by simpa only [tups] using tups_pd l) h
theorem pairs_keep {K : PySem.W.Frag} {H H' : Hp} {as : List V} {l : List (Int × Int)} (h : DpAll K H as (l.map pd)) (k : Keep K H H') : DpAll K H' as (l.map pd) := DpAll.keep k _ _ (tups_pd l) h
theorem keep_lst {K : PySem.W.Frag} {H : Hp} {D : Addr} {xs : List V} {o : HO} (h : H D = some (.lst xs)) : Keep K H (upd H D o) := by
  intro a ys g
  rcases g with (g | ⟨u, g⟩) | g
  · exact .inl (.inl (by rw [upd_ne (ne_of g h (fun q => HO.noConfusion q))]; exact g))
  · exact .inl (.inr ⟨u, by rw [upd_ne (ne_of g h (fun q => HO.noConfusion q))]; exact g⟩)
  · exact .inr g
/-- one pair more in the list at D -/
theorem pairs_snoc {K : PySem.W.Frag} {H : Hp} {D T : Addr} {as : List V} {l : List (Int × Int)} {x y : Int} {o : HO} (h : DpAll K H as (l.map pd)) (hD : H D = some (.lst as)) (nT : H T = none) :
    DpAll K (upd (upd H T (.tup [.int x, .int y])) D o) (as ++ [.ref T]) ((l ++ [(x, y)]).map pd) := by
  have nd : D ≠ T := ne_of_none hD nT
  have hD2 : (upd H T (.tup [.int x, .int y])) D = some (.lst as) := by rw [upd_ne nd]; exact hD
  have k := (Same.keep (K := K) (same_new (o := HO.tup [V.int x, V.int y]) nT)).trans (keep_lst (o := o) hD2)
  rw [List.map_append]
  refine DpAll.app (pairs_keep h k) (.cons (.tup (.inl (.inl ?_)) (.cons (.int x) (.cons (.int y) .nil))) .nil)
  rw [upd_ne nd.symm, upd_same]
theorem pair_at {K : PySem.W.Frag} {H : Hp} {v : V} {x : Int × Int} (h : Dp K H v (pd x)) : ∃ a, v = .ref a ∧ SqT K H a [.int x.1, .int x.2] := by
  cases h with
  | tup h1 h2 =>
    cases h2 with
    | cons a b =>
      cases a
      cases b with
      | cons c d =>
        cases c
        cases d
        exact ⟨_, rfl, h1⟩
theorem DpAll.set {K : PySem.W.Frag} {H : Hp} {v : V} {d : PyData} (hv : Dp K H v d) : ∀ {vs : List V} {ds : List PyData} (i : Nat), DpAll K H vs ds → DpAll K H (vs.set i v) (ds.set i d)
  | _, _, _, .nil => .nil
  | _, _, 0, .cons _ t => .cons hv t
  | _, _, i + 1, .cons h t => .cons h (DpAll.set hv i t)
theorem lc_len {K : PySem.W.Frag} {H : Hp} {as : List V} {l : List (Int × Int)} (h : DpAll K H as (l.map pd)) : as.length = l.length := by
  have := DpAll.len h
  rwa [List.length_map] at this
/-- branches and outcomes -/
def Fair (l : List (Int × Int)) : Prop := ∀ x ∈ l, (0 ≤ x.1 ∧ x.1 ≤ 7) ∧ (x.2 = 0 ∨ x.2 = 1)
theorem Fair.nil : Fair [] := fun _ h => (nomatch h)
theorem Fair.snoc {l : List (Int × Int)} {x y : Int} (h : Fair l) (a : 0 ≤ x) (b : x ≤ 7) (c : y = 0 ∨ y = 1) : Fair (l ++ [(x, y)]) := fun z hz => by
  rcases List.mem_append.mp hz with g | g
  · exact h z g
  · rw [List.mem_singleton.mp g]
    exact ⟨⟨a, b⟩, c⟩
theorem Fair.take {l : List (Int × Int)} (h : Fair l) (n : Nat) : Fair (l.take n) := fun x hx => h x (List.mem_of_mem_take hx)
theorem tame_pd : ∀ {l : List (Int × Int)}, Fair l → tameAll (l.map pd) = true
  | [], _ => rfl
  | x :: l, h => by
    have h1 := h x List.mem_cons_self
    show (tame (pd x) && tameAll (l.map pd)) = true
    rw [tame_pd fun z hz => h z (List.mem_cons_of_mem _ hz), Bool.and_true]
    simp only [pd, tame, tameAll, Bool.and_true, Bool.and_eq_true, decide_eq_true_eq]
    omega
theorem cost_pd : ∀ l : List (Int × Int), costAll (l.map pd) = 1 + 144 * l.length
  | [] => rfl
  | x :: l => by
    show cost (pd x) + 1 + costAll (l.map pd) = _
    rw [cost_pd l, List.length_cons]
    simp only [pd, cost, costAll]
    omega
theorem depth_pd : ∀ l : List (Int × Int), PyData.depthAll (l.map pd) ≤ 1
  | [] => by decide
  | x :: l => by
    show max (PyData.depth (pd x)) (PyData.depthAll (l.map pd)) ≤ 1
    have h := depth_pd l
    have h2 : PyData.depth (pd x) = 1 := by simp [pd, PyData.depth, PyData.depthAll]
    omega
end Gk
namespace Pf
open PySem PySem.Spec PyProof.Rows L2 Gk
abbrev sLoop : Stmt := topS 27
abbrev nLoop : List Str := ["_law_box_here", "_law_most", "_law_homes", "_law_row_here", "_law_kind", "_law_some", "_law_first", "_law_found", "_law_deed", "_law_at"]
theorem scLoop : FnScope nLoop ["_law_box_here", "_law_most", "_law_homes"] (defScope sLoop) := ⟨rfl, rfl, rfl, by decide +kernel, rfl, by decide +kernel, by decide +kernel⟩
section
variable {P : Program} {w : World} {K : PySem.W.Frag} {mg : Str → Option Value} {base : Heap}
def spLoop (K : PySem.W.Frag) : Sp := fun vs H Q _ => ∃ (b : Addr) (most homes : Int) (m : Nat), vs = [.ref b, .int most, .int homes] ∧ 1 ≤ most ∧ most ≤ 64 ∧ 1 ≤ homes ∧ homes ≤ 8 ∧ Box m H b ∧ m ≤ 999000 ∧
  ∀ H' p l, But b H H' → Box (m + 250) H' b → PairsAt K H' p l → 1 ≤ l.length → (l.length : Int) ≤ most → Fair l → Q (.ref p) H'
theorem ok_loop {f : Addr} {fd : FuncData} (DT : Dfn P w K mg base 1 "_law_take" ["_law_box_here", "_law_many"] spTake) (DR : Dfn P w K mg base 2 "_law_row" ["_law_box_here", "_law_most"] (spRow K)) (mt : mg "tuple" = none) (me : mg "enumerate" = none) (ml : mg "len" = none)
    (F : L2.Fun K "_law_loop" "_law_loop" sLoop f fd) : FnOk P w K mg base L2.CX0 3 f fd ["_law_box_here", "_law_most", "_law_homes"] (spLoop K) := by
  refine F.ok scLoop (fun vs H Q E h => ?_) (fun cdv A outer s H vs Q E hr h => ?_)
  · obtain ⟨b, most, homes, m, rfl, _⟩ := h
    rfl
  · obtain ⟨b, most, homes, m, rfl, m1, m2, h1, h2, hb, hm, q⟩ := h
    refine ⟨_, C8.pss_cut (ps_asg (pe_tup (pa_cons (pe_d DR hr (by decide) (by rfl) (pa_cons (pv 0) (pa_cons (pv 1) pa_nil))) (pa_cons (pe_d DT hr (by decide) (by rfl) (pa_cons (pv 0) (pa_cons pe_int pa_nil)))
          (pa_cons (pe_op op_add pe_int (pe_d DT hr (by decide) (by rfl) (pa_cons (pv 0) (pa_cons (pv 2) pa_nil)))) pa_nil))))
        (pg_tup (by rfl) (pgs_cons (pg_name (i := 3) scLoop.nd rfl (.inl rfl)) (pgs_cons (pg_name (i := 4) scLoop.nd rfl (.inl rfl)) (pgs_cons (pg_name (i := 5) scLoop.nd rfl (.inr rfl)) pgs_nil)))))
      (pss_cons (ps_set (i := 6) scLoop.nd rfl (.inr rfl) (pe_d DT hr (by decide) (by rfl) (pa_cons (pv 0) (pa_cons (pe_op op_sub pe_int (pv 5)) pa_nil))))
      (pss_cons (ps_if (pt_cmpR op_eq (pv 4) pe_int (nomark _))
        (pss_one (ps_ret (pe_callTy call_tuple_of (by rfl) mt (by decide +kernel) (pa_cons (pe_lc (own := [("_law_deed", 8)]) (g := gName 8) (by rfl) scLoop.nd (pi_tup (pv 3)) (blkOk_by (N := nLoop) (sc := defScope sLoop) (by decide +kernel))
          (fun _ _ _ _ _ => pg_name (i := 8) scLoop.nd rfl (.inl rfl)) (fun _ _ _ _ _ => pts_nil) (fun _ _ _ _ _ => pe_tup (pa_cons (pv 6) (pa_cons (pv 8) pa_nil)))) pa_nil)))) pss_nil)
      (pss_cons (ps_if (pt_cmpR op_eq (pv 4) pe_int (nomark _))
        (pss_one (ps_ret (pe_callTy call_tuple_of (by rfl) mt (by decide +kernel) (pa_cons (pe_lc (own := [("_law_at", 9), ("_law_deed", 8)]) (g := gTup K 2 (gCons (gName 9) (gCons (gName 8) gNil))) (by rfl) scLoop.nd (pi_enumU rfl me (pa_cons (pv 3) pa_nil)) (blkOk_by (N := nLoop) (sc := defScope sLoop) (by decide +kernel))
          (fun _ _ _ _ _ => pg_tup rfl (pgs_cons (pg_name (i := 9) scLoop.nd rfl (.inl rfl)) (pgs_cons (pg_name (i := 8) scLoop.nd rfl (.inl rfl)) pgs_nil))) (fun _ _ _ _ _ => pts_nil)
          (fun _ _ _ _ _ => pe_tup (pa_cons (pe_op op_add (pv 6) (pe_op op_mod (pv 9) (pv 5))) (pa_cons (pv 8) pa_nil)))) pa_nil)))) pss_nil)
      (pss_cons (ps_setLc (i := 7) (own := [("_law_deed", 8)]) (g := gName 8) (by rfl) scLoop.nd rfl rfl (sw_true rfl rfl rfl (by decide +kernel)) (pi_tup (pv 3)) (blkOk_by (N := nLoop) (sc := defScope sLoop) (by decide +kernel))
          (fun _ _ _ _ _ => pg_name (i := 8) scLoop.nd rfl (.inl rfl)) (fun _ _ _ _ _ => pts_nil) (fun _ _ _ _ _ => pe_tup (pa_cons (pe_op op_add (pv 6) (pe_d DT hr (by decide) (by rfl) (pa_cons (pv 0) (pa_cons (pv 5) pa_nil)))) (pa_cons (pv 8) pa_nil))))
      (C8.pss_cut (ps_if (PW.pt (pw_and (pt_cmpR op_eq (pv 4) pe_int (nomark _)) (pw_and1 (pt_cmpR op_gt (pe_callB call_len_seq (by rfl) ml PySem.boot_len (pa_cons (pv 7) pa_nil)) pe_int (nomark _)))))
        (pss_one (ps_asg (pe_tup (pa_cons (pe_ix ix_tup (pe_ix ix_list (pv 7) (pe_un un_neg pe_int) (fun _ _ => rfl)) pe_int (fun _ _ => rfl)) (pa_cons (pe_ix ix_tup (pe_ix ix_list (pv 7) pe_int (fun _ _ => rfl)) pe_int (fun _ _ => rfl)) pa_nil)))
          (pg_sub (pv 7) (pe_un un_neg pe_int) set_list))) pss_nil)
      (pss_one (ps_ret (pe_callTy call_tuple_of (by rfl) mt (by decide +kernel) (pa_cons (pv 7) pa_nil))))))))), ?_⟩
    refine ⟨fun σ H2 => ∃ (r : Addr) (os : List Int) (k z : Int), σ = [some (.ref b), some (.int most), some (.int homes), some (.ref r), some (.int k), some (.int z), none, none, none, none] ∧ SqT K H2 r (os.map V.int) ∧ 1 ≤ os.length ∧ (os.length : Int) ≤ most ∧ Bits os ∧ 1 ≤ z ∧ z ≤ 8 ∧ But b H H2 ∧ Box (m + 152) H2 b, ?_, fun σ' H2 hM => ?_⟩
    · refine ⟨.ref b, rfl, .int most, rfl, b, most, m, rfl, m1, m2, hb, by omega, fun H1 r os bt1 bx1 sq l1 l2 hB => ⟨.ref b, rfl, b, 4, m + 150, rfl, by decide, by decide, bx1, by omega, fun k H2 k0 k1 bt2 bx2 sm2 =>
        ⟨.ref b, rfl, .int homes, rfl, b, homes, m + 150 + 1, rfl, by omega, by omega, bx2, by omega, fun d H3 d0 d1 bt3 bx3 sm3 => ⟨_, _, rfl, rfl, by show 3 ≤ sizeLine; decide, fun p np => ?_⟩⟩⟩⟩
      refine ⟨p, _, rfl, .inl (.inl upd_same), rfl, _, _, rfl, _, _, rfl, _, _, rfl, rfl, r, os, k, 1 + d, rfl, ?_, l1, l2, hB, by omega, by omega, ((bt1.trans bt2).trans bt3).trans (But.new np), bx3.same (same_new np)⟩
      exact Same.seqT (same_new np) ((But.keep bt3 bx2 _ _) ((But.keep bt2 bx1 _ _) sq))
    · obtain ⟨r, os, k, z, rfl, sq, l1, l2, hB, z1, z2, bt, bx⟩ := hM
      refine ⟨.ref b, rfl, .int z, rfl, _, _, rfl, rfl, b, 9 - z, m + 152, rfl, by omega, by omega, bx, by omega, fun d H3 d0 d1 bt3 bx3 sm3 => ?_⟩
      have sq3 : SqT K H3 r (os.map V.int) := But.keep bt3 bx _ _ sq
      have btA : But b H H3 := bt.trans bt3
      have len64 : os.length ≤ 64 := by omega
      have at_os : ∀ {i : Nat} {x : V}, (os.map V.int)[i]? = some x → ∃ o, os[i]? = some o ∧ x = .int o ∧ (o = 0 ∨ o = 1) := by
        intro i x hx
        rw [List.getElem?_map] at hx
        cases e : os[i]? with
        | none => rw [e] at hx; cases hx
        | some o =>
          rw [e] at hx
          exact ⟨o, rfl, (Option.some.inj hx).symm, hB o (List.mem_of_getElem? e)⟩
      have fin : ∀ (H5 : Hp) (D : Addr) (as : List V) (l : List (Int × Int)), But b H H5 → Box (m + 240) H5 b → H5 D = some (.lst as) → DpAll K H5 as (l.map pd) → l.length = os.length → Fair l →
          ∀ p, H5 p = none → Q (.ref p) (upd H5 p (.tup as)) := fun H5 D as l b5 x5 hD hA hl hF p np =>
        q _ p l (b5.trans (But.new np)) ((x5.same (same_new np)).up (by omega)) (.tup (.inl (.inl upd_same)) (pairs_keep hA (Same.keep (same_new np)))) (by omega) (by omega) hF
      refine ⟨.int k, rfl, rfl, _, rfl, ite2 (fun e => ?_) (fun e => ?_)⟩
      · refine ⟨.ref r, rfl, r, rfl, ⟨_, sq3⟩, fun D nD => lc_tup (K := K) (a := r) (xs := os.map V.int)
          (fun i H' => Same H3 H' ∧ ∃ (as : List V) (l : List (Int × Int)), H' D = some (.lst as) ∧ DpAll K H' as (l.map pd) ∧ l.length = i ∧ Fair l) ⟨same_new nD, [], [], upd_same, .nil, rfl, Fair.nil⟩
          (fun i H' _ hp => Same.seqT hp.1 sq3) (fun i x H4 hx hp => ?_) (fun H4 hp => ?_)⟩
        · obtain ⟨sm, as, l, hD, hA, hl, hF⟩ := hp
          obtain ⟨o, ho, rfl, ob⟩ := at_os hx
          have hi : i < os.length := (List.getElem?_eq_some_iff.mp ho).1
          refine ⟨rfl, .int d, rfl, .int o, rfl, by show 2 ≤ sizeLine; decide, fun T nT => ⟨as, by rw [upd_ne (ne_of_none hD nT)]; exact hD, ?_, ?_, as ++ [.ref T], l ++ [(d, o)], upd_same, pairs_snoc hA hD nT, ?_, Fair.snoc hF d0 (by omega) ob⟩⟩
          · rw [lc_len hA]
            exact small1000 (by omega)
          · intro a u h
            rw [upd_ne (ne_of_none h nD)]
            exact same_new nT a u (sm a u h)
          · rw [List.length_append, hl]
            rfl
        · obtain ⟨sm, as, l, hD, hA, hl, hF⟩ := hp
          rw [List.length_map] at hl
          exact ⟨D, as, rfl, .inl ⟨.inl (.inl hD), fin H4 D as l (btA.trans (But.of_same sm)) ((bx3.same sm).up (by omega)) hD hA hl hF⟩⟩
      · refine ⟨.int k, rfl, rfl, _, rfl, ite2 (fun e2 => ?_) (fun e2 => ?_)⟩
        · refine ⟨.ref r, rfl, r, _, rfl, sq3, fun D nD => lc_it walk_ent
            (fun i H' => Same H3 H' ∧ ∃ (as : List V) (l : List (Int × Int)), H' D = some (.lst as) ∧ DpAll K H' as (l.map pd) ∧ l.length = i ∧ Fair l) ⟨same_new nD, [], [], upd_same, .nil, rfl, Fair.nil⟩
            (fun i H' _ hp => Same.seqT hp.1 sq3) (fun i x H4 H5 hi hp hy => ?_) (fun H4 hp => ?_)⟩
          · obtain ⟨sm, as, l, hD, hA, hl, hF⟩ := hp
            obtain ⟨R, x, rfl, nR, hx, rfl⟩ := hy
            obtain ⟨o, ho, rfl, ob⟩ := at_os hx
            have hi : i < os.length := (List.getElem?_eq_some_iff.mp ho).1
            have hD4 : (upd H4 R (.tup [.int (i : Nat), .int o])) D = some (.lst as) := by rw [upd_ne (ne_of_none hD nR)]; exact hD
            have hA4 : DpAll K (upd H4 R (.tup [.int (i : Nat), .int o])) as (l.map pd) := pairs_keep hA (Same.keep (same_new nR))
            have hmod0 : 0 ≤ (i : Int) % z := Int.emod_nonneg _ (by omega)
            have hmod1 : (i : Int) % z < z := Int.emod_lt_of_pos _ (by omega)
            refine ⟨R, _, rfl, .inl (.inl upd_same), rfl, _, _, rfl, _, _, rfl, rfl, rfl, .int d, rfl, .int (i : Nat), rfl, .int z, rfl, _, _, rfl, rfl, by show (0 : Int) < z; omega, _, _, rfl, rfl, .int o, rfl, by show 2 ≤ sizeLine; decide,
              fun T nT => ⟨as, by rw [upd_ne (ne_of_none hD4 nT)]; exact hD4, ?_, ?_, as ++ [.ref T], l ++ [(d + (i : Int) % z, o)], upd_same, pairs_snoc hA4 hD4 nT, ?_, Fair.snoc hF (by omega) (by omega) ob⟩⟩
            · rw [lc_len hA]
              exact small1000 (by omega)
            · intro a u h
              rw [upd_ne (ne_of_none h nD)]
              exact same_new nT a u (same_new nR a u (sm a u h))
            · rw [List.length_append, hl]
              rfl
          · obtain ⟨sm, as, l, hD, hA, hl, hF⟩ := hp
            rw [List.length_map] at hl
            exact ⟨D, as, rfl, .inl ⟨.inl (.inl hD), fin H4 D as l (btA.trans (But.of_same sm)) ((bx3.same sm).up (by omega)) hD hA hl hF⟩⟩
        · refine ⟨.ref r, rfl, r, rfl, ⟨_, sq3⟩, fun D nD => lc_tup (K := K) (a := r) (xs := os.map V.int)
            (fun i H' => But b H3 H' ∧ Box (m + 153 + i) H' b ∧ ∃ (as : List V) (l : List (Int × Int)), H' D = some (.lst as) ∧ DpAll K H' as (l.map pd) ∧ l.length = i ∧ Fair l) ⟨But.new nD, bx3.same (same_new nD), [], [], upd_same, .nil, rfl, Fair.nil⟩
            (fun i H' _ hp => But.keep hp.1 bx3 _ _ sq3) (fun i x H4 hx hp => ?_) (fun H4 hp => ?_)⟩
          · obtain ⟨bt4, bx4, as, l, hD, hA, hl, hF⟩ := hp
            obtain ⟨o, ho, rfl, ob⟩ := at_os hx
            have hi : i < os.length := (List.getElem?_eq_some_iff.mp ho).1
            have nDb : D ≠ b := (bx3.ne nD).symm
            refine ⟨rfl, .int d, rfl, .ref b, rfl, .int z, rfl, b, z, _, rfl, by omega, by omega, bx4, by omega, fun d5 H5 e0 e1 bt5 bx5 sm5 => ⟨_, _, rfl, rfl, .int o, rfl, by show 2 ≤ sizeLine; decide, fun T nT => ?_⟩⟩
            have hD5 : H5 D = some (.lst as) := (sm5 D nDb).trans hD
            have nTb : T ≠ b := (bx5.ne nT).symm
            refine ⟨as, by rw [upd_ne (ne_of_none hD5 nT)]; exact hD5, ?_, ?_, ?_, as ++ [.ref T], l ++ [(d + d5, o)], upd_same, pairs_snoc (pairs_keep hA (But.keep bt5 bx4)) hD5 nT, ?_, Fair.snoc hF (by omega) (by omega) ob⟩
            · rw [lc_len hA]
              exact small1000 (by omega)
            · refine but_local nD (bt4.trans bt5) fun a u n1 n2 h => ?_
              rw [upd_ne n2]
              exact same_new nT a u h
            · obtain ⟨x1, x2, x3, g1, g2⟩ := bx5
              exact ⟨x1, x2, x3, by rw [upd_ne nDb.symm, upd_ne nTb.symm]; exact g1, g2.1, by have := g2.2; omega⟩
            · rw [List.length_append, hl]
              rfl
          · obtain ⟨bt4, bx4, as, l, hD, hA, hl, hF⟩ := hp
            rw [List.length_map] at hl
            rw [List.length_map] at bx4
            have hal := lc_len hA
            refine ⟨fun σ H6 => ∃ (as : List V) (l : List (Int × Int)), σ = [some (.ref b), some (.int most), some (.int homes), some (.ref r), some (.int k), some (.int z), some (.int d), some (.ref D), none, none] ∧ But b H H6 ∧ Box (m + 240) H6 b ∧ H6 D = some (.lst as) ∧ DpAll K H6 as (l.map pd) ∧ l.length = os.length ∧ Fair l, ?_, fun σ' H6 hM => ?_⟩
            · refine ⟨.int k, rfl, rfl, _, rfl, ite2 (fun e3 => ?_) (fun e3 => ?_)⟩
              · refine ⟨.ref D, rfl, D, _, rfl, .inl (.inl (.inl hD)), _, _, rfl, rfl, _, rfl, ite2 (fun e4 => ?_) (fun e4 => ?_)⟩
                · have h0 : 0 < l.length := by omega
                  have g0 : as[0]? = some (as[0]'(by omega)) := List.getElem?_eq_getElem (by omega)
                  have gl : as[l.length - 1]? = some (as[l.length - 1]'(by omega)) := List.getElem?_eq_getElem (by omega)
                  have k0 : (l.map pd)[0]? = some (pd (l[0]'(by omega))) := by rw [List.getElem?_map, List.getElem?_eq_getElem (by omega)]; rfl
                  have kl : (l.map pd)[l.length - 1]? = some (pd (l[l.length - 1]'(by omega))) := by rw [List.getElem?_map, List.getElem?_eq_getElem (by omega)]; rfl
                  obtain ⟨a0, ea0, sa0⟩ := pair_at (DpAll.at hA g0 k0)
                  obtain ⟨al, eal, sal⟩ := pair_at (DpAll.at hA gl kl)
                  have f0 := hF _ (List.getElem_mem (show 0 < l.length by omega))
                  have fl := hF _ (List.getElem_mem (show l.length - 1 < l.length by omega))
                  have ix : ixN as.length (-1) = some (l.length - 1) := by
                    unfold ixN
                    rw [if_neg (by decide), if_pos (by omega)]
                    congr 1
                    omega
                  have hat : atI as (-1) = some (.ref al) := by
                    unfold atI
                    rw [ix]
                    exact gl.trans (congrArg some eal)
                  have hat0 : atI as 0 = some (.ref a0) := atI_nat (j := 0) (g0.trans (congrArg some ea0))
                  refine ⟨.ref D, rfl, 1, rfl, D, as, -1, .ref al, rfl, rfl, .inl (.inl hD), hat, al, _, 0, .int (l[l.length - 1]'(by omega)).1, rfl, rfl, sal, rfl, .ref D, rfl, D, as, 0, .ref a0, rfl, rfl, .inl (.inl hD), hat0, a0, _, 1, .int (l[0]'(by omega)).2, rfl, rfl, sa0, rfl,
                    by show 2 ≤ sizeLine; decide, fun T nT => ?_⟩
                  have nDT : D ≠ T := ne_of_none hD nT
                  have hD7 : (upd H4 T (.tup [.int (l[l.length - 1]'(by omega)).1, .int (l[0]'(by omega)).2])) D = some (.lst as) := by rw [upd_ne nDT]; exact hD
                  have nDb : D ≠ b := (bx3.ne nD).symm
                  have nDH : H D = none := by
                    cases hh : H D with
                    | none => rfl
                    | some u =>
                      have := btA D u nDb hh
                      rw [nD] at this
                      cases this
                  refine ⟨.ref D, rfl, 1, rfl, D, as, -1, l.length - 1, rfl, rfl, hD7, ix, as.set (l.length - 1) (.ref T), l.set (l.length - 1) ((l[l.length - 1]'(by omega)).1, (l[0]'(by omega)).2), rfl, ?_, ?_, upd_same, ?_, ?_, ?_⟩
                  · refine but_local nDH (btA.trans bt4) fun a u n1 n2 h => ?_
                    rw [upd_ne n2]
                    exact same_new nT a u h
                  · have nbT := bx4.ne nT
                    obtain ⟨x1, x2, x3, g1, g2⟩ := bx4
                    exact ⟨x1, x2, x3, by rw [upd_ne nDb.symm, upd_ne nbT]; exact g1, g2.1, by have := g2.2; omega⟩
                  · have kk := (Same.keep (K := K) (same_new (o := HO.tup [.int (l[l.length - 1]'(by omega)).1, .int (l[0]'(by omega)).2]) nT)).trans (keep_lst (o := .lst (as.set (l.length - 1) (.ref T))) hD7)
                    rw [List.map_set]
                    refine DpAll.set (.tup (.inl (.inl ?_)) (.cons (.int _) (.cons (.int _) .nil))) _ (pairs_keep hA kk)
                    rw [upd_ne nDT.symm, upd_same]
                  · rw [List.length_set]
                    exact hl
                  · intro y hy
                    rcases List.mem_or_eq_of_mem_set hy with g | g
                    · exact hF y g
                    · rw [g]
                      exact ⟨fl.1, f0.2⟩
                · exact ⟨as, l, rfl, btA.trans bt4, bx4.up (by omega), hD, hA, hl, hF⟩
              · exact ⟨as, l, rfl, btA.trans bt4, bx4.up (by omega), hD, hA, hl, hF⟩
            · obtain ⟨as, l, rfl, bt6, bx6, hD6, hA6, hl6, hF6⟩ := hM
              exact ⟨.ref D, rfl, D, as, rfl, .inl ⟨.inl (.inl hD6), fin H6 D as l bt6 bx6 hD6 hA6 hl6 hF6⟩⟩
end
end Pf
namespace Gk
open PySem PySem.Spec PyProof.Rows L2
/-! ### data whose equality is being the same -/
mutual
def exa : PyData → Bool
  | .none | .int _ | .str _ => true
  | .list xs | .tuple xs => exaAll xs
  | .bool _ | .dict _ => false
def exaAll : List PyData → Bool
  | [] => true
  | x :: xs => exa x && exaAll xs
end
mutual
theorem eqv_exa : ∀ d e : PyData, exa d = true → exa e = true → PyData.eqv d e = true → d = e
  | .none, .none, _, _, _ => rfl
  | .int i, .int j, _, _, h => by
    simp only [PyData.eqv, beq_iff_eq] at h
    rw [h]
  | .str x, .str y, _, _, h => by
    simp only [PyData.eqv, beq_iff_eq] at h
    rw [h]
  | .list xs, .list ys, a, b, h => by
    simp only [PyData.eqv] at h
    rw [eqv_exaAll xs ys (by simpa only [exa] using a) (by simpa only [exa] using b) h]
  | .tuple xs, .tuple ys, a, b, h => by
    simp only [PyData.eqv] at h
    rw [eqv_exaAll xs ys (by simpa only [exa] using a) (by simpa only [exa] using b) h]
  | .none, .int _, _, _, h | .none, .str _, _, _, h | .none, .list _, _, _, h | .none, .tuple _, _, _, h => by simp [PyData.eqv] at h
  | .int _, .none, _, _, h | .int _, .str _, _, _, h | .int _, .list _, _, _, h | .int _, .tuple _, _, _, h => by simp [PyData.eqv] at h
  | .str _, .none, _, _, h | .str _, .int _, _, _, h | .str _, .list _, _, _, h | .str _, .tuple _, _, _, h => by simp [PyData.eqv] at h
  | .list _, .none, _, _, h | .list _, .int _, _, _, h | .list _, .str _, _, _, h | .list _, .tuple _, _, _, h => by simp [PyData.eqv] at h
  | .tuple _, .none, _, _, h | .tuple _, .int _, _, _, h | .tuple _, .str _, _, _, h | .tuple _, .list _, _, _, h => by simp [PyData.eqv] at h
  | .bool _, _, a, _, _ | .dict _, _, a, _, _ => by simp [exa] at a
  | .none, .bool _, _, b, _ | .none, .dict _, _, b, _ | .int _, .bool _, _, b, _ | .int _, .dict _, _, b, _ | .str _, .bool _, _, b, _ | .str _, .dict _, _, b, _ => by simp [exa] at b
  | .list _, .bool _, _, b, _ | .list _, .dict _, _, b, _ | .tuple _, .bool _, _, b, _ | .tuple _, .dict _, _, b, _ => by simp [exa] at b
theorem eqv_exaAll : ∀ xs ys : List PyData, exaAll xs = true → exaAll ys = true → PyData.eqvAll xs ys = true → xs = ys
  | [], [], _, _, _ => rfl
  | x :: xs, y :: ys, a, b, h => by
    simp only [exaAll, Bool.and_eq_true] at a b
    simp only [PyData.eqvAll, Bool.and_eq_true] at h
    rw [eqv_exa x y a.1 b.1 h.1, eqv_exaAll xs ys a.2 b.2 h.2]
  | [], _ :: _, _, _, h => by simp [PyData.eqvAll] at h
  | _ :: _, [], _, _, h => by simp [PyData.eqvAll] at h
end
theorem eqv_same {d : PyData} (h : tame d = true) : PyData.eqv d d = true := SeqAt.eqv_refl d (tame_lay d h)
/-- an item of a row or of a loop -/
structure Item (d : PyData) : Prop where
  e : exa d = true
  t : tups d = true
  m : tame d = true
  dp : d.depth ≤ 1
  c : cost d ≤ 143
def Plain (ds : List PyData) : Prop := ∀ d ∈ ds, Item d
theorem Plain.exa : ∀ {ds : List PyData}, Plain ds → exaAll ds = true
  | [], _ => rfl
  | x :: xs, h => by
    simp only [exaAll, (h x List.mem_cons_self).e, Plain.exa fun z hz => h z (List.mem_cons_of_mem _ hz), Bool.and_self]
theorem Plain.tups : ∀ {ds : List PyData}, Plain ds → tupsAll ds = true
  | [], _ => rfl
  | x :: xs, h => by
    simp only [tupsAll, (h x List.mem_cons_self).t, Plain.tups fun z hz => h z (List.mem_cons_of_mem _ hz), Bool.and_self]
theorem Plain.tame : ∀ {ds : List PyData}, Plain ds → tameAll ds = true
  | [], _ => rfl
  | x :: xs, h => by
    simp only [tameAll, (h x List.mem_cons_self).m, Plain.tame fun z hz => h z (List.mem_cons_of_mem _ hz), Bool.and_self]
theorem Plain.depth : ∀ {ds : List PyData}, Plain ds → PyData.depthAll ds ≤ 1
  | [], _ => Nat.zero_le _
  | x :: xs, h => by
    have h1 := (h x List.mem_cons_self).dp
    have h2 := Plain.depth fun z hz => h z (List.mem_cons_of_mem _ hz)
    simp only [PyData.depthAll]
    omega
theorem Plain.cost : ∀ {ds : List PyData}, Plain ds → costAll ds ≤ 1 + 144 * ds.length
  | [], _ => by decide
  | x :: xs, h => by
    have h1 := (h x List.mem_cons_self).c
    have h2 := Plain.cost fun z hz => h z (List.mem_cons_of_mem _ hz)
    simp only [costAll, List.length_cons]
    omega
theorem Plain.sub {ds es : List PyData} (h : Plain ds) (s : ∀ d ∈ es, d ∈ ds) : Plain es := fun d hd => h d (s d hd)
theorem Plain.take {ds : List PyData} (h : Plain ds) (n : Nat) : Plain (ds.take n) := h.sub fun _ g => List.mem_of_mem_take g
theorem Plain.drop {ds : List PyData} (h : Plain ds) (n : Nat) : Plain (ds.drop n) := h.sub fun _ g => List.mem_of_mem_drop g
theorem Plain.app {ds es : List PyData} (h : Plain ds) (g : Plain es) : Plain (ds ++ es) := fun d hd => (List.mem_append.mp hd).elim (h d) (g d)
theorem Plain.rep {ds : List PyData} (h : Plain ds) (n : Nat) : Plain (List.replicate n ds).flatten := fun x hx => by
  obtain ⟨m, hm, hx⟩ := List.mem_flatten.mp hx
  rw [(List.mem_replicate.mp hm).2] at hx
  exact h x hx
theorem plain_pd {l : List (Int × Int)} (h : Fair l) : Plain (l.map pd) := fun d hd => by
  obtain ⟨x, hx, rfl⟩ := List.mem_map.mp hd
  have g := h x hx
  refine ⟨rfl, rfl, ?_, by simp [pd, PyData.depth, PyData.depthAll], by simp only [pd, Gk.cost, costAll]; omega⟩
  simp only [pd, Gk.tame, tameAll, Bool.and_true, Bool.and_eq_true, decide_eq_true_eq]
  omega
theorem plain_bits {l : List Int} (h : ∀ o ∈ l, o = 0 ∨ o = 1) : Plain (l.map PyData.int) := fun d hd => by
  obtain ⟨x, hx, rfl⟩ := List.mem_map.mp hd
  have g := h x hx
  refine ⟨rfl, rfl, ?_, by simp [PyData.depth], by simp only [Gk.cost]; omega⟩
  simp only [Gk.tame, decide_eq_true_eq]
  omega
theorem Plain.fine {ds : List PyData} (h : Plain ds) (hl : ds.length ≤ 1000) : Fine (.tuple ds) := by
  have h1 := h.depth
  have h2 := h.cost
  refine Fine.tame (by simpa only [Gk.tame] using h.tame) ?_ ?_
  · simp only [PyData.depth]
    omega
  · simp only [Gk.cost]
    omega
theorem Plain.shaped {ds : List PyData} (h : Plain ds) : SeqAt.shaped (.tuple ds) = true := by
  have h1 := h.depth
  refine tame_shaped (by simpa only [Gk.tame] using h.tame) ?_
  simp only [PyData.depth]
  omega
def ItsAt (K : PySem.W.Frag) (H : Hp) (p : Addr) (ds : List PyData) : Prop := Dp K H (.ref p) (.tuple ds)
theorem ItsAt.keep {K : PySem.W.Frag} {H H' : Hp} {p : Addr} {ds : List PyData} (h : ItsAt K H p ds) (hp : Plain ds) (k : Keep K H H') : ItsAt K H' p ds :=
  Dp.keep k _ _ (by simpa only [Gk.tups] using hp.tups) h
theorem ItsAt.out {K : PySem.W.Frag} {H : Hp} {p : Addr} {ds : List PyData} (h : ItsAt K H p ds) : ∃ xs, SqT K H p xs ∧ DpAll K H xs ds ∧ xs.length = ds.length := by
  cases h with
  | tup a b => exact ⟨_, a, b, DpAll.len b⟩
theorem plain_eq {ds es : List PyData} (h : Plain ds) (g : Plain es) : PyData.eqv (.tuple ds) (.tuple es) = true ↔ ds = es :=
  ⟨fun e => PyData.tuple.inj (eqv_exa _ _ (by simpa only [Gk.exa] using h.exa) (by simpa only [Gk.exa] using g.exa) e), fun e => by
    rw [e]
    exact eqv_same (by simpa only [Gk.tame] using g.tame)⟩

/-! ### roots -/
def Rep {α : Type} (l : List α) (s : Nat) : Prop := (List.replicate (l.length / s) (l.take s)).flatten = l
structure RootIs {α : Type} (l : List α) (s : Nat) : Prop where
  lo : 1 ≤ s
  hi : s ≤ l.length
  rep : Rep l s
  least : ∀ t, 1 ≤ t → t < s → ¬ Rep l t
theorem flat_len {α : Type} (n : Nat) (l : List α) : ((List.replicate n l).flatten).length = n * l.length := by
  induction n with
  | zero => simp
  | succ n ih => rw [List.replicate_succ, List.flatten_cons, List.length_append, ih, Nat.succ_mul, Nat.add_comm]
theorem Rep.many {α : Type} {l : List α} {s : Nat} (h : Rep l s) (hs : s ≤ l.length) : s * (l.length / s) = l.length := by
  have e := congrArg List.length h
  rw [flat_len, List.length_take, Nat.min_eq_left hs, Nat.mul_comm] at e
  exact e
theorem RootIs.one {α : Type} {l : List α} {s t : Nat} (a : RootIs l s) (b : RootIs l t) : s = t := by
  by_cases h : s < t
  · exact absurd a.rep (b.least s a.lo h)
  · by_cases g : t < s
    · exact absurd b.rep (a.least t b.lo g)
    · omega
theorem rep_all {α : Type} {l : List α} (h : 1 ≤ l.length) : Rep l l.length := by
  unfold Rep
  rw [Nat.div_self h, List.take_length]
  show [l].flatten = l
  simp
theorem flat_mul {α : Type} (x : List α) (k : Nat) : ∀ m : Nat, (List.replicate m (List.replicate k x).flatten).flatten = (List.replicate (m * k) x).flatten
  | 0 => by simp
  | m + 1 => by
    rw [List.replicate_succ, List.flatten_cons, flat_mul x k m, Nat.succ_mul, Nat.add_comm (m * k) k, ← List.replicate_append_replicate, List.flatten_append]
theorem root_again {α : Type} {l : List α} {s t : Nat} (a : RootIs l s) (b : RootIs (l.take s) t) : t = s := by
  have hl : (l.take s).length = s := by rw [List.length_take]; exact Nat.min_eq_left a.hi
  have ht : t ≤ s := by have := b.hi; rwa [hl] at this
  by_cases h : t < s
  · refine absurd ?_ (a.least t b.lo h)
    have r1 := a.rep
    have r2 := b.rep
    have m1 := Rep.many a.rep a.hi
    have m2 := Rep.many b.rep b.hi
    rw [hl] at m2
    unfold Rep at r1 r2 ⊢
    rw [hl] at r2
    have e1 : l.length / t = l.length / s * (s / t) := by
      have : l.length = t * (l.length / s * (s / t)) := by
        have h2 : t * (s / t) * (l.length / s) = l.length := by
          rw [m2]
          exact m1
        rw [Nat.mul_comm (l.length / s) (s / t), ← Nat.mul_assoc]
        exact h2.symm
      exact Nat.div_eq_of_eq_mul_right b.lo this
    have e2 : (l.take s).take t = l.take t := by rw [List.take_take, Nat.min_eq_left ht]
    rw [e2] at r2
    rw [e1, ← flat_mul, r2, r1]
  · omega
/-! ### turned -/
def rot {α : Type} (l : List α) (k : Nat) : List α := l.drop k ++ l.take k
theorem rot_len {α : Type} (l : List α) (k : Nat) : (rot l k).length = l.length := by
  unfold rot
  rw [List.length_append, List.length_drop, List.length_take]
  omega
theorem rot_at {α : Type} {l : List α} {k i : Nat} (hk : k < l.length) (hi : i < l.length) : (rot l k)[i]? = l[(i + k) % l.length]? := by
  unfold rot
  by_cases h : i < l.length - k
  · rw [List.getElem?_append_left (by rw [List.length_drop]; exact h), List.getElem?_drop, Nat.mod_eq_of_lt (by omega), Nat.add_comm]
  · rw [List.getElem?_append_right (by rw [List.length_drop]; omega), List.length_drop, List.getElem?_take_of_lt (by omega)]
    have : (i + k) % l.length = i - (l.length - k) := by
      rw [Nat.mod_eq_sub_mod (by omega), Nat.mod_eq_of_lt (by omega)]
      omega
    rw [this]
theorem rot_back {α : Type} {l : List α} {j k : Nat} (hk : k < l.length) (h : (j = 0 ∧ k = 0) ∨ j + k = l.length) : rot (rot l k) j = l := by
  rcases h with ⟨rfl, rfl⟩ | h
  · unfold rot
    simp
  · have hj : (l.drop k).length = j := by rw [List.length_drop]; omega
    show (rot l k).drop j ++ (rot l k).take j = l
    unfold rot
    rw [← hj, List.drop_left, List.take_left, List.take_append_drop]
/-! ### rules whose written part is named -/
def rLen2 (K : PySem.W.Frag) : List V → Hp → VK → Prop := fun xs H Q => ∃ p ys, xs = [.ref p] ∧ (SqL K H p ys ∨ SqT K H p ys) ∧ Q (.int ys.length) H
theorem call_lenK {X : Cx} (K : PySem.W.Frag) (h : X.K = K := by rfl) : CallR X (.builtin "len") (rLen2 K) := by
  subst h
  exact call_len_seq
theorem ix_tupK {X : Cx} (K : PySem.W.Frag) (h : X.K = K := by rfl) : IxR X (rIxT K) := by
  subst h
  exact ix_tup
theorem ix_listK {X : Cx} (K : PySem.W.Frag) (h : X.K = K := by rfl) : IxR X (rIxL K) := by
  subst h
  exact ix_list
end Gk
namespace Gk
open PySem PySem.Spec PyProof.Rows L2
/-! ### values of any kind: data with lists and dicts, away from what changes -/
mutual
inductive Dv (M : Addr → Prop) (K : PySem.W.Frag) (H : Hp) : V → PyData → Prop
  | non : Dv M K H .non .none
  | bl (b : Bool) : Dv M K H (.bl b) (.bool b)
  | int (i : Int) : Dv M K H (.int i) (.int i)
  | str (x : Str) : Dv M K H (.str x) (.str x)
  | lst {a : Addr} {xs : List V} {ds : List PyData} : H a = some (.lst xs) → ¬ M a → (a == sysModules) = false → DvAll M K H xs ds → Dv M K H (.ref a) (.list ds)
  | tup {a : Addr} {xs : List V} {ds : List PyData} : Rd H a (.tup xs) → ¬ M a → DvAll M K H xs ds → Dv M K H (.ref a) (.tuple ds)
  | tupK {a : Addr} {xs : List V} {ds : List PyData} : (∃ (o : Obj) (its : Array Value) (n : Nat), K.lookup a = some o ∧ o.cls = .type "tuple" ∧ o.data = .seq its n ∧ its.size ≤ sizeLine ∧ Vals xs its.toList) → DvAll M K H xs ds → Dv M K H (.ref a) (.tuple ds)
  | dct {a : Addr} {kvs : List (Key × V)} {ks : List Str} {xs : List V} {ds : List PyData} : H a = some (.dK kvs) → ¬ M a → kvs = (ks.map Sum.inr).zip xs → ks.length = ds.length → DvAll M K H xs ds →
      Dv M K H (.ref a) (.dict ((ks.map PyData.str).zip ds))
inductive DvAll (M : Addr → Prop) (K : PySem.W.Frag) (H : Hp) : List V → List PyData → Prop
  | nil : DvAll M K H [] []
  | cons {v : V} {vs : List V} {d : PyData} {ds : List PyData} : Dv M K H v d → DvAll M K H vs ds → DvAll M K H (v :: vs) (d :: ds)
end
/-- what does not belong to M stays -/
def Off (M : Addr → Prop) (H H' : Hp) : Prop := ∀ a o, ¬ M a → H a = some o → H' a = some o
theorem Off.refl {M : Addr → Prop} {H : Hp} : Off M H H := fun _ _ _ h => h
theorem Off.trans {M : Addr → Prop} {H H1 H2 : Hp} (x : Off M H H1) (y : Off M H1 H2) : Off M H H2 := fun a o n h => y a o n (x a o n h)
theorem Off.same {M : Addr → Prop} {H H' : Hp} (s : Same H H') : Off M H H' := fun a o _ h => s a o h
theorem Off.but {M : Addr → Prop} {H H' : Hp} {b : Addr} (s : But b H H') (hb : M b) : Off M H H' := fun a o n h => s a o (fun z => n (by rw [z]; exact hb)) h
theorem Off.mut {M : Addr → Prop} {H : Hp} {D : Addr} {o : HO} (hb : M D) : Off M H (upd H D o) := fun a u n h => by
  rw [upd_ne (fun z => n (by rw [z]; exact hb))]
  exact h
theorem Off.rd {M : Addr → Prop} {H H' : Hp} {a : Addr} {o : HO} (k : Off M H H') (n : ¬ M a) (h : Rd H a o) : Rd H' a o := h.elim (fun h => .inl (k _ _ n h)) fun ⟨ob, h⟩ => .inr ⟨ob, k _ _ n h⟩
theorem rd_some {H : Hp} {a : Addr} {o : HO} (h : Rd H a o) : ∃ u, H a = some u := h.elim (fun h => ⟨_, h⟩) fun ⟨ob, h⟩ => ⟨_, h⟩
mutual
theorem Dv.keep {M M' : Addr → Prop} {K : PySem.W.Frag} {H H' : Hp} (k : Off M H H') (m : ∀ a o, H a = some o → ¬ M a → ¬ M' a) : ∀ {v : V} {d : PyData}, Dv M K H v d → Dv M' K H' v d
  | _, _, .non => .non
  | _, _, .bl b => .bl b
  | _, _, .int i => .int i
  | _, _, .str x => .str x
  | _, _, .lst h n s r => .lst (k _ _ n h) (m _ _ h n) s (DvAll.keep k m r)
  | _, _, .tup h n r => .tup (k.rd n h) (let ⟨_, e⟩ := rd_some h; m _ _ e n) (DvAll.keep k m r)
  | _, _, .tupK h r => .tupK h (DvAll.keep k m r)
  | _, _, .dct h n e l r => .dct (k _ _ n h) (m _ _ h n) e l (DvAll.keep k m r)
theorem DvAll.keep {M M' : Addr → Prop} {K : PySem.W.Frag} {H H' : Hp} (k : Off M H H') (m : ∀ a o, H a = some o → ¬ M a → ¬ M' a) : ∀ {vs : List V} {ds : List PyData}, DvAll M K H vs ds → DvAll M' K H' vs ds
  | _, _, .nil => .nil
  | _, _, .cons h t => .cons (Dv.keep k m h) (DvAll.keep k m t)
end
section
variable {M : Addr → Prop} {K : PySem.W.Frag} {H H' : Hp}
theorem Dv.off {v : V} {d : PyData} (h : Dv M K H v d) (k : Off M H H') : Dv M K H' v d := h.keep k fun _ _ _ n => n
theorem DvAll.off {vs : List V} {ds : List PyData} (h : DvAll M K H vs ds) (k : Off M H H') : DvAll M K H' vs ds := h.keep k fun _ _ _ n => n
theorem DvAll.len : ∀ {vs : List V} {ds : List PyData}, DvAll M K H vs ds → vs.length = ds.length
  | _, _, .nil => rfl
  | _, _, .cons _ t => by rw [List.length_cons, List.length_cons, DvAll.len t]
theorem DvAll.take : ∀ {vs : List V} {ds : List PyData} (n : Nat), DvAll M K H vs ds → DvAll M K H (vs.take n) (ds.take n)
  | _, _, 0, _ => .nil
  | _, _, _ + 1, .nil => .nil
  | _, _, n + 1, .cons h t => .cons h (DvAll.take n t)
theorem DvAll.drop : ∀ {vs : List V} {ds : List PyData} (n : Nat), DvAll M K H vs ds → DvAll M K H (vs.drop n) (ds.drop n)
  | _, _, 0, h => h
  | _, _, _ + 1, .nil => .nil
  | _, _, n + 1, .cons _ t => DvAll.drop n t
theorem DvAll.app : ∀ {vs us : List V} {ds es : List PyData}, DvAll M K H vs ds → DvAll M K H us es → DvAll M K H (vs ++ us) (ds ++ es)
  | _, _, _, _, .nil, h => h
  | _, _, _, _, .cons h t, h2 => .cons h (DvAll.app t h2)
theorem DvAll.rev : ∀ {vs : List V} {ds : List PyData}, DvAll M K H vs ds → DvAll M K H vs.reverse ds.reverse
  | _, _, .nil => .nil
  | _, _, .cons h t => by
    rw [List.reverse_cons, List.reverse_cons]
    exact DvAll.app (DvAll.rev t) (.cons h .nil)
theorem DvAll.at : ∀ {vs : List V} {ds : List PyData} {i : Nat} {v : V}, DvAll M K H vs ds → vs[i]? = some v → ∃ d, ds[i]? = some d ∧ Dv M K H v d
  | _, _, _, _, .nil, h => by simp at h
  | _, _, 0, _, .cons h _, e => by
    obtain rfl := Option.some.inj e
    exact ⟨_, rfl, h⟩
  | _, _, i + 1, _, .cons _ t, e => DvAll.at (i := i) t (by simpa using e)
end
/-- the keys and the values of a dict's entries, as they are read -/
theorem pairs_reads {P : Program} {w : World} {h : Heap} : ∀ {es : List DictEntry} {ks : List Str} {xs : List V} {vs : List (Key × Value)} {us : List Value}, ks.length = xs.length → KV ((ks.map Sum.inr).zip xs) vs → Pairs (mixKind P w) es vs →
    (∃ us, Vals xs us ∧ es.map (·.val) = us) ∧ ReadsAll h (es.map (·.key)) (ks.map PyData.str) []
  | es, [], [], vs, us, _, r, p => by
    cases r
    cases p
    exact ⟨⟨[], .nil, rfl⟩, .nil⟩
  | es, k :: ks, x :: xs, vs, us, l, r, p => by
    cases r with
    | cons r1 r2 =>
      cases p with
      | cons p1 p2 p3 =>
        obtain ⟨⟨us', v', e'⟩, rd⟩ := pairs_reads (us := []) (by simpa using l) r2 p3
        obtain ⟨r1a, r1b⟩ := r1
        refine ⟨⟨_ :: us', .cons r1b v', by rw [List.map_cons, e', p2]⟩, ?_⟩
        rw [← r1a] at p1
        have p1' : Value.isStrOf k _ = true := p1
        obtain ⟨t, et⟩ := Value.isStrOf_shape p1'
        rw [List.map_cons, List.map_cons, et]
        exact ReadsAll.cons (as := []) (bs := []) (Reads.str k t) rd
  | _, [], _ :: _, _, _, l, _, _ => by simp at l
  | _, _ :: _, [], _, _, l, _, _ => by simp at l
section
variable {X : Cx} {M : Addr → Prop} {pins : List (Addr × Obj)} {σ : L2.St} {H : Hp} {s : Shared}
mutual
theorem Dv.reads (I : Inv X pins σ H s) : ∀ {v : V} {d : PyData} {u : Value}, Dv M X.K H v d → RelV v u → ∃ as, Reads s.heap u d as ∧ sysModules ∉ as
  | _, _, u, .non, r => by cases r; exact ⟨[], .none, fun z => nomatch z⟩
  | _, _, u, .bl b, r => by cases r; exact ⟨[], .bool b, fun z => nomatch z⟩
  | _, _, u, .int i, r => by obtain ⟨t, rfl⟩ := r; exact ⟨[], .int i t, fun z => nomatch z⟩
  | _, _, u, .str x, r => by obtain ⟨t, rfl⟩ := r; exact ⟨[], .str x t, fun z => nomatch z⟩
  | _, _, u, .lst (a := a) h n sm ra, r => by
    cases r
    obtain ⟨hz, its, k, rv, ho⟩ := I.hok _ _ h
    obtain ⟨as, rd, na⟩ := DvAll.reads I ra rv
    refine ⟨a :: as, .list ho rfl rfl (by simpa using rd), fun z => ?_⟩
    rcases List.mem_cons.mp z with z | z
    · rw [z] at sm
      exact absurd sm (by simp)
    · exact na z
  | _, _, u, .tup h n ra, r => by
    cases r
    obtain ⟨its, rv, ⟨o, ho, hc, k, hd⟩, _⟩ := I.tuple (.inl h)
    obtain ⟨as, rd, na⟩ := DvAll.reads I ra rv
    exact ⟨as, .tuple ho hc hd (by simpa using rd), na⟩
  | _, _, u, .tupK h ra, r => by
    cases r
    obtain ⟨its, rv, ⟨o, ho, hc, k, hd⟩, _⟩ := I.tuple (.inr h)
    obtain ⟨as, rd, na⟩ := DvAll.reads I ra rv
    exact ⟨as, .tuple ho hc hd (by simpa using rd), na⟩
  | _, _, u, .dct (a := a) (ks := ks) (xs := xs) h n e l ra, r => by
    cases r
    obtain ⟨hz, sm, vs, kv, o, es, ep, ho, ex, hd, _, ps, _⟩ := I.hok _ _ h
    rw [e] at kv
    have hl := DvAll.len ra
    obtain ⟨⟨us, vu, eu⟩, rk⟩ := pairs_reads (P := X.prog) (w := X.w) (h := s.heap) (us := []) (l.trans hl.symm) kv ps
    obtain ⟨as, rd, na⟩ := DvAll.reads I ra vu
    rw [← eu] at rd
    refine ⟨a :: [] ++ as, .dict ho ex.1 hd ?_ ?_, fun z => ?_⟩
    · rw [List.map_fst_zip (by rw [List.length_map]; omega)]
      exact rk
    · rw [List.map_snd_zip (by rw [List.length_map]; omega)]
      exact rd
    · rcases List.mem_cons.mp z with z | z
      · rw [z] at sm
        exact absurd sm (by simp)
      · exact na z
theorem DvAll.reads (I : Inv X pins σ H s) : ∀ {vs : List V} {ds : List PyData} {us : List Value}, DvAll M X.K H vs ds → Vals vs us → ∃ as, ReadsAll s.heap us ds as ∧ sysModules ∉ as
  | _, _, _, .nil, r => by cases r; exact ⟨[], .nil, fun z => nomatch z⟩
  | _, _, _, .cons h t, r => by
    cases r with
    | cons r1 r2 =>
      obtain ⟨as, q1, n1⟩ := Dv.reads I h r1
      obtain ⟨bs, q2, n2⟩ := DvAll.reads I t r2
      exact ⟨as ++ bs, .cons q1 q2, fun z => (List.mem_append.mp z).elim n1 n2⟩
end
end
end Gk
namespace Gk
open PySem PySem.Spec PyProof.Rows L2
mutual
def fin : PyData → Nat → Bool
  | .none, _ | .bool _, _ => true
  | .int i, B => decide (i.natAbs ≤ B)
  | .str x, _ => x.cps.all (· < 0x110000)
  | .list xs, B | .tuple xs, B => finAll xs B
  | .dict kvs, B => finKv kvs B
def finAll : List PyData → Nat → Bool
  | [], _ => true
  | x :: xs, B => fin x B && finAll xs B
def finKv : List (PyData × PyData) → Nat → Bool
  | [], _ => true
  | (k, v) :: r, B => fin k B && fin v B && finKv r B
end
mutual
def big : PyData → Nat
  | .none | .bool _ | .int _ => 70
  | .str x => x.cps.size + 1
  | .list xs | .tuple xs => bigAll xs
  | .dict kvs => bigKv kvs
def bigAll : List PyData → Nat
  | [] => 1
  | x :: xs => big x + 1 + bigAll xs
def bigKv : List (PyData × PyData) → Nat
  | [] => 1
  | (k, v) :: r => big k + big v + 2 + bigKv r
end
mutual
theorem fin_facts {B : Nat} (hB : B < 10 ^ 20) : ∀ d : PyData, fin d B = true → d.showable = true ∧ d.leavesShort 21 = true ∧ d.weight ≤ big d
  | .none, _ => ⟨rfl, rfl, Nat.zero_le _⟩
  | .bool _, _ => ⟨rfl, rfl, Nat.zero_le _⟩
  | .int i, h => by
    simp only [fin, decide_eq_true_eq] at h
    have h1 := int_log20 (c := i) (by omega)
    have h2 := int_len20 (c := i) (by omega)
    refine ⟨?_, ?_, ?_⟩
    · simp only [PyData.showable]
      exact decide_eq_true (by omega)
    · simp only [PyData.leavesShort]
      exact decide_eq_true h2
    · simp only [PyData.weight, big]
      split <;> omega
  | .str x, h => by
    have h1 : tame (.str x) = true := by simpa only [fin, tame] using h
    exact ⟨rfl, tame_short _ h1, by simp only [PyData.weight, big]; omega⟩
  | .list xs, h => by
    have := fin_factsAll hB xs (by simpa only [fin] using h)
    simpa only [PyData.showable, PyData.leavesShort, PyData.weight, big] using this
  | .tuple xs, h => by
    have := fin_factsAll hB xs (by simpa only [fin] using h)
    simpa only [PyData.showable, PyData.leavesShort, PyData.weight, big] using this
  | .dict kvs, h => by
    have := fin_factsKv hB kvs (by simpa only [fin] using h)
    simpa only [PyData.showable, PyData.leavesShort, PyData.weight, big] using this
theorem fin_factsAll {B : Nat} (hB : B < 10 ^ 20) : ∀ ds : List PyData, finAll ds B = true → PyData.showableAll ds = true ∧ PyData.leavesShortAll 21 ds = true ∧ PyData.weightAll ds ≤ bigAll ds
  | [], _ => ⟨rfl, rfl, Nat.zero_le _⟩
  | x :: xs, h => by
    simp only [finAll, Bool.and_eq_true] at h
    obtain ⟨a1, a2, a3⟩ := fin_facts hB x h.1
    obtain ⟨b1, b2, b3⟩ := fin_factsAll hB xs h.2
    refine ⟨by simp only [PyData.showableAll, a1, b1, Bool.and_self], by simp only [PyData.leavesShortAll, a2, b2, Bool.and_self], ?_⟩
    simp only [PyData.weightAll, bigAll]
    omega
theorem fin_factsKv {B : Nat} (hB : B < 10 ^ 20) : ∀ kvs : List (PyData × PyData), finKv kvs B = true → PyData.showableKv kvs = true ∧ PyData.leavesShortKv 21 kvs = true ∧ PyData.weightKv kvs ≤ bigKv kvs
  | [], _ => ⟨rfl, rfl, Nat.zero_le _⟩
  | (k, v) :: r, h => by
    simp only [finKv, Bool.and_eq_true] at h
    obtain ⟨a1, a2, a3⟩ := fin_facts hB k h.1.1
    obtain ⟨c1, c2, c3⟩ := fin_facts hB v h.1.2
    obtain ⟨b1, b2, b3⟩ := fin_factsKv hB r h.2
    refine ⟨by simp only [PyData.showableKv, a1, b1, c1, Bool.and_self], by simp only [PyData.leavesShortKv, a2, b2, c2, Bool.and_self], ?_⟩
    simp only [PyData.weightKv, bigKv]
    omega
end
/-- data that may be shown, of any kind -/
structure Show (d : PyData) : Prop where
  a : d.showable = true
  c : d.depth ≤ 40
  e : d.shown.length ≤ sizeLine
theorem Show.of {d : PyData} {B : Nat} (hB : B < 10 ^ 20) (h : fin d B = true) (hd : d.depth ≤ 40) (hc : big d ≤ 500000) : Show d := by
  obtain ⟨a1, a2, a3⟩ := fin_facts hB d h
  refine ⟨a1, hd, ?_⟩
  have h1 := PyData.shown_le 21 (by decide) d a2
  have h3 : sizeLine = 16777216 := sizeLine_eq
  omega
theorem call_reprV {X : Cx} {k : Nat} (M : Addr → Prop) (hr : Room k X.A) (hg : X.A.guards = some []) : CallR X (.builtin "repr") (fun xs H Q => ∃ v d, xs = [v] ∧ Dv M X.K H v d ∧ Show d ∧ Q (.str d.shown) H) := by
  intro pins s σ H xs us Q I r h
  obtain ⟨v, d, rfl, hd, sh, q⟩ := h
  obtain ⟨u, rfl, ru⟩ := vals1 r
  have hun := hr.units
  have hc := sh.c
  obtain ⟨as, rd, na⟩ := Dv.reads I hd ru
  cases hd with
  | non =>
    cases ru
    exact PySem.P.repr_of_none ⟨.str _, H, I.tok _, ⟨_, rfl⟩, q⟩
  | bl b =>
    cases ru
    exact PySem.P.repr_of_bool ⟨.str _, H, I.tok _, ⟨_, rfl⟩, q⟩
  | int i =>
    obtain ⟨t, rfl⟩ := ru
    exact PySem.P.repr_of_int (of_decide_eq_true sh.a) ⟨.str _, H, I.tok _, ⟨_, rfl⟩, q⟩
  | str x =>
    obtain ⟨t, rfl⟩ := ru
    exact PySem.P.repr_of_str ⟨.str _, H, I.tok _, ⟨_, rfl⟩, q⟩ sh.e
  | lst _ _ _ _ =>
    cases ru
    exact repr_of_reads' rd sh.a (fun _ => na) hg (by omega) (fun _ _ e => e) (fun h' t tk hk => ⟨.str _, H, I.kept (t' := tk) hk, ⟨_, rfl⟩, q⟩) sh.e
  | tupK _ _ =>
    cases ru
    exact repr_of_reads' rd sh.a (fun _ => na) hg (by omega) (fun _ _ e => e) (fun h' t tk hk => ⟨.str _, H, I.kept (t' := tk) hk, ⟨_, rfl⟩, q⟩) sh.e
  | tup _ _ _ =>
    cases ru
    exact repr_of_reads' rd sh.a (fun _ => na) hg (by omega) (fun _ _ e => e) (fun h' t tk hk => ⟨.str _, H, I.kept (t' := tk) hk, ⟨_, rfl⟩, q⟩) sh.e
  | dct _ _ _ _ _ =>
    cases ru
    exact repr_of_reads' rd sh.a (fun _ => na) hg (by omega) (fun _ _ e => e) (fun h' t tk hk => ⟨.str _, H, I.kept (t' := tk) hk, ⟨_, rfl⟩, q⟩) sh.e
/-- a list of written items, its place told apart from the table of modules -/
def tLstN (t : TA) : TE := fun σ H Q => t σ H fun xs H1 => xs.length ≤ sizeLine ∧ ∀ p, H1 p = none → (p == sysModules) = false → Q (.ref p) (upd H1 p (.lst xs))
theorem not_modules {X : Cx} {pins : List (Addr × Obj)} {σ : L2.St} {H : Hp} {s : Shared} (I : Inv X pins σ H s) : (s.heap.objs.size == sysModules) = false := beq_eq_false_iff_ne.mpr (Nat.ne_of_gt I.big)
theorem pe_lstN {X : Cx} {es : List Expr} {t : TA} {pos : Pos} (h : PA X es t) : PE X (.List es pos) (tLstN t) :=
  ⟨fun pins s σ H Q I hq => wpAny_List_spliced (thn (h.run pos pins s σ H _ I hq) fun us s1 ⟨xs, H1, I1, r, z, q⟩ => ⟨by rw [← r.length]; exact z, .ref s1.heap.objs.size, upd H1 s1.heap.objs.size (.lst xs),
    I1.laid (t' := s1.toks) (fun b u e => Heap.get?_push_of_some _ e) (Nat.le_refl _) ⟨z, us, 0, r, Heap.get?_push_size _ rfl⟩, rfl, q _ (I1.hok.fresh (Nat.le_refl _)) (not_modules I1)⟩)⟩
/-- what isinstance says of such a value -/
def tyD : PyData → Value
  | .none => .type "NoneType"
  | .bool _ => .type "bool"
  | .int _ => .type "int"
  | .str _ => .type "str"
  | .list _ => .type "list"
  | .tuple _ => .type "tuple"
  | .dict _ => .type "dict"
theorem Dv.ty {M : Addr → Prop} {K : PySem.W.Frag} {H : Hp} {v : V} {d : PyData} (h : Dv M K H v d) : TyX K H v (tyD d) := by
  cases h with
  | non => exact .base .non
  | bl b => exact .base (.bl b)
  | int i => exact .base (.int i)
  | str x => exact .base (.str x)
  | lst h _ _ _ => exact .base (.lst h)
  | tup h _ _ =>
    rcases h with h | ⟨o, h⟩
    · exact .base (.tup h)
    · exact .fTuple h
  | tupK h _ =>
    obtain ⟨o, _, _, e, c, _⟩ := h
    exact .kTuple e c
  | dct h _ _ _ _ => exact .base (.dK h)
def isTup : PyData → Bool
  | .tuple _ => true
  | _ => false
def isIn : PyData → Bool
  | .int _ | .bool _ => true
  | _ => false
def isBo : PyData → Bool
  | .bool _ => true
  | _ => false
theorem kit_tup {K : PySem.W.Frag} (d : PyData) : PySem.W.kitOne K (tyD d) (.type "tuple") = some (isTup d) := by
  have t : ∀ x ∈ ["NoneType", "bool", "int", "str", "list", "dict"], kitB x "tuple" = some false := by decide +kernel
  cases d with
  | none => exact L2.kit_ty (t "NoneType" (by decide))
  | bool _ => exact L2.kit_ty (t "bool" (by decide))
  | int _ => exact L2.kit_ty (t "int" (by decide))
  | str _ => exact L2.kit_ty (t "str" (by decide))
  | list _ => exact L2.kit_ty (t "list" (by decide))
  | dict _ => exact L2.kit_ty (t "dict" (by decide))
  | tuple _ => exact L2.kit_ty (show kitB "tuple" "tuple" = some true by decide +kernel)
theorem kit_int {K : PySem.W.Frag} (d : PyData) : PySem.W.kitOne K (tyD d) (.type "int") = some (isIn d) := by
  have t : ∀ x ∈ ["NoneType", "str", "list", "tuple", "dict"], kitB x "int" = some false := by decide +kernel
  have u : ∀ x ∈ ["bool", "int"], kitB x "int" = some true := by decide +kernel
  cases d with
  | none => exact L2.kit_ty (t "NoneType" (by decide))
  | bool _ => exact L2.kit_ty (u "bool" (by decide))
  | int _ => exact L2.kit_ty (u "int" (by decide))
  | str _ => exact L2.kit_ty (t "str" (by decide))
  | list _ => exact L2.kit_ty (t "list" (by decide))
  | dict _ => exact L2.kit_ty (t "dict" (by decide))
  | tuple _ => exact L2.kit_ty (t "tuple" (by decide))
theorem kit_bool {K : PySem.W.Frag} (d : PyData) : PySem.W.kitOne K (tyD d) (.type "bool") = some (isBo d) := by
  have t : ∀ x ∈ ["NoneType", "int", "str", "list", "tuple", "dict"], kitB x "bool" = some false := by decide +kernel
  cases d with
  | none => exact L2.kit_ty (t "NoneType" (by decide))
  | int _ => exact L2.kit_ty (t "int" (by decide))
  | str _ => exact L2.kit_ty (t "str" (by decide))
  | list _ => exact L2.kit_ty (t "list" (by decide))
  | dict _ => exact L2.kit_ty (t "dict" (by decide))
  | tuple _ => exact L2.kit_ty (t "tuple" (by decide))
  | bool _ => exact L2.kit_ty (show kitB "bool" "bool" = some true by decide +kernel)
end Gk
namespace Gk
open PySem PySem.Spec PyProof.Rows L2
/-! ### expressions that make data -/
theorem same_new2 {H : Hp} {p : Addr} {o o' : HO} (h : H p = none) : Same H (upd (upd H p o) p o') := fun a u e => by
  rw [upd_ne (ne_of_none e h), upd_ne (ne_of_none e h)]; exact e
/-- what M speaks of stands on the heap -/
def Stands (M : Addr → Prop) (H : Hp) : Prop := ∀ a, M a → ∃ o, H a = some o
theorem Stands.same {M : Addr → Prop} {H H' : Hp} (h : Stands M H) (s : Same H H') : Stands M H' := fun a m => by
  obtain ⟨o, e⟩ := h a m
  exact ⟨o, s _ _ e⟩
theorem Stands.new {M : Addr → Prop} {H : Hp} {p : Addr} (h : Stands M H) (n : H p = none) : ¬ M p := fun m => by
  obtain ⟨o, e⟩ := h p m
  rw [n] at e; cases e
def Mk (M : Addr → Prop) (K : PySem.W.Frag) (t : TE) (σ : L2.St) (H0 : Hp) (d : PyData) : Prop :=
  ∀ (H : Hp) (M' : Addr → Prop) (Q : VK), Same H0 H → (∀ a, M a → M' a) → (∀ a, M' a → M a ∨ H0 a = none) → Stands M' H → (∀ v H', Same H H' → Dv M' K H' v d → Q v H') → t σ H Q
def MkA (M : Addr → Prop) (K : PySem.W.Frag) (t : TA) (σ : L2.St) (H0 : Hp) (ds : List PyData) : Prop :=
  ∀ (H : Hp) (M' : Addr → Prop) (Q : List V → Hp → Prop), Same H0 H → (∀ a, M a → M' a) → (∀ a, M' a → M a ∨ H0 a = none) → Stands M' H → (∀ vs H', Same H H' → DvAll M' K H' vs ds → Q vs H') → t σ H Q
theorem none_of {H H' : Hp} {p : Addr} (s : Same H H') (n : H' p = none) : H p = none := by
  cases e : H p with
  | none => rfl
  | some o => rw [s _ _ e] at n; cases n
section
variable {M : Addr → Prop} {K : PySem.W.Frag} {σ : L2.St} {H0 : Hp}
theorem mk_c {v : V} {d : PyData} (h : ∀ M H, Dv M K H v d) : Mk M K (tC v) σ H0 d := fun H M' Q s u w z q => q _ _ (Same.refl _) (h M' H)
theorem mk_int {i : Int} : Mk M K (tC (.int i)) σ H0 (.int i) := mk_c fun _ _ => .int i
theorem mk_str {x : Str} : Mk M K (tC (.str x)) σ H0 (.str x) := mk_c fun _ _ => .str x
theorem mk_non : Mk M K (tC .non) σ H0 .none := mk_c fun _ _ => .non
theorem mk_bl {b : Bool} : Mk M K (tC (.bl b)) σ H0 (.bool b) := mk_c fun _ _ => .bl b
theorem mk_neg {i : Int} : Mk M K (tUn (rU fun i => .int (-i)) (tC (.int i))) σ H0 (.int (-i)) := fun H M' Q s u w z q => ⟨_, rfl, q _ _ (Same.refl _) (.int _)⟩
theorem mk_pow {i j : Int} (c : CPow i j) : Mk M K (tOp (rI CPow fun i j => .int (i ^ j.toNat)) (tC (.int i)) (tC (.int j))) σ H0 (.int (i ^ j.toNat)) :=
  fun H M' Q s u w z q => ⟨_, _, rfl, rfl, c, q _ _ (Same.refl _) (.int _)⟩
theorem mk_var {i : Nat} {v : V} {d : PyData} (e : σ[i]? = some (some v)) (h : Dv M K H0 v d) : Mk M K (tVar i) σ H0 d := fun H M' Q s u w z q =>
  ⟨v, e, q _ _ (Same.refl _) (h.keep (Off.same s) fun a o ea na ma => (w a ma).elim na fun en => by rw [ea] at en; cases en)⟩
theorem mkA_nil : MkA M K tNil σ H0 [] := fun H M' Q s u w z q => q _ _ (Same.refl _) .nil
theorem mkA_cons {t : TE} {r : TA} {d : PyData} {ds : List PyData} (h : Mk M K t σ H0 d) (hr : MkA M K r σ H0 ds) : MkA M K (tCons t r) σ H0 (d :: ds) := fun H M' Q s u w z q =>
  h H M' _ s u w z fun v H1 s1 e1 => hr H1 M' _ (s.trans s1) u w (z.same s1) fun vs H2 s2 e2 => q _ _ (s1.trans s2) (.cons (e1.off (Off.same s2)) e2)
theorem mk_tup {t : TA} {ds : List PyData} (h : MkA M K t σ H0 ds) (l : ds.length ≤ 1000) : Mk M K (tTup t) σ H0 (.tuple ds) := fun H M' Q s u w z q =>
  h H M' _ s u w z fun vs H1 s1 e1 => ⟨by rw [e1.len, sizeLine_eq]; omega, fun p n => q _ _ (s1.trans (same_new n)) (.tup (.inl upd_same) ((z.same s1).new n) (e1.off (Off.same (same_new n))))⟩
theorem mk_lst {t : TA} {ds : List PyData} (h : MkA M K t σ H0 ds) (l : ds.length ≤ 1000) : Mk M K (tLstN t) σ H0 (.list ds) := fun H M' Q s u w z q =>
  h H M' _ s u w z fun vs H1 s1 e1 => ⟨by rw [e1.len, sizeLine_eq]; omega, fun p n y => q _ _ (s1.trans (same_new n)) (.lst upd_same ((z.same s1).new n) y (e1.off (Off.same (same_new n))))⟩
theorem mk_dct {t : TE} {k : Str} {d : PyData} (h : Mk M K t σ H0 d) : Mk M K (tDisp [(tC (.str k), t)]) σ H0 (.dict [(.str k, d)]) := fun H M' Q s u w z q => by
  intro p n
  show t σ _ _
  refine h _ (fun a => M' a ∨ a = p) _ (s.trans (same_new n)) (fun a ma => .inl (u a ma)) (fun a ma => ma.elim (w a) fun e => .inr (by rw [e]; exact none_of s n)) (fun a ma => ?_) fun v H1 s1 e1 => ?_
  · rcases ma with ma | rfl
    · obtain ⟨o, e⟩ := z a ma
      exact ⟨o, same_new n _ _ e⟩
    · exact ⟨_, upd_same⟩
  · have hp : H1 p = some (.dK []) := s1 _ _ upd_same
    have sm : Same H (upd H1 p (.dK [(Sum.inr k, v)])) := fun a o e => by
      rw [upd_ne (ne_of_none e n)]
      exact s1 _ _ (same_new n _ _ e)
    refine ⟨hp, [(Sum.inr k, v)], rfl, by show 1 ≤ 15; decide, q _ _ sm ?_⟩
    exact Dv.dct (ks := [k]) (xs := [v]) (ds := [d]) upd_same (z.new n) rfl rfl (.cons (e1.keep (Off.mut (.inr rfl)) fun a o _ na ma => na (.inl ma)) .nil)
theorem mk_dct0 : Mk M K tDNewK σ H0 (.dict []) := fun H M' Q s u w z q => by
  intro p n
  exact q _ _ (same_new n) (.dct (ks := []) (xs := []) (ds := []) upd_same (z.new n) rfl rfl .nil)
/-- a list of made things -/
theorem mk_some {t : TA} {ds : List PyData} {Q : VK} (h : MkA M K t σ H0 ds) (z : Stands M H0) (l : ds.length ≤ 1000) (q : ∀ p xs H', Same H0 H' → H0 p = none → H' p = some (.lst xs) → DvAll M K H' xs ds → xs.length = ds.length → Q (.ref p) H') : tLst t σ H0 Q :=
  h H0 M _ (Same.refl _) (fun _ m => m) (fun _ m => .inl m) z fun vs H1 s1 e1 => ⟨by rw [e1.len, sizeLine_eq]; omega, fun p n => q p vs _ (s1.trans (same_new n)) (none_of s1 n) upd_same (e1.off (Off.same (same_new n))) e1.len⟩
end
end Gk
namespace Gk
open PySem PySem.Spec PyProof.Rows L2
/-! ### sets of ints made by a comprehension -/
section
variable {X : Cx}
/-- {elt for target in iter}: D is the new set -/
def tSi (w : World) (src : TI) (g : TG) (te : TE) (own : List Nat) : TE := fun σ H Q => src σ H fun J G => ∀ D, G D = none → ∃ Stage : Nat → Nat → Hp → Prop,
  (∃ k, Stage 0 k (upd G D (L2.SetO w D (fun _ => false) 0))) ∧ ∀ i k G', Stage i k G' → (J.stop i G' ∧ Q (.ref D) G') ∨
    (J.go i G' ∧ ∃ After : Hp → Prop, (∀ G2, After G2 → ∃ j, j < k ∧ Stage (i + 1) j G2) ∧ ∀ x G2, J.yld i G' x G2 → g x (wipe σ own) G2 fun τ G3 => wipe τ own = wipe σ own ∧
      te τ G3 fun y G4 => ∃ (c : Int) (S : Int → Bool) (n : Nat), y = .int c ∧ G4 D = some (L2.SetO w D S n) ∧ n + 1 < scanBound ∧ After (upd G4 D (L2.SetO w D (fun j => S j || decide (j = c)) (if S c = true then n else n + 1))))
theorem pe_si {elt tg iter : Expr} {scope : Scope} {own : List (PySem.Str × Nat)} {pos : Pos} {src : TI} {g : TG} {te : TE} (calm : X.calm = true) (nd : X.N.Nodup) (walk : PI X tg iter src) (blk : BlkOk X.N X.env.scope scope own)
    (put : ∀ (s : Shared) (G : Hp) (C : Addr) (cl : List (PySem.Str × Addr)) (fp : List Addr), PG (X.blk s G scope (compEnvC scope cl C X.env) fp) tg g)
    (val : ∀ (s : Shared) (G : Hp) (C : Addr) (cl : List (PySem.Str × Addr)) (fp : List Addr), PE (X.blk s G scope (compEnvC scope cl C X.env) fp) elt te)
    (plain : ∀ x, foldedSetIterable iter X.env x = pure x := by intro _; rfl) : PE X (.SetComp elt [⟨tg, iter, [], 0⟩] scope pos) (tSi X.w src g te (own.map (·.2))) := by
  refine ⟨fun pins s σ H Q inv want => ?_⟩
  rw [PpSet.eval_SetComp]
  have free : ∀ y ∈ scope.names, y.2 = .free → ∃ c, X.env.cells.lookup y.1 = some c := fun y hy e =>
    (blk.free y hy e).elim (fun k => inv.ok.has _ (.inl k)) fun k => inv.ok.has _ (.inr k)
  refine wpAny_comprehension_free (use := none) rfl plain (closure_ok free) blk.kind (fun y hy e => by rw [blk.uniq y hy, e]) (thn (walk.run pins s σ H _ inv want) fun xv s1 got => thn got fun itv a have2 => ?_)
  obtain ⟨it, fp, tn, J, G, rfl, invA, T, stA, frA, go⟩ := have2
  refine PpSet.newSet_ok (newEnv_comp ?_)
  generalize eD : a.heap.objs.size = D
  have D0 : G D = none := invA.hok.fresh (Nat.le_of_eq eD)
  obtain ⟨Stage, ⟨k0, first⟩, turn⟩ := go D D0
  generalize eNew : ({ cls := .type "set", dict := none, data := .set #[] 0 (.fresh 0 0 (!X.w.params.followText "set-order")) } : Obj) = new
  generalize eB : ({ a with heap := a.heap.push new } : Shared) = b
  have hB : b.heap = a.heap.push new := by rw [← eB]
  have keepB : ∀ (c : Addr) (o : Obj), a.heap.get? c = some o → b.heap.get? c = some o := fun c o e => by rw [hB]; exact Heap.get?_push_of_some _ e
  have made : SetR X.w b.heap D (fun _ => false) 0 := by
    rw [hB, ← eNew, ← eD]
    exact setR_fresh X.w
  have invB : L2.Inv X pins σ (upd G D (L2.SetO X.w D (fun _ => false) 0)) b := by
    rw [← eB]
    refine invA.laid (t' := a.toks) (fun c o e => Heap.get?_push_of_some _ e) (Nat.le_of_eq eD) ?_
    have := L2.setO_new (P := X.prog) (H := upd G D (L2.SetO X.w D (fun _ => false) 0)) made
    rwa [hB] at this
  have small : ∀ c ∈ fp, c < a.heap.objs.size := fun c hc => let ⟨o, e, _⟩ := T.obj _ _ stA c hc; Heap.lt_size e
  have frB : ∀ c ∈ fp, FpOk X pins (upd G D (L2.SetO X.w D (fun _ => false) 0)) c ∧ c < b.heap.objs.size := fun c hc => by
    have lt := small c hc
    refine ⟨⟨?_, (frA c hc).2⟩, by rw [hB, Heap.size_push]; exact Nat.lt_succ_of_lt lt⟩
    rw [upd_ne (show c ≠ D by rw [← eD]; exact Nat.ne_of_lt lt)]
    exact (frA c hc).1
  have stB : tn 0 b.heap := T.keep _ _ _ stA fun c _ o e => keepB c o e
  generalize eG : upd G D (L2.SetO X.w D (fun _ => false) 0) = GB at first invB frB
  have invC := block_start invB blk nd frB
  have free0 : ∀ c ∈ fp, GB c = none := fun c hc => (frB c hc).1.1
  generalize eCl : cellsFrom (b.heap.objs.size + 1) scope.names (cloFrom X.env.cells scope.names []) = cl at invC
  have aim := put b GB b.heap.objs.size cl fp
  have made2 := val b GB b.heap.objs.size cl fp
  show codeAny (model X.prog X.w) X.A (.compStart (.SetComp elt [⟨tg, iter, [], 0⟩] scope pos) 0 (.ref it) (.ref D) (compEnvC scope cl b.heap.objs.size X.env)) (compPost (model X.prog X.w) X.A X.xe none (EP X pins σ Q) (.ref D) b.heap.objs.size) { b with heap := pushCells (b.heap.push { cls := .type "dict", data := .dict #[] }) scope.names }
  generalize eCe : compEnvC scope cl b.heap.objs.size X.env = ce at invC aim made2 ⊢
  have place : ce.locals = b.heap.objs.size := by rw [← eCe]; rfl
  generalize eC : ({ b with heap := pushCells (b.heap.push { cls := .type "dict", data := .dict #[] }) scope.names } : Shared) = c0 at invC ⊢
  have stC : tn 0 c0.heap := T.keep _ _ _ stB fun c _ o e => by
    rw [← eC]
    exact pushCells_keeps _ _ _ _ (Heap.get?_push_of_some _ e)
  have inside : ∀ {τ : L2.St} {G' : Hp} {s' : Shared}, L2.Inv (X.blk b GB scope ce fp) [] τ G' s' → (∀ c ∈ fp, G' c = none) → ∀ c ∈ fp, FpOk (X.blk b GB scope ce fp) [] G' c := fun {τ G' s'} inv' no c hc =>
    ⟨no c hc, (inv'.ok.exf c hc).1, inv'.ok.exfs c hc, .inl hc, fun x d e => (inv'.ok.exf c hc).2 x d e, fun p hp => absurd (show p ∈ ([] : List (Addr × Obj)) ++ [] from hp) (by simp)⟩
  have whole : codeAny (model X.prog X.w) X.A (.compLoop (.SetComp elt [⟨tg, iter, [], 0⟩] scope pos) 0 (.ref it) (.ref D) ce) (compPost (model X.prog X.w) X.A X.xe none (EP X pins σ Q) (.ref D) b.heap.objs.size) c0 := by
    refine PpSet.compLoopS_any (fun k s' => ∃ i G', L2.Inv (X.blk b GB scope ce fp) [] (wipe σ (own.map (·.2))) G' s' ∧ tn i s'.heap ∧ (∀ c ∈ fp, G' c = none) ∧ Stage i k G') (fun k s5 now => ?_) k0 ⟨0, GB, invC, stC, free0, first⟩
    obtain ⟨i, G5, inv5, st5, no5, stage⟩ := now
    rcases turn i k G5 stage with ⟨stop, fin⟩ | ⟨more, After, less, step⟩
    · refine thnF (T.done (X.blk b GB scope ce fp) rfl rfl rfl calm i [] s5 _ G5 (fun _ _ => False) inv5 (inside inv5 no5) st5 stop) fun r s6 ⟨hr, inv6⟩ => ?_
      subst hr
      have out := invB.call' (ch := fp) inv6.os inv6.base inv6.hok inv6.bare fun c hc => ⟨(frB c hc).1.2.2.2.1, (frB c hc).1.2.1, (frB c hc).1.2.2.2.2.1, (frB c hc).1.2.2.2.2.2⟩
      have nC : G5 b.heap.objs.size = none := by
        have z : G5 ce.locals = none := inv6.free
        rwa [place] at z
      obtain ⟨names, hm, _⟩ := inv6.loc
      have hm : s6.heap.Ns ce.locals names := hm
      rw [place] at hm
      obtain ⟨f0, f1, _, f3, f4, f5⟩ := invB.fpOk (Nat.le_refl _) nC
      exact ⟨names, hm, fun h2 sb => ⟨.ref D, G5, out.turned (t' := s6.toks) (fun c o hc e => (sb.2 c hc).trans e) f0 f1 f3 f4 f5, rfl, fin⟩⟩
    · refine thnF (T.item (X.blk b GB scope ce fp) rfl rfl rfl calm i [] s5 _ G5 (fun _ _ => False) inv5 (inside inv5 no5) st5 more) fun r s6 ⟨u, hr, h6⟩ => ?_
      subst hr
      refine thnF h6 fun _ s7 ⟨x, G7, inv7, rx, y7, st7, no7⟩ => ?_
      refine thnF (aim.run _ s7 _ G7 x u _ (inv7.pinned (inside inv7 no7) (T.obj _ _ st7)) rx (step x G7 y7)) fun _ s8 ⟨τ, G8, inv8, same8, q8⟩ => ?_
      show wpAny _ _ (pure true) _ _ s8
      refine wpAny_pure ?_
      simp only [if_true]
      refine thnF (made2.run _ s8 τ G8 _ inv8 q8) fun z s9 ⟨yv, G9, inv9, rz, c, S, n, ey, hD9, room, aft⟩ => ?_
      subst ey
      refine thnF (L2.mt_sadd (X := X.blk b GB scope ce fp) _ s9 τ G9 (.ref D) [.int c] (.ref D) [z] (fun _ G10 => After G10) inv9 rfl (.cons rz .nil) ⟨D, c, S, n, rfl, rfl, hD9, room, aft⟩) fun _ s10 ⟨_, G10, inv10, _, aft10⟩ => ?_
      obtain ⟨j, lt, stage2⟩ := less G10 aft10
      have pin : ∀ c ∈ fp, ∀ o, s7.heap.get? c = some o → s10.heap.get? c = some o ∧ G10 c = none := fun c hc o e =>
        let held := inv10.pin (c, o) (List.mem_append_right _ (List.mem_append_right _ (mem_pinsAt hc e)))
        ⟨held.1, held.2.1⟩
      refine ⟨j, lt, i + 1, G10, (inv10.unpinned (pins := [])).weak (by rw [← same8, wipe_length]) (fun q v e => ?_), T.keep _ _ _ st7 fun c hc o e => (pin c hc o e).1, fun c hc => ?_, stage2⟩
      · rw [← same8] at e
        exact (wipe_some e).1
      · obtain ⟨o, e, _⟩ := T.obj _ _ st7 c hc
        exact (pin c hc o e).2
  exact PpSet.codeAny_compStart_set whole (T.self X.A 0 _ _ _ stC whole)
end
end Gk
namespace Pf
open PySem PySem.Spec PyProof.Rows L2 Gk
theorem ps_dead {X : Cx} {st : Stmt} : PS X st (fun _ _ _ => False) := ⟨fun _ _ _ _ _ _ h => h.elim⟩
theorem bool_is : bootBuiltins "bool" = some (.type "bool") := by decide +kernel
theorem isi_is : PySem.bootBuiltins "isinstance" = some (.builtin "isinstance") := by decide +kernel
theorem pe_isi {X : Cx} {e : Expr} {te : TE} {T : Str} {n : String} {p p2 pos : Pos} (hg : Gl X "isinstance") (hm : X.mg "isinstance" = none) (he : PE X e te) (hT : Gl X T) (mT : X.mg T = none) (bT : bootBuiltins T = some (.type n)) (nT : T ≠ "__name__" := by decide) (dT : (T == ("__debug__" : Str)) = false := by decide)
    (h1 : starEach [e, .Name T p2] X.env = (false, eval e X.env) :: starEach [.Name T p2] X.env := by rfl) (h2 : starEach [.Name T p2] X.env = (false, eval (.Name T p2) X.env) :: starEach [] X.env := by rfl) (hpl : (backTo pos (starEach [.Name T p2] X.env)).any (·.1) = false := by rfl) :
    PE X (.Call (.Name "isinstance" p) [e, .Name T p2] [] pos) (tCB (rIsi X.K) (tCons te (tCons (tC (.ty n)) tNil))) :=
  pe_callB call_isi hg hm isi_is (pa_cons he (pa_cons (pe_bltn hT mT bT rfl nT dT) pa_nil h2) h1) (he := h1) (hpl := hpl)
/-- a set that a comprehension makes -/
theorem si_walk {w : World} {J : It} {n : Nat} {Gd : Hp → Prop} {Y : Nat → Hp → V → Hp → Prop} {g : TG} {te : TE} {vs : List Nat} {σ : L2.St} {H1 : Hp} {D : Addr} {Qd : Hp → Prop} (wk : Walk J n Gd Y) (Pv : Nat → Hp → Prop) (h0 : Pv 0 (upd H1 D (SetO w D (fun _ => false) 0))) (hg : ∀ i H, Pv i H → Gd H)
    (hs : ∀ i x H H', i < n → Pv i H → Y i H x H' → g x (wipe σ vs) H' fun τ G3 => wipe τ vs = wipe σ vs ∧ te τ G3 fun y G4 => ∃ (c : Int) (S : Int → Bool) (m : Nat), y = .int c ∧ G4 D = some (SetO w D S m) ∧ m + 1 < scanBound ∧ Pv (i + 1) (upd G4 D (SetO w D (fun j => S j || decide (j = c)) (if S c = true then m else m + 1))))
    (hd : ∀ H, Pv n H → Qd H) : ∃ Stage : Nat → Nat → Hp → Prop, (∃ k, Stage 0 k (upd H1 D (SetO w D (fun _ => false) 0))) ∧ ∀ i k G', Stage i k G' → (J.stop i G' ∧ Qd G') ∨
    (J.go i G' ∧ ∃ After : Hp → Prop, (∀ G2, After G2 → ∃ j, j < k ∧ Stage (i + 1) j G2) ∧ ∀ x G2, J.yld i G' x G2 → g x (wipe σ vs) G2 fun τ G3 => wipe τ vs = wipe σ vs ∧
      te τ G3 fun y G4 => ∃ (c : Int) (S : Int → Bool) (m : Nat), y = .int c ∧ G4 D = some (SetO w D S m) ∧ m + 1 < scanBound ∧ After (upd G4 D (SetO w D (fun j => S j || decide (j = c)) (if S c = true then m else m + 1)))) := by
  refine ⟨fun i k G => k = n - i ∧ i ≤ n ∧ Pv i G, ⟨n, by simp, Nat.zero_le _, h0⟩, ?_⟩
  rintro i k G ⟨rfl, hi, p⟩
  by_cases lt : i < n
  · exact .inr ⟨wk.goes i G lt (hg i G p), Pv (i + 1), fun G2 p2 => ⟨n - (i + 1), by omega, rfl, lt, p2⟩, fun x G2 y => hs i x G G2 lt p (wk.yields i G x G2 lt (hg i G p) y)⟩
  · have e : i = n := by omega
    subst e
    exact .inl ⟨wk.stops G (hg i G p), hd G p⟩
end Pf
namespace Pf
open PySem PySem.Spec PyProof.Rows L2 Gk
abbrev nBrs : List Str := ["trace", "branch", "outcome"]
abbrev nOuts : List Str := ["trace", "branch", "outcome", "other"]
abbrev nAll : List Str := ["trace", "outcome", "branch"]
abbrev nTimes : List Str := ["pairs", "branch", "other", "outcome"]
/-- how many of the branches from 0 to 7 are in the set -/
def eight (S : Int → Bool) : Nat := (S 0).toNat + (S 1).toNat + (S 2).toNat + (S 3).toNat + (S 4).toNat + (S 5).toNat + (S 6).toNat + (S 7).toNat
theorem eight_le (S : Int → Bool) : eight S ≤ 8 := by
  have h : ∀ b : Bool, b.toNat ≤ 1 := fun b => by cases b <;> decide
  unfold eight
  have := h (S 0); have := h (S 1); have := h (S 2); have := h (S 3); have := h (S 4); have := h (S 5); have := h (S 6); have := h (S 7)
  omega
theorem eight_add {S : Int → Bool} {c : Int} (h0 : 0 ≤ c) (h1 : c ≤ 7) : eight (fun j => S j || decide (j = c)) = if S c = true then eight S else eight S + 1 := by
  have : c = 0 ∨ c = 1 ∨ c = 2 ∨ c = 3 ∨ c = 4 ∨ c = 5 ∨ c = 6 ∨ c = 7 := by omega
  rcases this with rfl | rfl | rfl | rfl | rfl | rfl | rfl | rfl
  · cases e : S 0 <;> simp [eight, e]; omega
  · cases e : S 1 <;> simp [eight, e]; omega
  · cases e : S 2 <;> simp [eight, e]; omega
  · cases e : S 3 <;> simp [eight, e]; omega
  · cases e : S 4 <;> simp [eight, e]; omega
  · cases e : S 5 <;> simp [eight, e]; omega
  · cases e : S 6 <;> simp [eight, e]; omega
  · cases e : S 7 <;> simp [eight, e]
/-- the outcomes of a branch -/
def outs (b : Int) (l : List (Int × Int)) : List Int := (l.filter fun x => decide (x.1 = b)).map (·.2)
theorem outs_take {b : Int} {l : List (Int × Int)} {i : Nat} {x : Int × Int} (h : l[i]? = some x) : outs b (l.take (i + 1)) = outs b (l.take i) ++ (if x.1 = b then [x.2] else []) := by
  unfold outs
  rw [List.take_add_one, h, List.filter_append, List.map_append]
  congr 1
  by_cases e : x.1 = b
  · simp [e]
  · simp [e]
theorem outs_len (b : Int) (l : List (Int × Int)) : (outs b l).length ≤ l.length := by
  unfold outs
  rw [List.length_map]
  exact List.length_filter_le _ _
theorem outs_bits {b : Int} {l : List (Int × Int)} (h : Fair l) : Bits (outs b l) := fun o ho => by
  unfold outs at ho
  obtain ⟨x, hx, rfl⟩ := List.mem_map.mp ho
  exact (h x (List.mem_filter.mp hx).1).2
theorem pd_at {K : PySem.W.Frag} {H : Hp} {xs : List V} {l : List (Int × Int)} (hA : DpAll K H xs (l.map pd)) {i : Nat} {v : V} (hv : xs[i]? = some v) : ∃ x a, l[i]? = some x ∧ v = .ref a ∧ SqT K H a [.int x.1, .int x.2] := by
  have hi : i < l.length := by
    have := (List.getElem?_eq_some_iff.mp hv).1
    rwa [lc_len hA] at this
  have g : (l.map pd)[i]? = some (pd l[i]) := by rw [List.getElem?_map, List.getElem?_eq_getElem hi]; rfl
  obtain ⟨a, rfl, s⟩ := pair_at (DpAll.at hA hv g)
  exact ⟨l[i], a, List.getElem?_eq_getElem hi, rfl, s⟩
theorem PairsAt.out {K : PySem.W.Frag} {H : Hp} {t : Addr} {l : List (Int × Int)} (h : PairsAt K H t l) : ∃ xs, SqT K H t xs ∧ DpAll K H xs (l.map pd) ∧ xs.length = l.length := by
  obtain ⟨xs, a, b, c⟩ := ItsAt.out h
  exact ⟨xs, a, b, by rw [c, List.length_map]⟩
section
variable {P : Program} {w : World} {K : PySem.W.Frag} {mg : Str → Option Value} {base : Heap}
def spBrs (K : PySem.W.Frag) : Sp := fun vs H Q _ => ∃ (t : Addr) (l : List (Int × Int)), vs = [.ref t] ∧ PairsAt K H t l ∧ Fair l ∧
  ∀ H' p (bs : List Int), Same H H' → SqT K H' p (bs.map V.int) → bs.Pairwise (· < ·) → (∀ k, k ∈ bs ↔ ∃ x ∈ l, x.1 = k) → Q (.ref p) H'
/-- the outcomes of a branch of the trace -/
def spOuts (K : PySem.W.Frag) : Sp := fun vs H Q _ => ∃ (t : Addr) (l : List (Int × Int)) (b : Int), vs = [.ref t, .int b] ∧ PairsAt K H t l ∧ Fair l ∧ l.length ≤ 64 ∧ (∃ x ∈ l, x.1 = b) ∧ ∀ H' p, Same H H' → SqT K H' p ((outs b l).map V.int) → Q (.ref p) H'
def spAll (K : PySem.W.Frag) : Sp := fun vs H Q _ => ∃ (t : Addr) (l : List (Int × Int)), vs = [.ref t] ∧ PairsAt K H t l ∧ l.length ≤ 64 ∧ ∀ H' p, Same H H' → SqT K H' p ((l.map (·.2)).map V.int) → Q (.ref p) H'
def spTimes (K : PySem.W.Frag) : Sp := fun vs H Q _ => ∃ (t : Addr) (l : List (Int × Int)) (b : Int), vs = [.ref t, .int b] ∧ PairsAt K H t l ∧ l.length ≤ 64 ∧ ∀ H', Same H H' → Q (.int (outs b l).length) H'
end
end Pf
namespace Fold
/-- a number by its digits, the lowest one first -/
def num : List Bool → Nat
  | [] => 0
  | b :: r => b.toNat + 2 * num r
/-- the digits at their places, modulo w -/
def zig (w : Nat) : Nat → List Bool → Nat
  | _, [] => 0
  | k, b :: r => (if b then 2 ^ (k % w) else 0) ^^^ zig w (k + 1) r
/-- the pieces of a number -/
def pie (w : Nat) : Nat → Nat → Nat
  | 0, _ => 0
  | f + 1, n => (n % 2 ^ w) ^^^ pie w f (n / 2 ^ w)

theorem num_lt : ∀ l : List Bool, num l < 2 ^ l.length
  | [] => by decide
  | b :: r => by
    have h := num_lt r
    have hb : b.toNat ≤ 1 := by cases b <;> decide
    rw [List.length_cons, Nat.pow_succ]
    show b.toNat + 2 * num r < _
    omega
theorem zig_app (w : Nat) : ∀ (a b : List Bool) (k : Nat), zig w k (a ++ b) = zig w k a ^^^ zig w (k + a.length) b
  | [], b, k => by simp [zig]
  | c :: a, b, k => by
    show (if c then 2 ^ (k % w) else 0) ^^^ zig w (k + 1) (a ++ b) = ((if c then 2 ^ (k % w) else 0) ^^^ zig w (k + 1) a) ^^^ zig w (k + (a.length + 1)) b
    rw [zig_app w a b (k + 1), Nat.xor_assoc, show k + 1 + a.length = k + (a.length + 1) by omega]
theorem zig_shift (w : Nat) (hw : 0 < w) : ∀ (l : List Bool) (k : Nat), zig w (k + w) l = zig w k l
  | [], _ => rfl
  | b :: r, k => by
    show (if b then 2 ^ ((k + w) % w) else 0) ^^^ zig w (k + w + 1) r = (if b then 2 ^ (k % w) else 0) ^^^ zig w (k + 1) r
    rw [Nat.add_mod_right, show k + w + 1 = (k + 1) + w by omega, zig_shift w hw r (k + 1)]
/-- few digits: the number itself -/
theorem zig_few (w : Nat) : ∀ (l : List Bool) (k : Nat), k + l.length ≤ w → zig w k l = 2 ^ k * num l
  | [], k, _ => by simp [zig, num]
  | b :: r, k, h => by
    rw [List.length_cons] at h
    have ih := zig_few w r (k + 1) (by omega)
    show (if b then 2 ^ (k % w) else 0) ^^^ zig w (k + 1) r = 2 ^ k * (b.toNat + 2 * num r)
    rw [ih, Nat.mod_eq_of_lt (show k < w by omega)]
    cases b with
    | false =>
      show 0 ^^^ 2 ^ (k + 1) * num r = 2 ^ k * (0 + 2 * num r)
      rw [Nat.zero_xor, Nat.zero_add, Nat.pow_succ, Nat.mul_assoc]
    | true =>
      show 2 ^ k ^^^ 2 ^ (k + 1) * num r = 2 ^ k * (1 + 2 * num r)
      have e1 : 2 ^ (k + 1) * num r = 2 ^ k * (2 * num r) := by rw [Nat.pow_succ, Nat.mul_assoc]
      rw [e1, Nat.mul_add, Nat.mul_one]
      apply Nat.eq_of_testBit_eq
      intro j
      have e2 : 2 ^ k + 2 ^ k * (2 * num r) = 2 ^ k * (1 + 2 * num r) + 0 := by rw [Nat.mul_add, Nat.mul_one, Nat.add_zero]
      rw [e2, Nat.testBit_xor, Nat.testBit_two_pow_mul_add _ (Nat.two_pow_pos k)]
      have e3 : 2 ^ k * (2 * num r) = 2 ^ k * (2 * num r) + 0 := (Nat.add_zero _).symm
      rw [e3, Nat.testBit_two_pow_mul_add _ (Nat.two_pow_pos k)]
      by_cases hj : j < k
      · rw [if_pos hj, if_pos hj, Nat.testBit_two_pow]
        have : ¬ k = j := by omega
        simp [this]
      · rw [if_neg hj, if_neg hj, Nat.testBit_two_pow]
        by_cases e : k = j
        · subst e
          rw [Nat.sub_self]
          simp [Nat.testBit_zero, Nat.add_mod]
        · obtain ⟨m, hm⟩ : ∃ m, j - k = m + 1 := ⟨j - k - 1, by omega⟩
          rw [hm, Nat.testBit_succ, Nat.testBit_succ]
          have a1 : (2 * num r) / 2 = num r := by omega
          have a2 : (1 + 2 * num r) / 2 = num r := by omega
          rw [a1, a2]
          simp [e]
theorem num_app : ∀ a b : List Bool, num (a ++ b) = num a + 2 ^ a.length * num b
  | [], b => by simp [num]
  | c :: a, b => by
    show c.toNat + 2 * num (a ++ b) = c.toNat + 2 * num a + 2 ^ (a.length + 1) * num b
    rw [num_app a b, Nat.pow_succ, Nat.mul_add, Nat.add_assoc, Nat.mul_comm (2 ^ a.length) 2, Nat.mul_assoc]
theorem pie_zig (w : Nat) (hw : 0 < w) : ∀ (f : Nat) (l : List Bool), l.length ≤ f → pie w f (num l) = zig w 0 l
  | 0, l, h => by
    cases l with
    | nil => rfl
    | cons b r => simp at h
  | f + 1, l, h => by
    show (num l % 2 ^ w) ^^^ pie w f (num l / 2 ^ w) = _
    by_cases hl : l.length ≤ w
    · have h1 : num l < 2 ^ w := Nat.lt_of_lt_of_le (num_lt l) (Nat.pow_le_pow_right (by decide) hl)
      rw [Nat.mod_eq_of_lt h1, Nat.div_eq_of_lt h1, zig_few w l 0 (by omega), Nat.pow_zero, Nat.one_mul]
      have := pie_zig w hw f [] (Nat.zero_le _)
      rw [show pie w f 0 = 0 from this, Nat.xor_zero]
    · have e : l = l.take w ++ l.drop w := (List.take_append_drop w l).symm
      have ht : (l.take w).length = w := by rw [List.length_take]; omega
      have hn : num l = num (l.take w) + 2 ^ w * num (l.drop w) := by
        conv => lhs; rw [e, num_app, ht]
      have h1 : num (l.take w) < 2 ^ w := by have := num_lt (l.take w); rwa [ht] at this
      have hm : num l % 2 ^ w = num (l.take w) := by rw [hn, Nat.add_mul_mod_self_left, Nat.mod_eq_of_lt h1]
      have hd : num l / 2 ^ w = num (l.drop w) := by rw [hn, Nat.add_mul_div_left _ _ (Nat.two_pow_pos w), Nat.div_eq_of_lt h1, Nat.zero_add]
      rw [hm, hd, pie_zig w hw f (l.drop w) (by rw [List.length_drop]; omega)]
      conv => rhs; rw [e, zig_app, ht, zig_shift w hw (l.drop w) 0, zig_few w (l.take w) 0 (by omega), Nat.pow_zero, Nat.one_mul]
theorem pie_zero (w : Nat) : ∀ f, pie w f 0 = 0
  | 0 => rfl
  | f + 1 => by
    show 0 % 2 ^ w ^^^ pie w f (0 / 2 ^ w) = 0
    rw [Nat.zero_mod, Nat.zero_div, pie_zero w f]
    rfl
theorem pie_lt (w : Nat) : ∀ f n, pie w f n < 2 ^ w
  | 0, _ => Nat.two_pow_pos w
  | f + 1, n => Nat.xor_lt_two_pow (Nat.mod_lt _ (Nat.two_pow_pos w)) (pie_lt w f _)
theorem zig_lt (w : Nat) (hw : 0 < w) : ∀ (l : List Bool) k, zig w k l < 2 ^ w
  | [], _ => Nat.two_pow_pos w
  | b :: r, k => Nat.xor_lt_two_pow (by
      cases b with
      | false => exact Nat.two_pow_pos w
      | true => exact Nat.pow_lt_pow_right (by decide) (Nat.mod_lt _ hw)) (zig_lt w hw r (k + 1))
/-- the sum of the powers at the places where a number below 2 ^ w has a digit 1 -/
def ones (x : Nat) : Nat → Nat
  | 0 => 0
  | w + 1 => ones x w + (if x.testBit w then 2 ^ w else 0)
theorem ones_eq (x : Nat) : ∀ w, ones x w = x % 2 ^ w
  | 0 => by simp [ones, Nat.mod_one]
  | w + 1 => by
    show ones x w + (if x.testBit w then 2 ^ w else 0) = _
    rw [ones_eq x w, Nat.mod_pow_succ, Nat.testBit_eq_decide_div_mod_eq]
    have h : x / 2 ^ w % 2 = 0 ∨ x / 2 ^ w % 2 = 1 := by omega
    rcases h with h | h <;> simp [h]
end Fold
namespace Pf
open PySem PySem.Spec PyProof.Rows L2 Gk Fold
abbrev sFold : Stmt := topS 5
abbrev sBin : Stmt := topS 9
theorem scFold : FnScope ["history", "bits", "branch", "size", "number", "cell", "piece"] ["history", "bits", "branch"] (defScope sFold) := ⟨rfl, rfl, rfl, by decide +kernel, rfl, by decide +kernel, by decide +kernel⟩
theorem scBin : FnScope ["history", "number", "digit"] ["history"] (defScope sBin) := ⟨rfl, rfl, rfl, by decide +kernel, rfl, by decide +kernel, by decide +kernel⟩
/-- a history: its digits, the oldest one first -/
def sgn (b : Bool) : Nat := if b then 49 else 48
def txt (l : List Bool) : Str := ⟨(l.map sgn).toArray⟩
theorem txt_size (l : List Bool) : (txt l).cps.size = l.length := by
  show (l.map sgn).toArray.size = _
  rw [List.size_toArray, List.length_map]
theorem txt_at {l : List Bool} {i c : Nat} (h : (txt l).cps[i]? = some c) : ∃ b, l[i]? = some b ∧ c = sgn b := by
  have h' : (l.map sgn).toArray[i]? = some c := h
  rw [List.getElem?_toArray, List.getElem?_map] at h'
  cases e : l[i]? with
  | none => rw [e] at h'; cases h'
  | some b => rw [e] at h'; exact ⟨b, rfl, (Option.some.inj h').symm⟩
theorem int_sgn (b : Bool) : PySem.intText? ⟨#[sgn b]⟩ = some ((b.toNat : Nat) : Int) := by
  cases b <;> decide +kernel
section
variable {P : Program} {w : World} {K : PySem.W.Frag} {mg : Str → Option Value} {base : Heap}
def spBin : Sp := fun vs H Q _ => ∃ l : List Bool, vs = [.str (txt l)] ∧ Q (.int ((num l.reverse : Nat) : Int)) H
theorem ok_bin {f : Addr} {fd : FuncData} (mi : mg "int" = none) (F : L2.Fun K "_binary" "_binary" sBin f fd) : FnOk P w K mg base L2.CX0 1 f fd ["history"] spBin := by
  refine F.ok scBin (fun vs H Q E h => ?_) (fun cdv A outer s H vs Q E hr h => ?_)
  · obtain ⟨l, rfl, _⟩ := h
    rfl
  · obtain ⟨l, rfl, q⟩ := h
    refine ⟨_, pss_cons (ps_set (i := 1) scBin.nd rfl (.inl rfl) pe_int)
      (pss_cons (ps_for PassesOwn.never rfl (pi_str (pv 0)) (pg_name (i := 2) scBin.nd rfl (.inl rfl))
        (pss_one (ps_set (i := 1) scBin.nd rfl (.inl rfl) (pe_op op_add (pe_op op_mul pe_int (pv 1)) (pe_callTy call_int_str (by rfl) mi (by decide +kernel) (pa_cons (pv 2) pa_nil))))))
      (pss_one (ps_ret (pv 1)))), ?_⟩
    refine ⟨_, rfl, txt l, rfl, for_it walk_str (fun i σ H' => H' = H ∧ ∃ y, σ = [some (.str (txt l)), some (.int ((num (l.take i).reverse : Nat) : Int)), y]) ⟨rfl, none, rfl⟩ (fun _ _ _ _ _ => trivial) (fun i x σ H1 H2 hi hp hy => ?_) (fun σ H1 hp => ?_)⟩
    · obtain ⟨rfl, y, rfl⟩ := hp
      obtain ⟨rfl, c, hc, rfl⟩ := hy
      obtain ⟨b, hb, rfl⟩ := txt_at hc
      refine ⟨_, rfl, _, _, rfl, rfl, .inl ⟨by decide, by decide⟩, _, rfl, ⟨#[sgn b]⟩, ((b.toNat : Nat) : Int), rfl, int_sgn b, by show 1 ≤ 640; decide, _, _, rfl, rfl, rfl, some (.str ⟨#[sgn b]⟩), ?_⟩
      rw [List.take_add_one, hb]
      show _ = [some (V.str (txt l)), some (V.int ((num (l.take i ++ [b]).reverse : Nat) : Int)), some (V.str ⟨#[sgn b]⟩)]
      rw [List.reverse_append]
      have e : num ([b].reverse ++ (l.take i).reverse) = b.toNat + 2 * num (l.take i).reverse := rfl
      rw [e]
      have e2 : 2 * ((num (l.take i).reverse : Nat) : Int) + ((b.toNat : Nat) : Int) = ((b.toNat + 2 * num (l.take i).reverse : Nat) : Int) := by omega
      rw [← e2]
      rfl
    · obtain ⟨rfl, y, rfl⟩ := hp
      rw [txt_size, List.take_length]
      exact ⟨_, rfl, q⟩
/-- what a folded history is -/
def fol (l : List Bool) (n b : Nat) : Nat := if n = 0 then 0 else (b % 2 ^ n) ^^^ zig n 0 l.reverse
def spFold : Sp := fun vs H Q _ => ∃ (l : List Bool) (n b : Nat), vs = [.str (txt l), .int (n : Int), .int (b : Int)] ∧ l.length ≤ 64 ∧ n ≤ 16 ∧ b < 8 ∧ ∀ H', Same H H' → Q (.int ((fol l n b : Nat) : Int)) H'
theorem ok_fold {f : Addr} {fd : FuncData} (D : Dfn P w K mg base 1 "_binary" ["history"] spBin) (md : mg "divmod" = none) (F : L2.Fun K "fold" "fold" sFold f fd) : FnOk P w K mg base L2.CX0 2 f fd ["history", "bits", "branch"] spFold := by
  refine F.ok scFold (fun vs H Q E h => ?_) (fun cdv A outer s H vs Q E hr h => ?_)
  · obtain ⟨l, n, b, rfl, _⟩ := h
    rfl
  · obtain ⟨l, n, b, rfl, hl, hn, hb, q⟩ := h
    refine ⟨_, pss_cons (ps_if (pt_cmpR op_lt (pv 1) pe_int (nomark _)) (pss_one (ps_ret pe_int)) pss_nil)
      (pss_cons (ps_set (i := 3) scFold.nd rfl (.inl rfl) (pe_op op_oneShl pe_int (pv 1)))
      (pss_cons (ps_set (i := 4) scFold.nd rfl (.inl rfl) (pe_d D hr (by decide) (by rfl) (pa_cons (pv 0) pa_nil)))
      (pss_cons (ps_set (i := 5) scFold.nd rfl (.inl rfl) (pe_op op_mod (pv 2) (pv 3)))
      (pss_cons (ps_while PassesOwn.never (pt_cmpR op_gt (pv 4) pe_int (nomark _))
        (pss_cons (ps_asg (pe_callB call_divmod (by rfl) md (by decide +kernel) (pa_cons (pv 4) (pa_cons (pv 3) pa_nil))) (pg_tup (by rfl) (pgs_cons (pg_name (i := 4) scFold.nd rfl (.inl rfl)) (pgs_cons (pg_name (i := 6) scFold.nd rfl (.inl rfl)) pgs_nil))))
        (pss_one (ps_set (i := 5) scFold.nd rfl (.inl rfl) (pe_op op_xor (pv 5) (pv 6))))))
      (pss_one (ps_ret (pv 5))))))), ?_⟩
    refine ⟨.int n, rfl, _, _, rfl, rfl, _, rfl, ite2 (fun e => ?_) (fun e => ?_)⟩
    · have h0 : (n : Int) < 1 := of_decide_eq_true e
      have : n = 0 := by omega
      subst this
      exact q H (Same.refl H)
    · have h1 : 0 < n := by
        have := mt decide_eq_true e
        omega
      have hp : (0 : Int) < 2 ^ n := Int.pow_pos (by decide)
      have hs : (2 : Int) ^ n ≤ 65536 := by
        have h2 := Nat.pow_le_pow_right (show 0 < 2 by decide) hn
        have h3 : (2 : Int) ^ n = ((2 ^ n : Nat) : Int) := by
          rw [Int.natCast_pow]
          rfl
        omega
      refine ⟨.int n, rfl, n, rfl, rfl, by omega, .str (txt l), rfl, l, rfl, .int b, rfl, .int (2 ^ n), rfl, _, _, rfl, rfl, hp, ?_⟩
      refine while_by (fun σ H' => Same H H' ∧ ∃ (f x c : Nat) (y : Option V), σ = [some (.str (txt l)), some (.int n), some (.int b), some (.int (2 ^ n)), some (.int (x : Int)), some (.int (c : Int)), y] ∧ x < 2 ^ f ∧ c ^^^ pie n f x = fol l n b)
        (fun σ _ => match σ[4]? with
          | some (some (V.int x)) => x.toNat
          | _ => 0) ⟨Same.refl H, 64, num l.reverse, b % 2 ^ n, none, ?_, ?_, ?_⟩ (fun σ H1 hpv => ?_) (fun σ H Q Q' hq ⟨v, h1, i, j, h2, h3, k, h4, h5⟩ => ⟨v, h1, i, j, h2, h3, k, h4, hq _ _ h5⟩)
      · have e : ((b : Int) % 2 ^ n) = ((b % 2 ^ n : Nat) : Int) := by
          rw [Int.natCast_emod, Int.natCast_pow]
          rfl
        rw [← e]
        rfl
      · have := num_lt l.reverse
        rw [List.length_reverse] at this
        exact Nat.lt_of_lt_of_le this (Nat.pow_le_pow_right (by decide) hl)
      · unfold fol
        rw [if_neg (by omega), pie_zig n h1 64 l.reverse (by rw [List.length_reverse]; exact hl)]
      · obtain ⟨sm, f, x, c, y, rfl, hx, hc⟩ := hpv
        refine ⟨.int x, rfl, _, _, rfl, rfl, _, rfl, ite2 (fun e => ?_) (fun e => ?_)⟩
        · have x0 : (0 : Int) < x := of_decide_eq_true e
          obtain ⟨f', rfl⟩ : ∃ f', f = f' + 1 := by
            cases f with
            | zero => simp at hx; omega
            | succ f' => exact ⟨f', rfl⟩
          refine ⟨.int x, rfl, .int (2 ^ n), rfl, x, 2 ^ n, rfl, ⟨hp, by omega⟩, fun p np => ⟨p, _, rfl, .inl (.inl upd_same), rfl, _, _, rfl, _, _, rfl, rfl, .int c, rfl, _, rfl, _, _, rfl, rfl, ?_⟩⟩
          have ex : ((x : Int) / 2 ^ n) = ((x / 2 ^ n : Nat) : Int) := by
            rw [Int.natCast_ediv, Int.natCast_pow]
            rfl
          have em : ((x : Int) % 2 ^ n) = ((x % 2 ^ n : Nat) : Int) := by
            rw [Int.natCast_emod, Int.natCast_pow]
            rfl
          refine ⟨⟨sm.trans (same_new np), f', x / 2 ^ n, c ^^^ (x % 2 ^ n), some (.int ((x : Int) % 2 ^ n)), ?_, ?_, ?_⟩, ?_⟩
          · have eb : Builtin.bitXor (c : Int) ((x : Int) % 2 ^ n) = ((c ^^^ (x % 2 ^ n) : Nat) : Int) := by
              rw [em, Bits.bitXor_pp (Int.natCast_nonneg _) (Int.natCast_nonneg _), Int.toNat_natCast, Int.toNat_natCast]
            show [some (V.str (txt l)), some (V.int n), some (V.int b), some (V.int (2 ^ n)), some (V.int ((x : Int) / 2 ^ n)), some (V.int (Builtin.bitXor (c : Int) ((x : Int) % 2 ^ n))), some (V.int ((x : Int) % 2 ^ n))] = _
            rw [eb, ex]
          · have h2 : 2 ≤ 2 ^ n := by
              have := Nat.pow_le_pow_right (show 0 < 2 by decide) h1
              simpa using this
            have : x / 2 ^ n ≤ x / 2 := Nat.div_le_div_left h2 (by decide)
            rw [Nat.pow_succ] at hx
            omega
          · rw [Nat.xor_assoc]
            exact hc
          · show ((x : Int) / 2 ^ n).toNat < (x : Int).toNat
            rw [ex, Int.toNat_natCast, Int.toNat_natCast]
            exact Nat.div_lt_self (by omega) (by
              have := Nat.pow_le_pow_right (show 0 < 2 by decide) h1
              simp at this
              omega)
        · have x0 : x = 0 := by
            have := mt decide_eq_true e
            omega
          subst x0
          rw [pie_zero, Nat.xor_zero] at hc
          subst hc
          exact ⟨_, rfl, q _ sm⟩
end
end Pf
namespace Pf
open PySem PySem.Spec PyProof.Rows L2 Gk Fold
/-! ### texts of digits -/
theorem txt_app (a b : List Bool) : txt a ++ txt b = txt (a ++ b) := by
  show (⟨(a.map sgn).toArray ++ (b.map sgn).toArray⟩ : Str) = ⟨((a ++ b).map sgn).toArray⟩
  rw [List.map_append]
  simp
theorem txt_length (l : List Bool) : (txt l).length = l.length := txt_size l
theorem fold_rep (l : List Nat) : ∀ (n : Nat) (acc : List Nat), (List.replicate n l.toArray).foldl (· ++ ·) acc.toArray = (acc ++ (List.replicate n l).flatten).toArray
  | 0, acc => by simp
  | n + 1, acc => by
    rw [List.replicate_succ, List.foldl_cons, show acc.toArray ++ l.toArray = (acc ++ l).toArray by simp, fold_rep l n, List.replicate_succ, List.flatten_cons, List.append_assoc]
theorem txt_mul (l : List Bool) (n : Nat) : Txt.mul (txt l) (n : Int) = txt (List.replicate n l).flatten := by
  unfold Txt.mul
  by_cases h0 : (n : Int) < 1
  · have : n = 0 := by omega
    subst this
    rw [if_pos h0]
    rfl
  · rw [if_neg h0]
    by_cases h1 : n = 1
    · subst h1
      rw [if_pos (by simp)]
      simp
    · by_cases h2 : l = []
      · subst h2
        rw [if_pos (by rw [txt_length]; simp)]
        have : (List.replicate n ([] : List Bool)).flatten = [] := by
          rw [List.flatten_eq_nil_iff]
          intro x hx
          exact (List.mem_replicate.mp hx).2
        rw [this]
      · have h3 : ¬ (((n : Int) == 1 || (txt l).length == 0) = true) := by
          rw [txt_length]
          simp only [Bool.or_eq_true, beq_iff_eq, not_or]
          exact ⟨by omega, fun z => h2 (List.length_eq_zero_iff.mp z)⟩
        rw [if_neg h3]
        have := fold_rep (l.map sgn) n []
        show (⟨(List.replicate (n : Int).toNat (l.map sgn).toArray).foldl (· ++ ·) #[]⟩ : Str) = _
        rw [Int.toNat_natCast]
        refine congrArg Str.mk (this.trans ?_)
        rw [List.nil_append]
        congr 1
        rw [List.map_flatten, List.map_replicate]
theorem mulOk_txt {l : List Bool} {n : Nat} (hl : l.length ≤ 100) (hn : n ≤ 1000) : MulOk (txt l) (n : Int) := by
  refine ⟨by simp; omega, fun h0 _ => ?_, fun _ _ => ?_⟩
  · rw [txt_length]
    have h1 : (0 : Int) < n := by omega
    have : (1000 : Int) ≤ (2 ^ 63 - 1) / n := by
      refine Int.le_ediv_of_mul_le h1 ?_
      omega
    omega
  · rw [txt_length]
    show decide (_ > sizeLine) = false
    refine decide_eq_false ?_
    rw [sizeLine_eq, Int.toNat_natCast]
    have := Nat.mul_le_mul hl hn
    omega
theorem txt_cut (l : List Bool) (a b : Nat) (h : a ≤ b) (hb : b ≤ l.length) : cutS (txt l) (some (a : Int)) (some (b : Int)) = txt ((l.drop a).take (b - a)) := by
  unfold cutS
  rw [HT.sIx_nat, HT.sIx_nat, txt_length, Nat.min_eq_left (show a ≤ l.length by omega), Nat.min_eq_left (show b ≤ l.length from hb)]
  show (⟨((((l.map sgn).toArray).toList.drop a).take (b - a)).toArray⟩ : Str) = ⟨(((l.drop a).take (b - a)).map sgn).toArray⟩
  rw [List.map_take, List.map_drop]
theorem glue_txt : ∀ (bs acc : List Bool), (bs.map fun b => txt [b]).foldl (fun (z : Array Nat) (p : Str) => z ++ (Str.empty).cps ++ p.cps) (txt acc).cps = (txt (acc ++ bs)).cps
  | [], acc => by simp
  | b :: bs, acc => by
    rw [List.map_cons, List.foldl_cons]
    have : (txt acc).cps ++ (Str.empty).cps ++ (txt [b]).cps = (txt (acc ++ [b])).cps := by
      have := congrArg Str.cps (txt_app acc [b])
      rw [← this]
      show (txt acc).cps ++ #[] ++ (txt [b]).cps = (txt acc).cps ++ (txt [b]).cps
      simp
    rw [this, glue_txt bs (acc ++ [b]), List.append_assoc]
    rfl
theorem join_txt (bs : List Bool) : Txt.join ("" : Str) (bs.map fun b => txt [b]) = txt bs := by
  show Builtin.Str.glued ("" : Str) (bs.map fun b => txt [b]) = _
  unfold Builtin.Str.glued
  cases bs with
  | nil => rfl
  | cons b bs =>
    have := glue_txt bs [b]
    exact congrArg Str.mk this
theorem str_bit (b : Bool) : (Str.ofString (toString (if b then (1 : Int) else 0))) = txt [b] := by cases b <;> decide +kernel
theorem int_at {os : List Int} {i : Nat} {x : V} (hx : (os.map V.int)[i]? = some x) : ∃ o, os[i]? = some o ∧ x = .int o := by
  rw [List.getElem?_map] at hx
  cases e : os[i]? with
  | none => rw [e] at hx; cases hx
  | some o =>
    rw [e] at hx
    exact ⟨o, rfl, (Option.some.inj hx).symm⟩
/-- outcomes as digits -/
def bo (os : List Int) : List Bool := os.map fun o => decide (o = 1)
theorem bo_len (os : List Int) : (bo os).length = os.length := List.length_map ..
/-- so many digits from a place on, round and round -/
def run (bs : List Bool) (a k : Nat) : List Bool := (List.range k).map fun j => bs.getD ((a + j) % bs.length) false
/-- the last digits of so many that passed, zeros ahead -/
def past (bs : List Bool) (p L : Nat) : List Bool := List.replicate (L - min p L) false ++ run bs (p - min p L) (min p L)
theorem run_len (bs : List Bool) (a k : Nat) : (run bs a k).length = k := by
  unfold run
  rw [List.length_map, List.length_range]
theorem past_len (bs : List Bool) (p L : Nat) : (past bs p L).length = L := by
  unfold past
  rw [List.length_append, List.length_replicate, run_len]
  omega
theorem rep_at {α : Type} (l : List α) (h : 0 < l.length) : ∀ (m i : Nat), i < m * l.length → ((List.replicate m l).flatten)[i]? = l[i % l.length]?
  | 0, i, hi => by simp at hi
  | m + 1, i, hi => by
    rw [List.replicate_succ, List.flatten_cons]
    by_cases g : i < l.length
    · rw [List.getElem?_append_left g, Nat.mod_eq_of_lt g]
    · rw [List.getElem?_append_right (by omega), rep_at l h m (i - l.length) (by rw [Nat.succ_mul] at hi; omega)]
      congr 1
      exact (Nat.mod_eq_sub_mod (by omega)).symm
theorem run_cut {bs : List Bool} (h : 0 < bs.length) (a k m : Nat) (hm : a % bs.length + k ≤ m * bs.length) : (((List.replicate m bs).flatten).drop (a % bs.length)).take k = run bs a k := by
  refine List.ext_getElem? fun i => ?_
  by_cases hi : i < k
  · rw [List.getElem?_take_of_lt hi, List.getElem?_drop, rep_at bs h m _ (by omega)]
    unfold run
    rw [List.getElem?_map, List.getElem?_range hi]
    have hlt : (a + i) % bs.length < bs.length := Nat.mod_lt _ h
    have e : (a % bs.length + i) % bs.length = (a + i) % bs.length := by rw [Nat.mod_add_mod]
    rw [e, List.getElem?_eq_getElem hlt]
    show _ = some (bs.getD ((a + i) % bs.length) false)
    rw [List.getD_eq_getElem?_getD, List.getElem?_eq_getElem hlt]
    rfl
  · rw [List.getElem?_eq_none (by rw [List.length_take]; omega), List.getElem?_eq_none (by rw [run_len]; omega)]
theorem rep_length (n : Nat) (l : List Bool) : ((List.replicate n l).flatten).length = n * l.length := by
  induction n with
  | zero => simp
  | succ n ih => rw [List.replicate_succ, List.flatten_cons, List.length_append, ih, Nat.succ_mul, Nat.add_comm]
theorem enough (n k a : Nat) (h : 0 < n) : a % n + k ≤ (k / n + 2) * n := by
  have h1 := Nat.div_add_mod k n
  have h2 := Nat.mod_lt k h
  have h3 := Nat.mod_lt a h
  rw [Nat.add_mul, Nat.mul_comm (k / n) n]
  omega
abbrev nNew : List Str := ["outcomes", "passed", "length", "known", "start", "outcome", "digits", "enough"]
section
variable {P : Program} {w : World} {K : PySem.W.Frag} {mg : Str → Option Value} {base : Heap}
def spNew (K : PySem.W.Frag) : Sp := fun vs H Q _ => ∃ (t : Addr) (os : List Int) (p L : Nat), vs = [.ref t, .int (p : Int), .int (L : Int)] ∧ SqT K H t (os.map V.int) ∧ Bits os ∧ 1 ≤ os.length ∧ os.length ≤ 64 ∧ L ≤ 65 ∧ ∀ H', Same H H' → Q (.str (txt (past (bo os) p L))) H'
end
end Pf
namespace Pf
open PySem PySem.Spec PyProof.Rows L2 Gk
abbrev sPlan : Stmt := topS 28
abbrev nPlan : List Str := ["_law_box_here", "_law_most", "_law_size", "_law_kind"]
theorem scPlan : FnScope nPlan ["_law_box_here", "_law_most"] (defScope sPlan) := ⟨rfl, rfl, rfl, by decide +kernel, rfl, by decide +kernel, by decide +kernel⟩
/-- a scheme: its word, its length, its bits -/
def planV (w : Str) (z : Int) : Option Int → List V
  | none => [.str w, .int z]
  | some t => [.str w, .int z, .int t]
def PlanOk (w : Str) (z : Int) (x : Option Int) : Prop := 0 ≤ z ∧ z ≤ 64 ∧ ((w = "folded" ∧ ∃ t, x = some t ∧ 0 ≤ t ∧ t ≤ 16) ∨ ((w = "own" ∨ w = "split" ∨ w = "shared") ∧ x = none))
section
variable {P : Program} {w : World} {K : PySem.W.Frag} {mg : Str → Option Value} {base : Heap}
def spPlan (K : PySem.W.Frag) : Sp := fun vs H Q _ => ∃ (b : Addr) (most : Int) (m : Nat), vs = [.ref b, .int most] ∧ 0 ≤ most ∧ most ≤ 64 ∧ Box m H b ∧ m ≤ 990000 ∧
  ∀ H' p w z x, But b H H' → Box (m + 10) H' b → p ≠ b → H p = none → H' p = some (.tup (planV w z x)) → PlanOk w z x → Q (.ref p) H'
theorem ok_plan {f : Addr} {fd : FuncData} (DT : Dfn P w K mg base 1 "_law_take" ["_law_box_here", "_law_many"] spTake) (DO : Dfn P w K mg base 2 "_law_of" ["_law_box_here", "_law_some"] (spOf K)) (mn : mg "min" = none)
    (F : L2.Fun K "_law_plan" "_law_plan" sPlan f fd) : FnOk P w K mg base L2.CX0 3 f fd ["_law_box_here", "_law_most"] (spPlan K) := by
  refine F.ok scPlan (fun vs H Q E h => ?_) (fun cdv A outer s H vs Q E hr h => ?_)
  · obtain ⟨b, most, m, rfl, _⟩ := h
    rfl
  · obtain ⟨b, most, m, rfl, m0, m1, hb, hm, q⟩ := h
    refine ⟨_, C8.pss_cut (ps_set (i := 2) scPlan.nd rfl (.inl rfl) (pe_d DO hr (by decide) (by rfl) (pa_cons (pv 0) (pa_cons (pe_lst (pa_cons (pe_d DT hr (by decide) (by rfl) (pa_cons (pv 0) (pa_cons pe_int pa_nil))) (pa_cons (pe_d DT hr (by decide) (by rfl) (pa_cons (pv 0) (pa_cons (pe_op op_add (pv 1) pe_int) pa_nil)))
          (pa_cons (pe_callB (call_min2 rfl) (by rfl) mn (by decide +kernel) (pa_cons pe_int (pa_cons (pv 1) pa_nil))) pa_nil)))) pa_nil))))
      (C8.pss_cut (ps_set (i := 3) scPlan.nd rfl (.inl rfl) (pe_d DO hr (by decide) (by rfl) (pa_cons (pv 0) (pa_cons (pe_lst (pa_cons pe_str (pa_cons pe_str (pa_cons pe_str (pa_cons pe_str (pa_cons pe_str pa_nil)))))) pa_nil))))
      (pss_one (ps_ret (pe_ifExp (pt_cmpR op_eq (pv 3) pe_str (nomark _)) (pe_tup (pa_cons (pv 3) (pa_cons (pv 2) (pa_cons (pe_d DT hr (by decide) (by rfl) (pa_cons (pv 0) (pa_cons pe_int pa_nil))) pa_nil)))) (pe_tup (pa_cons (pv 3) (pa_cons (pv 2) pa_nil))))))), ?_⟩
    refine ⟨fun σ H' => ∃ z : Int, σ = [some (.ref b), some (.int most), some (.int z), none] ∧ 0 ≤ z ∧ z ≤ 64 ∧ But b H H' ∧ Box (m + 3) H' b, ?_, fun σ H1 hM => ?_⟩
    · refine ⟨.ref b, rfl, .ref b, rfl, b, 4, m, rfl, by decide, by decide, hb, by omega, fun d1 H1 a1 a2 bt1 bx1 sm1 => ⟨.ref b, rfl, .int most, rfl, _, _, rfl, rfl, b, most + 1, m + 1, rfl, by omega, by omega, bx1, by omega, fun d2 H2 c1 c2 bt2 bx2 sm2 => ⟨.int most, rfl, _, _, rfl, by show 3 ≤ sizeLine; decide, fun p np => ?_⟩⟩⟩
      have bx3 := bx2.same (same_new (o := .lst [.int d1, .int d2, .int (if most < 2 then most else 2)]) np)
      refine ⟨b, p, _, m + 1 + 1, rfl, SqL.of upd_same, (bx2.ne np).symm, by show 0 < 3; decide, by show 3 ≤ 1000; decide, bx3, by omega, fun i v H4 g bt4 bx4 sm4 => ?_⟩
      have btE : But b H H4 := ((bt1.trans bt2).trans (But.new np)).trans bt4
      match i, g with
      | 0, g => exact ⟨d1, by rw [← Option.some.inj g]; rfl, a1, by omega, btE, bx4⟩
      | 1, g => exact ⟨d2, by rw [← Option.some.inj g]; rfl, c1, by omega, btE, bx4⟩
      | 2, g => exact ⟨_, by rw [← Option.some.inj g]; rfl, by split <;> omega, by split <;> omega, btE, bx4⟩
    · obtain ⟨z, rfl, z0, z1, bt1, bx1⟩ := hM
      refine ⟨fun σ H' => ∃ k : Str, σ = [some (.ref b), some (.int most), some (.int z), some (.str k)] ∧ (k = "folded" ∨ (k = "own" ∨ k = "split" ∨ k = "shared")) ∧ But b H H' ∧ Box (m + 4) H' b, ?_, fun σ H2 hM => ?_⟩
      · refine ⟨.ref b, rfl, by show 5 ≤ sizeLine; decide, fun p np => ?_⟩
        have bx3 := bx1.same (same_new (o := .lst [.str "own", .str "split", .str "shared", .str "shared", .str "folded"]) np)
        refine ⟨b, p, _, m + 3, rfl, SqL.of upd_same, (bx1.ne np).symm, by show 0 < 5; decide, by show 5 ≤ 1000; decide, bx3, by omega, fun i v H4 g bt4 bx4 sm4 => ?_⟩
        have btE : But b H H4 := (bt1.trans (But.new np)).trans bt4
        match i, g with
        | 0, g => exact ⟨"own", by rw [← Option.some.inj g]; rfl, .inr (.inl rfl), btE, bx4⟩
        | 1, g => exact ⟨"split", by rw [← Option.some.inj g]; rfl, .inr (.inr (.inl rfl)), btE, bx4⟩
        | 2, g => exact ⟨"shared", by rw [← Option.some.inj g]; rfl, .inr (.inr (.inr rfl)), btE, bx4⟩
        | 3, g => exact ⟨"shared", by rw [← Option.some.inj g]; rfl, .inr (.inr (.inr rfl)), btE, bx4⟩
        | 4, g => exact ⟨"folded", by rw [← Option.some.inj g]; rfl, .inl rfl, btE, bx4⟩
      · obtain ⟨k, rfl, hk, bt2, bx2⟩ := hM
        have gone : ∀ {H3 : Hp} {p : Addr}, But b H H3 → Box (m + 10) H3 b → H3 p = none → H p = none := fun {H3 p} bt bx np => by
          cases e : H p with
          | none => rfl
          | some o =>
            have := bt p o (bx.ne np).symm e
            rw [np] at this
            cases this
        refine ⟨.str k, rfl, rfl, _, rfl, ite2 (fun e => ?_) (fun e => ?_)⟩
        · have e1 : V.str k = V.str "folded" := of_decide_eq_true e
          injection e1 with e2
          refine ⟨.str k, rfl, .int z, rfl, .ref b, rfl, b, 17, m + 4, rfl, by decide, by decide, bx2, by omega, fun t H3 t0 t1 bt3 bx3 sm3 => ⟨by show 3 ≤ sizeLine; decide, fun p np => ?_⟩⟩
          have bxu : Box (m + 10) H3 b := bx3.up (by omega)
          exact q _ p k z (some t) ((bt2.trans bt3).trans (But.new np)) (bxu.same (same_new np)) (bxu.ne np).symm (gone (bt2.trans bt3) bxu np) upd_same ⟨z0, z1, .inl ⟨e2, t, rfl, t0, by omega⟩⟩
        · have ne : k ≠ "folded" := fun h => e (decide_eq_true (by rw [h]))
          refine ⟨.str k, rfl, .int z, rfl, by show 2 ≤ sizeLine; decide, fun p np => ?_⟩
          have bxu : Box (m + 10) H2 b := bx2.up (by omega)
          exact q _ p k z none (bt2.trans (But.new np)) (bxu.same (same_new np)) (bxu.ne np).symm (gone bt2 bxu np) upd_same ⟨z0, z1, .inr ⟨hk.elim (fun h => absurd h ne) id, rfl⟩⟩
end
end Pf
namespace Pf
open PySem PySem.Spec PyProof.Rows L2 Gk Fold
/-! ### histories and cells -/
def brAt (l : List (Int × Int)) (m : Nat) : Int := (l.getD (m % l.length) (0, 0)).1
def hOs (l : List (Int × Int)) (w : Str) (m : Nat) : List Int := if w = "own" then outs (brAt l m) l else l.map (·.2)
def hN (l : List (Int × Int)) (w : Str) (m : Nat) : Nat := if w = "own" then m / l.length * (outs (brAt l m) l).length + (outs (brAt l m) (l.take (m % l.length))).length else m
def hist (l : List (Int × Int)) (w : Str) (m L : Nat) : List Bool := past (bo (hOs l w m)) (hN l w m) L
def cellD (w : Str) (x : Option Int) (b : Nat) (h : List Bool) : PyData := if w = "folded" then .int ((fol h (x.getD 0).toNat b : Nat) : Int) else if w = "shared" then .str (txt h) else .tuple [.int (b : Int), .str (txt h)]
theorem hist_len (l : List (Int × Int)) (w : Str) (m L : Nat) : (hist l w m L).length = L := past_len _ _ _
theorem at_mod {l : List (Int × Int)} (h : 1 ≤ l.length) (m : Nat) : l[m % l.length]? = some (l.getD (m % l.length) (0, 0)) := by
  have : m % l.length < l.length := Nat.mod_lt _ h
  rw [List.getD_eq_getElem?_getD, List.getElem?_eq_getElem this]
  rfl
theorem brAt_in {l : List (Int × Int)} (h : 1 ≤ l.length) (m : Nat) : ∃ x ∈ l, x.1 = brAt l m := ⟨_, List.mem_of_getElem? (at_mod h m), rfl⟩
theorem outs_pos {l : List (Int × Int)} {b : Int} (h : ∃ x ∈ l, x.1 = b) : 1 ≤ (outs b l).length := by
  obtain ⟨x, hx, e⟩ := h
  unfold outs
  rw [List.length_map]
  exact List.length_pos_of_mem (List.mem_filter.mpr ⟨hx, decide_eq_true e⟩)
theorem hOs_ok {l : List (Int × Int)} (fair : Fair l) (h : 1 ≤ l.length) (h2 : l.length ≤ 64) (w : Str) (m : Nat) : Bits (hOs l w m) ∧ 1 ≤ (hOs l w m).length ∧ (hOs l w m).length ≤ 64 := by
  unfold hOs
  split
  · have := outs_len (brAt l m) l
    exact ⟨outs_bits fair, outs_pos (brAt_in h m), by omega⟩
  · refine ⟨fun o ho => ?_, by rw [List.length_map]; exact h, by rw [List.length_map]; exact h2⟩
    obtain ⟨x, hx, rfl⟩ := List.mem_map.mp ho
    exact (fair x hx).2
theorem planV0 (w : Str) (z : Int) (x : Option Int) : atI (planV w z x) 0 = some (.str w) := by cases x <;> rfl
theorem planV1 (w : Str) (z : Int) (x : Option Int) : atI (planV w z x) 1 = some (.int z) := by cases x <;> rfl
abbrev sCellOf : Stmt := topS 6
abbrev nHist : List Str := ["trace", "scheme", "moment", "rounds", "position", "branch", "outcomes", "passed"]
abbrev nCellAt : List Str := ["trace", "scheme", "moment", "branch"]
theorem scCellOf : FnScope ["scheme", "branch", "history"] ["scheme", "branch", "history"] (defScope sCellOf) := ⟨rfl, rfl, rfl, by decide +kernel, rfl, by decide +kernel, by decide +kernel⟩
section
variable {P : Program} {w : World} {K : PySem.W.Frag} {mg : Str → Option Value} {base : Heap}
def spHist (K : PySem.W.Frag) : Sp := fun vs H Q _ => ∃ (t c : Addr) (l : List (Int × Int)) (k : Str) (z : Int) (x : Option Int) (m : Nat), vs = [.ref t, .ref c, .int (m : Int)] ∧ PairsAt K H t l ∧ Fair l ∧ 1 ≤ l.length ∧ l.length ≤ 64 ∧ SqT K H c (planV k z x) ∧ 0 ≤ z ∧ z ≤ 65 ∧ m ≤ 10 ^ 19 ∧
  ∀ H', Same H H' → Q (.str (txt (hist l k m z.toNat))) H'
def spCell (K : PySem.W.Frag) : Sp := fun vs H Q _ => ∃ (c : Addr) (k : Str) (z : Int) (x : Option Int) (b : Nat) (h : List Bool), vs = [.ref c, .int (b : Int), .str (txt h)] ∧ SqT K H c (planV k z x) ∧ PlanOk k z x ∧ b < 8 ∧ h.length ≤ 64 ∧ ∀ H' v, Same H H' → Dp K H' v (cellD k x b h) → Q v H'
theorem ok_cell {f : Addr} {fd : FuncData} (DF : Dfn P w K mg base 2 "fold" ["history", "bits", "branch"] spFold) (F : L2.Fun K "cell_of" "cell_of" sCellOf f fd) : FnOk P w K mg base L2.CX0 3 f fd ["scheme", "branch", "history"] (spCell K) := by
  refine F.ok scCellOf (fun vs H Q E h => ?_) (fun cdv A outer s H vs Q E hr h => ?_)
  · obtain ⟨c, k, z, x, b, h, rfl, _⟩ := h
    rfl
  · obtain ⟨c, k, z, x, b, h, rfl, hc, ok, hb, hh, q⟩ := h
    refine ⟨_, pss_cons (ps_if (pt_cmpR op_eq (pe_ix ix_tup (pv 0) pe_int (fun _ _ => rfl)) pe_str (nomark _)) (pss_one (ps_ret (pe_d DF hr (by decide) (by rfl) (pa_cons (pv 2) (pa_cons (pe_ix ix_tup (pv 0) pe_int (fun _ _ => rfl)) (pa_cons (pv 1) pa_nil)))))) pss_nil)
      (pss_cons (ps_if (pt_cmpR op_eq (pe_ix ix_tup (pv 0) pe_int (fun _ _ => rfl)) pe_str (nomark _)) (pss_one (ps_ret (pv 2))) pss_nil)
      (pss_one (ps_ret (pe_tup (pa_cons (pv 1) (pa_cons (pv 2) pa_nil)))))), ?_⟩
    refine ⟨.ref c, rfl, c, _, 0, .str k, rfl, rfl, hc, planV0 _ _ _, rfl, _, rfl, ite2 (fun e => ?_) (fun e => ?_)⟩
    · have e1 : V.str k = V.str "folded" := of_decide_eq_true e
      injection e1 with e1
      obtain ⟨_, _, ⟨_, t, rfl, t0, t1⟩ | ⟨h2, _⟩⟩ := ok
      · refine ⟨.str (txt h), rfl, .ref c, rfl, c, _, 2, .int t, rfl, rfl, hc, rfl, .int b, rfl, h, t.toNat, b, ?_, hh, by omega, hb, fun H' s' => q H' _ s' ?_⟩
        · rw [Int.toNat_of_nonneg t0]
          rfl
        · unfold cellD
          rw [if_pos e1]
          exact .int _
      · rw [e1] at h2
        exact absurd h2 (by decide +kernel)
    · have ne : k ≠ "folded" := fun z => e (decide_eq_true (by rw [z]))
      refine ⟨.ref c, rfl, c, _, 0, .str k, rfl, rfl, hc, planV0 _ _ _, rfl, _, rfl, ite2 (fun g => ?_) (fun g => ?_)⟩
      · have g1 : V.str k = V.str "shared" := of_decide_eq_true g
        injection g1 with g1
        refine ⟨.str (txt h), rfl, q H _ (Same.refl H) ?_⟩
        unfold cellD
        rw [if_neg ne, if_pos g1]
        exact .str _
      · have ng : k ≠ "shared" := fun z => g (decide_eq_true (by rw [z]))
        refine ⟨.int b, rfl, .str (txt h), rfl, by show 2 ≤ sizeLine; decide, fun p np => q _ _ (same_new np) ?_⟩
        unfold cellD
        rw [if_neg ne, if_neg ng]
        exact .tup (.inl (.inl upd_same)) (.cons (.int _) (.cons (.str _) .nil))
def cellA (l : List (Int × Int)) (k : Str) (z : Int) (x : Option Int) (m : Nat) : PyData := cellD k x (brAt l m).toNat (hist l k m z.toNat)
def spCellAt (K : PySem.W.Frag) : Sp := fun vs H Q _ => ∃ (t c : Addr) (l : List (Int × Int)) (k : Str) (z : Int) (x : Option Int) (m : Nat), vs = [.ref t, .ref c, .int (m : Int)] ∧ PairsAt K H t l ∧ Fair l ∧ 1 ≤ l.length ∧ l.length ≤ 64 ∧ SqT K H c (planV k z x) ∧ PlanOk k z x ∧ m ≤ 10 ^ 19 ∧
  ∀ H' v, Same H H' → Dp K H' v (cellA l k z x m) → Q v H'
end
end Pf
namespace Pf
open PySem PySem.Spec PyProof.Rows L2 Gk Fold
theorem pt_mid {X : Cx} {e : Expr} {t : TT} (h : PT X e t) : PT X e (tMidT t) :=
  ⟨fun pins s σ H Q I ⟨M, h1, h2⟩ => thn (h.run pins s σ H M I h1) fun u s1 ⟨H1, I1, q⟩ => ⟨H1, I1, h2 u H1 q⟩⟩
/-! ### backward from a moment -/
/-- how many outcomes that count came ahead of a moment -/
def cj (l : List (Int × Int)) (k : Str) (b : Int) (j : Nat) : Nat := if k = "own" then j / l.length * (outs b l).length + (outs b (l.take (j % l.length))).length else j
/-- whether the outcome of a moment counts -/
def counts (l : List (Int × Int)) (k : Str) (b : Int) (j : Nat) : Prop := k ≠ "own" ∨ brAt l j = b
theorem cj_zero (l : List (Int × Int)) (k : Str) (b : Int) : cj l k b 0 = 0 := by
  unfold cj
  split
  · simp [outs]
  · rfl
theorem cj_step {l : List (Int × Int)} (h : 1 ≤ l.length) (k : Str) (b : Int) (j : Nat) [Decidable (counts l k b j)] : cj l k b (j + 1) = cj l k b j + (if counts l k b j then 1 else 0) := by
  by_cases e : k = "own"
  · unfold cj
    rw [if_pos e, if_pos e]
    have hj := at_mod h j
    have ot := outs_take (b := b) hj
    have one : (outs b (l.take (j % l.length + 1))).length = (outs b (l.take (j % l.length))).length + (if counts l k b j then 1 else 0) := by
      rw [ot, List.length_append]
      congr 1
      by_cases g : brAt l j = b
      · rw [if_pos (show counts l k b j from .inr g), if_pos (show (l.getD (j % l.length) (0, 0)).1 = b from g)]
        rfl
      · rw [if_neg (fun z : counts l k b j => z.elim (fun z => z e) g), if_neg (show ¬ (l.getD (j % l.length) (0, 0)).1 = b from g)]
        rfl
    have lt : j % l.length < l.length := Nat.mod_lt _ h
    by_cases g : j % l.length + 1 < l.length
    · have em : (j + 1) % l.length = j % l.length + 1 := by
        rw [Nat.add_mod, Nat.mod_eq_of_lt (show 1 < l.length by omega), Nat.mod_eq_of_lt g]
      have ed : (j + 1) / l.length = j / l.length := by
        have h1 := Nat.div_add_mod (j + 1) l.length
        have h2 := Nat.div_add_mod j l.length
        rw [em] at h1
        have h3 : l.length * ((j + 1) / l.length) = l.length * (j / l.length) := by omega
        exact Nat.eq_of_mul_eq_mul_left h h3
      rw [em, ed, one]
      omega
    · have g2 : j % l.length + 1 = l.length := by omega
      have h2 := Nat.div_add_mod j l.length
      have ej : j + 1 = l.length * (j / l.length + 1) := by rw [Nat.mul_add]; omega
      have em : (j + 1) % l.length = 0 := by rw [ej, Nat.mul_mod_right]
      have ed : (j + 1) / l.length = j / l.length + 1 := by rw [ej, Nat.mul_div_cancel_left _ h]
      rw [em, ed]
      rw [g2, List.take_length] at one
      rw [List.take_zero, show (outs b ([] : List (Int × Int))).length = 0 from rfl, Nat.add_mul, one]
      omega
  · unfold cj
    rw [if_neg e, if_neg e, if_pos (show counts l k b j from .inl e)]
theorem outs_at {b : Int} {l : List (Int × Int)} {i : Nat} {x : Int × Int} (h : l[i]? = some x) (e : x.1 = b) : (outs b l)[(outs b (l.take i)).length]? = some x.2 := by
  have hi : i < l.length := (List.getElem?_eq_some_iff.mp h).1
  have sp : l = l.take (i + 1) ++ l.drop (i + 1) := (List.take_append_drop _ _).symm
  have os : outs b l = outs b (l.take (i + 1)) ++ outs b (l.drop (i + 1)) := by
    conv => lhs; rw [sp]
    unfold outs
    rw [List.filter_append, List.map_append]
  rw [os, outs_take h, if_pos e, List.append_assoc, List.getElem?_append_right (Nat.le_refl _), Nat.sub_self]
  rfl
/-- the digits that are gone round -/
def hB (l : List (Int × Int)) (k : Str) (b : Int) : List Bool := bo (if k = "own" then outs b l else l.map (·.2))
theorem cj_dig {l : List (Int × Int)} (h : 1 ≤ l.length) {k : Str} {b : Int} {j : Nat} (c : counts l k b j) : (hB l k b).getD (cj l k b j % (hB l k b).length) false = decide ((l.getD (j % l.length) (0, 0)).2 = 1) := by
  have hj := at_mod h j
  have lt : j % l.length < l.length := Nat.mod_lt _ h
  unfold hB
  rw [bo_len]
  by_cases e : k = "own"
  · rw [if_pos e]
    have eb : brAt l j = b := c.resolve_left fun z => z e
    have oa := outs_at hj eb
    have lq : (outs b (l.take (j % l.length))).length < (outs b l).length := (List.getElem?_eq_some_iff.mp oa).1
    have ec : cj l k b j % (outs b l).length = (outs b (l.take (j % l.length))).length := by
      unfold cj
      rw [if_pos e, Nat.mul_comm, Nat.mul_add_mod, Nat.mod_eq_of_lt lq]
    rw [ec, List.getD_eq_getElem?_getD]
    unfold bo
    rw [List.getElem?_map, oa]
    rfl
  · rw [if_neg e, List.length_map]
    have ec : cj l k b j = j := by
      unfold cj
      rw [if_neg e]
    rw [ec, List.getD_eq_getElem?_getD]
    unfold bo
    rw [List.getElem?_map, List.getElem?_map, hj]
    rfl
theorem run_succ (bs : List Bool) (a k : Nat) : run bs a (k + 1) = bs.getD (a % bs.length) false :: run bs (a + 1) k := by
  unfold run
  rw [List.range_succ_eq_map, List.map_cons, List.map_map]
  congr 1
  refine List.map_congr_left fun j _ => ?_
  show bs.getD ((a + (j + 1)) % bs.length) false = _
  rw [show a + (j + 1) = a + 1 + j by omega]
theorem hist_cj (l : List (Int × Int)) (k : Str) (m L : Nat) : hist l k m L = past (hB l k (brAt l m)) (cj l k (brAt l m) m) L := rfl
end Pf
namespace Pf
open PySem PySem.Spec PyProof.Rows L2 Gk Fold
/-! ### what is shown of histories, cells and schemes -/
theorem tame_txt (h : List Bool) : Gk.tame (.str (txt h)) = true := by
  show (txt h).cps.all (· < 0x110000) = true
  rw [Array.all_eq_true]
  intro i hi
  obtain ⟨b, _, e⟩ := txt_at (l := h) (i := i) (Array.getElem?_eq_getElem hi)
  rw [e]
  cases b <;> decide
theorem cost_txt (h : List Bool) : cost (.str (txt h)) = h.length + 1 := by
  show (txt h).cps.size + 1 = _
  rw [txt_size]
/-- the data of a scheme -/
def planD (w : Str) (z : Int) : Option Int → PyData
  | none => .tuple [.str w, .int z]
  | some t => .tuple [.str w, .int z, .int t]
theorem plan_dp {K : PySem.W.Frag} {H : Hp} {p : Addr} {w : Str} {z : Int} : ∀ {x : Option Int}, SqT K H p (planV w z x) → Dp K H (.ref p) (planD w z x)
  | none, h => .tup h (.cons (.str w) (.cons (.int z) .nil))
  | some t, h => .tup h (.cons (.str w) (.cons (.int z) (.cons (.int t) .nil)))
theorem word_ok {w : Str} (h : w = "folded" ∨ w = "own" ∨ w = "split" ∨ w = "shared") : w.cps.all (· < 0x110000) = true ∧ w.cps.size ≤ 6 := by
  rcases h with rfl | rfl | rfl | rfl <;> decide +kernel
theorem plan_tame {w : Str} {z : Int} {x : Option Int} (h : PlanOk w z x) : Gk.tame (planD w z x) = true ∧ cost (planD w z x) ≤ 300 ∧ (planD w z x).depth ≤ 2 := by
  obtain ⟨z0, z1, h⟩ := h
  rcases h with ⟨hw, t, rfl, t0, t1⟩ | ⟨hw, rfl⟩
  · obtain ⟨a, b⟩ := word_ok (.inl hw)
    refine ⟨?_, ?_, ?_⟩
    · simp only [planD, Gk.tame, tameAll, a, Bool.true_and, Bool.and_true, Bool.and_eq_true, decide_eq_true_eq]
      omega
    · simp only [planD, Gk.cost, costAll]
      omega
    · simp only [planD, PyData.depth, PyData.depthAll]
      omega
  · obtain ⟨a, b⟩ := word_ok (.inr hw)
    refine ⟨?_, ?_, ?_⟩
    · simp only [planD, Gk.tame, tameAll, a, Bool.true_and, Bool.and_true, Bool.and_eq_true, decide_eq_true_eq]
      omega
    · simp only [planD, Gk.cost, costAll]
      omega
    · simp only [planD, PyData.depth, PyData.depthAll]
      omega
theorem fol_lt {l : List Bool} {n b : Nat} (hn : n ≤ 16) : fol l n b < 65536 := by
  have h2 := Nat.pow_le_pow_right (show 0 < 2 by decide) hn
  unfold fol
  split
  · decide
  · exact Nat.lt_of_lt_of_le (Nat.xor_lt_two_pow (Nat.mod_lt _ (Nat.two_pow_pos n)) (zig_lt n (by omega) _ _)) h2
theorem cell_tame {k : Str} {z : Int} {x : Option Int} {b : Nat} {h : List Bool} (ok : PlanOk k z x) (hb : b < 8) (hh : h.length ≤ 64) : Gk.tame (cellD k x b h) = true ∧ cost (cellD k x b h) ≤ 200 ∧ (cellD k x b h).depth ≤ 2 := by
  have th := tame_txt h
  have ch := cost_txt h
  unfold cellD
  split
  · have hx : (x.getD 0).toNat ≤ 16 := by
      obtain ⟨_, _, ⟨_, t, rfl, t0, t1⟩ | ⟨_, rfl⟩⟩ := ok
      · show t.toNat ≤ 16
        omega
      · show (0 : Int).toNat ≤ 16
        decide
    have lt := fol_lt (l := h) (b := b) hx
    refine ⟨?_, ?_, ?_⟩
    · simp only [Gk.tame, decide_eq_true_eq]
      omega
    · simp only [Gk.cost]
      omega
    · simp only [PyData.depth]
      omega
  · split
    · refine ⟨th, by omega, ?_⟩
      simp only [PyData.depth]
      omega
    · refine ⟨?_, ?_, ?_⟩
      · simp only [Gk.tame, tameAll, th, Bool.true_and, Bool.and_true, Bool.and_eq_true, decide_eq_true_eq]
        simp only [Gk.tame] at th
        first | exact ⟨by omega, th⟩ | omega
      · simp only [Gk.cost, costAll] at ch ⊢
        omega
      · simp only [PyData.depth, PyData.depthAll]
        omega
theorem fine_two {k : Str} {z : Int} {x : Option Int} {b : Nat} {h : List Bool} (ok : PlanOk k z x) (hb : b < 8) (hh : h.length ≤ 64) : Fine (.list [.str (txt h), cellD k x b h]) := by
  obtain ⟨a1, a2, a3⟩ := cell_tame ok hb hh
  have th := tame_txt h
  have ch := cost_txt h
  refine Fine.tame ?_ ?_ ?_
  · rw [show Gk.tame (.list [.str (txt h), cellD k x b h]) = (Gk.tame (.str (txt h)) && (Gk.tame (cellD k x b h) && true)) by simp only [Gk.tame, tameAll], th, a1]
    rfl
  · simp only [PyData.depth, PyData.depthAll]
    omega
  · rw [show cost (.list [.str (txt h), cellD k x b h]) = cost (.str (txt h)) + 1 + (cost (cellD k x b h) + 1 + 1) by simp only [Gk.cost, costAll], ch]
    omega
theorem fine_lp {l : List (Int × Int)} {k : Str} {z : Int} {x : Option Int} (fair : Fair l) (l2 : l.length ≤ 64) (ok : PlanOk k z x) : Fine (.tuple [.tuple (l.map pd), planD k z x]) := by
  obtain ⟨a1, a2, a3⟩ := plan_tame ok
  have p := plain_pd fair
  have c := p.cost
  have d := p.depth
  rw [List.length_map] at c
  refine Fine.tame ?_ ?_ ?_
  · simp only [Gk.tame, tameAll, p.tame, a1, Bool.and_self]
  · simp only [PyData.depth, PyData.depthAll]
    omega
  · simp only [Gk.cost, costAll]
    omega
end Pf
namespace Pf
open PySem PySem.Spec PyProof.Rows L2 Gk Fold
/-! ### histories at late moments -/
theorem run_period (bs : List Bool) (a k : Nat) : run bs (a + bs.length) k = run bs a k := by
  unfold run
  refine List.map_congr_left fun j _ => ?_
  rw [show a + bs.length + j = a + j + bs.length by omega, Nat.add_mod_right]
theorem past_late {bs : List Bool} {p L : Nat} (h : L ≤ p) : past bs p L = run bs (p - L) L := by
  unfold past
  rw [Nat.min_eq_right h, Nat.sub_self]
  rfl
theorem past_period {bs : List Bool} {p L : Nat} (h : L ≤ p) : past bs (p + bs.length) L = past bs p L := by
  rw [past_late h, past_late (by omega), show p + bs.length - L = p - L + bs.length by omega, run_period]
theorem past_periods {bs : List Bool} {p L : Nat} (h : L ≤ p) : ∀ n : Nat, past bs (p + n * bs.length) L = past bs p L
  | 0 => by rw [Nat.zero_mul, Nat.add_zero]
  | n + 1 => by
    rw [Nat.succ_mul, ← Nat.add_assoc, past_period (by omega), past_periods h n]
theorem run_at {bs : List Bool} {a k i : Nat} (h : i < k) : (run bs a k)[i]? = some (bs.getD ((a + i) % bs.length) false) := by
  unfold run
  rw [List.getElem?_map, List.getElem?_range h]
  rfl
/-- the digit at a place of a history -/
def dig (bs : List Bool) (p L i : Nat) : Bool := if L ≤ p + i then bs.getD ((p + i - L) % bs.length) false else false
theorem past_at {bs : List Bool} {p L i : Nat} (h : i < L) : (past bs p L)[i]? = some (dig bs p L i) := by
  unfold past dig
  by_cases g : i < L - min p L
  · rw [List.getElem?_append_left (by rw [List.length_replicate]; exact g), List.getElem?_replicate, if_pos g, if_neg (by omega)]
  · rw [List.getElem?_append_right (by rw [List.length_replicate]; omega), List.length_replicate, run_at (by omega), if_pos (by omega), show p - min p L + (i - (L - min p L)) = p + i - L by omega]
theorem past_ext {bs : List Bool} {p L : Nat} {xs : List Bool} (hl : xs.length = L) (h : ∀ i, i < L → xs[i]? = some (dig bs p L i)) : xs = past bs p L := by
  refine List.ext_getElem? fun i => ?_
  by_cases g : i < L
  · rw [h i g, past_at g]
  · rw [List.getElem?_eq_none (by omega), List.getElem?_eq_none (by rw [past_len]; omega)]
theorem past_tail (bs : List Bool) (p L : Nat) : (past bs p (L + 1)).drop 1 = past bs p L := by
  refine past_ext (by rw [List.length_drop, past_len]; omega) fun i hi => ?_
  rw [List.getElem?_drop, Nat.add_comm 1 i, past_at (by omega)]
  unfold dig
  by_cases g : L ≤ p + i
  · rw [if_pos g, if_pos (by omega), show p + (i + 1) - (L + 1) = p + i - L by omega]
  · rw [if_neg g, if_neg (by omega)]
theorem past_last {bs : List Bool} {p L : Nat} (h : 1 ≤ p) : (past bs p (L + 1))[L]? = some (bs.getD ((p - 1) % bs.length) false) := by
  rw [past_at (by omega)]
  unfold dig
  rw [if_pos (by omega), show p + L - (L + 1) = p - 1 by omega]
/-- one outcome more -/
theorem past_push (bs : List Bool) (p L : Nat) : past bs (p + 1) L = (past bs p L ++ [bs.getD (p % bs.length) false]).drop 1 := by
  refine (past_ext ?_ fun i hi => ?_).symm
  · rw [List.length_drop, List.length_append, past_len]
    show L + 1 - 1 = L
    omega
  · rw [List.getElem?_drop, Nat.add_comm 1 i]
    unfold dig
    by_cases g : i + 1 < L
    · rw [List.getElem?_append_left (by rw [past_len]; exact g), past_at g]
      unfold dig
      by_cases e : L ≤ p + 1 + i
      · rw [if_pos e, if_pos (by omega), show p + (i + 1) = p + 1 + i by omega]
      · rw [if_neg e, if_neg (by omega)]
    · have : i + 1 = L := by omega
      rw [List.getElem?_append_right (by rw [past_len]; omega), past_len, if_pos (by omega), show i + 1 - L = 0 by omega, show p + 1 + i - L = p by omega]
      rfl
theorem past_stays {bs : List Bool} {p L M : Nat} (h : past bs p L = past bs (p + M * bs.length) L) : ∀ j : Nat, past bs (p + j) L = past bs (p + j + M * bs.length) L
  | 0 => h
  | j + 1 => by
    rw [← Nat.add_assoc, show p + j + 1 + M * bs.length = p + j + M * bs.length + 1 by omega, past_push, past_push, past_stays h j, Nat.add_mul_mod_self_right]
theorem sgn_inj {a b : Bool} (h : sgn a = sgn b) : a = b := by
  revert h
  cases a <;> cases b <;> decide
theorem sgns_inj : ∀ {a b : List Bool}, a.map sgn = b.map sgn → a = b
  | [], [], _ => rfl
  | x :: xs, y :: ys, h => by
    rw [List.map_cons, List.map_cons] at h
    injection h with h1 h2
    rw [sgn_inj h1, sgns_inj h2]
  | [], _ :: _, h => by simp at h
  | _ :: _, [], h => by simp at h
theorem txt_inj {a b : List Bool} (h : txt a = txt b) : a = b := by
  have h1 : (a.map sgn).toArray = (b.map sgn).toArray := congrArg Str.cps h
  exact sgns_inj (by simpa using h1)
/-! ### moments of rounds -/
theorem brAt_round (l : List (Int × Int)) (N i : Nat) : brAt l (N * l.length + i) = brAt l i := by
  unfold brAt
  rw [Nat.add_comm, Nat.add_mul_mod_self_right]
theorem cj_round {l : List (Int × Int)} (h : 1 ≤ l.length) (k : Str) (b : Int) (N i : Nat) : cj l k b (N * l.length + i) = cj l k b i + N * (hB l k b).length := by
  unfold cj hB
  rw [bo_len]
  by_cases e : k = "own"
  · rw [if_pos e, if_pos e, if_pos e, Nat.add_comm (N * l.length) i, Nat.add_mul_div_right _ _ h, Nat.add_mul_mod_self_right, Nat.add_mul]
    omega
  · rw [if_neg e, if_neg e, if_neg e, List.length_map]
    omega
theorem hB_pos {l : List (Int × Int)} (fair : Fair l) (h : 1 ≤ l.length) (h2 : l.length ≤ 64) (k : Str) (m : Nat) : 1 ≤ (hB l k (brAt l m)).length := by
  have e : hB l k (brAt l m) = bo (hOs l k m) := rfl
  rw [e, bo_len]
  exact (hOs_ok fair h h2 k m).2.1
/-- the history of a round at a position -/
def hR (l : List (Int × Int)) (k : Str) (L N i : Nat) : List Bool := hist l k (N * l.length + i) L
theorem hR_past {l : List (Int × Int)} (h : 1 ≤ l.length) (k : Str) (L N i : Nat) : hR l k L N i = past (hB l k (brAt l i)) (cj l k (brAt l i) i + N * (hB l k (brAt l i)).length) L := by
  show hist l k (N * l.length + i) L = _
  rw [hist_cj, brAt_round, cj_round h]
theorem hR_late {l : List (Int × Int)} (fair : Fair l) (h : 1 ≤ l.length) (h2 : l.length ≤ 64) (k : Str) {L N : Nat} (hN : L ≤ N) (i : Nat) : hR l k L N i = hR l k L L i := by
  have pos := hB_pos fair h h2 k i
  rw [hR_past h, hR_past h]
  have e : cj l k (brAt l i) i + N * (hB l k (brAt l i)).length = cj l k (brAt l i) i + L * (hB l k (brAt l i)).length + (N - L) * (hB l k (brAt l i)).length := by
    rw [Nat.add_assoc, ← Nat.add_mul, show L + (N - L) = N by omega]
  rw [e, past_periods]
  have := Nat.le_mul_of_pos_right L pos
  omega
theorem hR_stays {l : List (Int × Int)} (fair : Fair l) (h : 1 ≤ l.length) (h2 : l.length ≤ 64) (k : Str) {L N N' i : Nat} (hs : hR l k L N i = hR l k L L i) (hN : N ≤ N') : hR l k L N' i = hR l k L L i := by
  have pos := hB_pos fair h h2 k i
  have lateN := hR_late fair h h2 k (L := L) (N := N + L) (by omega) i
  have lateM := hR_late fair h h2 k (L := L) (N := N' + L) (by omega) i
  rw [← lateM]
  rw [← lateN] at hs
  rw [hR_past h, hR_past h] at hs ⊢
  generalize hB l k (brAt l i) = bs at *
  generalize cj l k (brAt l i) i = c at *
  have e1 : c + (N + L) * bs.length = c + N * bs.length + L * bs.length := by rw [Nat.add_mul, Nat.add_assoc]
  rw [e1] at hs
  have st := past_stays hs ((N' - N) * bs.length)
  have e2 : c + N * bs.length + (N' - N) * bs.length = c + N' * bs.length := by rw [Nat.add_assoc, ← Nat.add_mul, show N + (N' - N) = N' by omega]
  rw [e2] at st
  rw [st, Nat.add_mul, Nat.add_assoc]
/-! ### the steady ones, as the program finds them -/
abbrev nSCells : List Str := ["trace", "scheme", "moments", "position", "moment"]
section
variable {P : Program} {w : World} {K : PySem.W.Frag} {mg : Str → Option Value} {base : Heap}
def spMom (K : PySem.W.Frag) : Sp := fun vs H Q _ => ∃ (t c : Addr) (xs : List V) (k : Str) (z : Int) (x : Option Int) (p : Int), vs = [.ref t, .ref c, .int p] ∧ SqT K H t xs ∧ SqT K H c (planV k z x) ∧ 0 ≤ z ∧ z ≤ 65 ∧ ∀ H', Same H H' → Q (.int (p + z * (xs.length : Nat))) H'
theorem mom_nat {l : List (Int × Int)} {z : Int} {p n : Nat} (z0 : 0 ≤ z) (len : n = l.length) : (p : Int) + z * (n : Nat) = ((z.toNat * l.length + p : Nat) : Int) := by
  have : ((z.toNat : Nat) : Int) = z := Int.toNat_of_nonneg z0
  rw [len, Int.natCast_add, Int.natCast_mul, this]
  omega
theorem mom_le {l : List (Int × Int)} {z : Int} {p : Nat} (z1 : z ≤ 65) (l64 : l.length ≤ 64) (hp : p ≤ 10 ^ 18) : z.toNat * l.length + p ≤ 10 ^ 19 := by
  have := Nat.mul_le_mul (show z.toNat ≤ 65 by omega) l64
  omega
/-- the steady cells -/
def cellsD (l : List (Int × Int)) (k : Str) (z : Int) (x : Option Int) (n : Nat) : List PyData := (List.range n).map fun i => cellD k x (brAt l i).toNat (hR l k z.toNat z.toNat i)
theorem cellA_round (l : List (Int × Int)) (k : Str) (z : Int) (x : Option Int) (N i : Nat) : cellA l k z x (N * l.length + i) = cellD k x (brAt l i).toNat (hR l k z.toNat N i) := by
  unfold cellA
  rw [brAt_round]
  rfl
theorem cell_tups (k : Str) (x : Option Int) (b : Nat) (h : List Bool) : tups (cellD k x b h) = true := by
  unfold cellD
  split
  · rfl
  · split <;> rfl
theorem tups_all {ds : List PyData} (h : ∀ d ∈ ds, tups d = true) : tupsAll ds = true := by
  induction ds with
  | nil => rfl
  | cons d r ih =>
    simp only [tupsAll, h d List.mem_cons_self, ih fun e he => h e (List.mem_cons_of_mem _ he), Bool.and_self]
theorem cells_tups (l : List (Int × Int)) (k : Str) (z : Int) (x : Option Int) (n : Nat) : tupsAll (cellsD l k z x n) = true := tups_all fun d hd => by
  obtain ⟨i, _, rfl⟩ := List.mem_map.mp hd
  exact cell_tups _ _ _ _
theorem DpAll.keepT {K : PySem.W.Frag} {H H' : Hp} (k : Keep K H H') : ∀ {vs : List V} {ds : List PyData}, tupsAll ds = true → DpAll K H vs ds → DpAll K H' vs ds
  | _, _, _, .nil => .nil
  | _, _, h, .cons a t => by
    simp only [tupsAll, Bool.and_eq_true] at h
    exact .cons (Dp.keep k _ _ h.1 a) (DpAll.keepT k h.2 t)
def spSCells (K : PySem.W.Frag) : Sp := fun vs H Q _ => ∃ (t c : Addr) (l : List (Int × Int)) (k : Str) (z : Int) (x : Option Int), vs = [.ref t, .ref c] ∧ PairsAt K H t l ∧ Fair l ∧ 1 ≤ l.length ∧ l.length ≤ 64 ∧ SqT K H c (planV k z x) ∧ PlanOk k z x ∧
  ∀ H' r as, Same H H' → SqT K H' r as → DpAll K H' as (cellsD l k z x l.length) → Q (.ref r) H'
end
end Pf
namespace Pf
open PySem PySem.Spec PyProof.Rows L2 Gk
/-! ### cells whose tuples are told as such: keys of dicts -/
/-- a cell that is a tuple stands as one -/
def TupHere (H : Hp) (v : V) (d : PyData) : Prop := ∀ b t, d = .tuple [.int b, .str t] → ∃ p, v = .ref p ∧ H p = some (.tup [.int b, .str t])
def Ck (K : PySem.W.Frag) (H : Hp) (v : V) (d : PyData) : Prop := Dp K H v d ∧ TupHere H v d
theorem Ck.int {K : PySem.W.Frag} {H : Hp} (i : Int) : Ck K H (.int i) (.int i) := ⟨.int _, fun _ _ e => nomatch e⟩
theorem Ck.str {K : PySem.W.Frag} {H : Hp} (s : Str) : Ck K H (.str s) (.str s) := ⟨.str _, fun _ _ e => nomatch e⟩
theorem Ck.tup {K : PySem.W.Frag} {H : Hp} {p : Addr} {b : Int} {t : Str} (h : H p = some (.tup [.int b, .str t])) : Ck K H (.ref p) (.tuple [.int b, .str t]) :=
  ⟨.tup (.inl (.inl h)) (.cons (.int _) (.cons (.str _) .nil)), fun b' t' e => by
    injection e with e
    injection e with e1 e2
    injection e2 with e2 _
    injection e1 with e1
    injection e2 with e2
    subst e1 e2
    exact ⟨p, rfl, h⟩⟩
theorem TupHere.same {H H' : Hp} {v : V} {d : PyData} (h : TupHere H v d) (s : ∀ b ts, H b = some (.tup ts) → H' b = some (.tup ts)) : TupHere H' v d := fun b t e => by
  obtain ⟨p, e1, e2⟩ := h b t e
  exact ⟨p, e1, s _ _ e2⟩
/-- so all of a list -/
def TupsHere (H : Hp) (vs : List V) (ds : List PyData) : Prop := ∀ (i : Nat) (v : V) (d : PyData), vs[i]? = some v → ds[i]? = some d → TupHere H v d
theorem TupsHere.same {H H' : Hp} {vs : List V} {ds : List PyData} (h : TupsHere H vs ds) (s : ∀ b ts, H b = some (.tup ts) → H' b = some (.tup ts)) : TupsHere H' vs ds := fun i v d e1 e2 => (h i v d e1 e2).same s
theorem TupsHere.nil {H : Hp} : TupsHere H [] [] := fun i v d e => by simp at e
theorem TupsHere.snoc {H : Hp} {vs : List V} {ds : List PyData} {v : V} {d : PyData} (h : TupsHere H vs ds) (hl : vs.length = ds.length) (hv : TupHere H v d) : TupsHere H (vs ++ [v]) (ds ++ [d]) := fun i v' d' e1 e2 => by
  rcases Nat.lt_trichotomy i vs.length with g | g | g
  · rw [List.getElem?_append_left g] at e1
    rw [List.getElem?_append_left (by omega)] at e2
    exact h i v' d' e1 e2
  · rw [List.getElem?_append_right (by omega), show i - vs.length = 0 by omega] at e1
    rw [List.getElem?_append_right (by omega), show i - ds.length = 0 by omega] at e2
    obtain rfl := Option.some.inj e1
    obtain rfl := Option.some.inj e2
    exact hv
  · rw [List.getElem?_append_right (by omega), List.getElem?_eq_none (by show 1 ≤ _; omega)] at e1
    cases e1
theorem tup_keep {H : Hp} {D : Addr} {xs : List V} {o : HO} (h : H D = some (.lst xs)) (b : Addr) (ts : List V) (e : H b = some (.tup ts)) : (upd H D o) b = some (.tup ts) := by
  rw [upd_ne (fun z => by rw [z, h] at e; cases e)]
  exact e
section
variable {P : Program} {w : World} {K : PySem.W.Frag} {mg : Str → Option Value} {base : Heap}
def spCellC (K : PySem.W.Frag) : Sp := fun vs H Q _ => ∃ (c : Addr) (k : Str) (z : Int) (x : Option Int) (b : Nat) (h : List Bool), vs = [.ref c, .int (b : Int), .str (txt h)] ∧ SqT K H c (planV k z x) ∧ PlanOk k z x ∧ b < 8 ∧ h.length ≤ 64 ∧ ∀ H' v, Same H H' → Ck K H' v (cellD k x b h) → Q v H'
theorem ok_cellC {f : Addr} {fd : FuncData} (DF : Dfn P w K mg base 2 "fold" ["history", "bits", "branch"] spFold) (F : L2.Fun K "cell_of" "cell_of" sCellOf f fd) : FnOk P w K mg base L2.CX0 3 f fd ["scheme", "branch", "history"] (spCellC K) := by
  refine F.ok scCellOf (fun vs H Q E h => ?_) (fun cdv A outer s H vs Q E hr h => ?_)
  · obtain ⟨c, k, z, x, b, h, rfl, _⟩ := h
    rfl
  · obtain ⟨c, k, z, x, b, h, rfl, hc, ok, hb, hh, q⟩ := h
    refine ⟨_, pss_cons (ps_if (pt_cmpR op_eq (pe_ix ix_tup (pv 0) pe_int (fun _ _ => rfl)) pe_str (nomark _)) (pss_one (ps_ret (pe_d DF hr (by decide) (by rfl) (pa_cons (pv 2) (pa_cons (pe_ix ix_tup (pv 0) pe_int (fun _ _ => rfl)) (pa_cons (pv 1) pa_nil)))))) pss_nil)
      (pss_cons (ps_if (pt_cmpR op_eq (pe_ix ix_tup (pv 0) pe_int (fun _ _ => rfl)) pe_str (nomark _)) (pss_one (ps_ret (pv 2))) pss_nil)
      (pss_one (ps_ret (pe_tup (pa_cons (pv 1) (pa_cons (pv 2) pa_nil)))))), ?_⟩
    refine ⟨.ref c, rfl, c, _, 0, .str k, rfl, rfl, hc, planV0 _ _ _, rfl, _, rfl, ite2 (fun e => ?_) (fun e => ?_)⟩
    · have e1 : V.str k = V.str "folded" := of_decide_eq_true e
      injection e1 with e1
      obtain ⟨_, _, ⟨_, t, rfl, t0, t1⟩ | ⟨h2, _⟩⟩ := ok
      · refine ⟨.str (txt h), rfl, .ref c, rfl, c, _, 2, .int t, rfl, rfl, hc, rfl, .int b, rfl, h, t.toNat, b, ?_, hh, by omega, hb, fun H' s' => q H' _ s' ?_⟩
        · rw [Int.toNat_of_nonneg t0]
          rfl
        · unfold cellD
          rw [if_pos e1]
          exact Ck.int _
      · rw [e1] at h2
        exact absurd h2 (by decide +kernel)
    · have ne : k ≠ "folded" := fun z => e (decide_eq_true (by rw [z]))
      refine ⟨.ref c, rfl, c, _, 0, .str k, rfl, rfl, hc, planV0 _ _ _, rfl, _, rfl, ite2 (fun g => ?_) (fun g => ?_)⟩
      · have g1 : V.str k = V.str "shared" := of_decide_eq_true g
        injection g1 with g1
        refine ⟨.str (txt h), rfl, q H _ (Same.refl H) ?_⟩
        unfold cellD
        rw [if_neg ne, if_pos g1]
        exact Ck.str _
      · have ng : k ≠ "shared" := fun z => g (decide_eq_true (by rw [z]))
        refine ⟨.int b, rfl, .str (txt h), rfl, by show 2 ≤ sizeLine; decide, fun p np => q _ _ (same_new np) ?_⟩
        unfold cellD
        rw [if_neg ne, if_neg ng]
        exact Ck.tup upd_same
def spCellAtC (K : PySem.W.Frag) : Sp := fun vs H Q _ => ∃ (t c : Addr) (l : List (Int × Int)) (k : Str) (z : Int) (x : Option Int) (m : Nat), vs = [.ref t, .ref c, .int (m : Int)] ∧ PairsAt K H t l ∧ Fair l ∧ 1 ≤ l.length ∧ l.length ≤ 64 ∧ SqT K H c (planV k z x) ∧ PlanOk k z x ∧ m ≤ 10 ^ 19 ∧
  ∀ H' v, Same H H' → Ck K H' v (cellA l k z x m) → Q v H'
def spSCellsC (K : PySem.W.Frag) : Sp := fun vs H Q _ => ∃ (t c : Addr) (l : List (Int × Int)) (k : Str) (z : Int) (x : Option Int), vs = [.ref t, .ref c] ∧ PairsAt K H t l ∧ Fair l ∧ 1 ≤ l.length ∧ l.length ≤ 64 ∧ SqT K H c (planV k z x) ∧ PlanOk k z x ∧
  ∀ H' r as, Same H H' → SqT K H' r as → DpAll K H' as (cellsD l k z x l.length) → TupsHere H' as (cellsD l k z x l.length) → Q (.ref r) H'
end
end Pf
namespace Pf
open PySem PySem.Spec PyProof.Rows L2 Gk Fold
/-! ### dicts with cells as keys: what is kept of each cell -/
abbrev CK := Sum L2.Key (List L2.Key)
/-- the cell of a branch and a history, as a key -/
def cK (k : Str) (x : Option Int) (b : Nat) (h : List Bool) : CK := if k = "folded" then .inl (.inl ((fol h (x.getD 0).toNat b : Nat) : Int)) else if k = "shared" then .inl (.inr (txt h)) else .inr [.inl (b : Int), .inr (txt h)]
def tupK (k : Str) : Bool := !(decide (k = "folded") || decide (k = "shared"))
/-- at a: a dict that keeps f of the cells, n of them at most -/
def VD (H : Hp) (a : Addr) (k : Str) (f : CK → Option V) (n : Nat) : Prop :=
  (tupK k = false ∧ ∃ kvs, H a = some (.dK kvs) ∧ kvs.length ≤ n ∧ ∀ q, valV kvs q = f (.inl q)) ∨ (tupK k = true ∧ ∃ kvs, H a = some (.dT kvs) ∧ kvs.length ≤ n ∧ ∀ q, valV kvs q = f (.inr q))
theorem cK_inl {k : Str} {x : Option Int} {b : Nat} {h : List Bool} {H : Hp} {K : PySem.W.Frag} {v : V} (c : Ck K H v (cellD k x b h)) (t : tupK k = false) : ∃ q, cK k x b h = .inl q ∧ v = kV q := by
  unfold tupK at t
  rw [Bool.not_eq_false', Bool.or_eq_true, decide_eq_true_eq, decide_eq_true_eq] at t
  obtain ⟨c, _⟩ := c
  unfold cellD at c
  unfold cK
  rcases t with rfl | rfl
  · rw [if_pos rfl] at c ⊢
    cases c
    exact ⟨_, rfl, rfl⟩
  · rw [if_neg (by decide +kernel), if_pos rfl] at c ⊢
    cases c
    exact ⟨_, rfl, rfl⟩
theorem cK_inr {k : Str} {x : Option Int} {b : Nat} {h : List Bool} {H : Hp} {K : PySem.W.Frag} {v : V} (c : Ck K H v (cellD k x b h)) (t : tupK k = true) : ∃ q p, cK k x b h = .inr q ∧ v = .ref p ∧ H p = some (.tup (q.map kV)) := by
  unfold tupK at t
  rw [Bool.not_eq_true', Bool.or_eq_false_iff, decide_eq_false_iff_not, decide_eq_false_iff_not] at t
  obtain ⟨_, c⟩ := c
  unfold cellD at c
  unfold cK
  rw [if_neg t.1, if_neg t.2] at c ⊢
  obtain ⟨p, rfl, hp⟩ := c _ _ rfl
  exact ⟨_, p, rfl, rfl, hp⟩
theorem VD.get {k : Str} {x : Option Int} {b : Nat} {h : List Bool} {H : Hp} {K : PySem.W.Frag} {v : V} {a : Addr} {f : CK → Option V} {n : Nat} (d : VD H a k f n) (c : Ck K H v (cellD k x b h)) : DGet H a v (f (cK k x b h)) := by
  rcases d with ⟨t, kvs, e, _, l⟩ | ⟨t, kvs, e, _, l⟩
  · obtain ⟨q, eq, rfl⟩ := cK_inl c t
    rw [eq]
    exact .inl ⟨kvs, q, .inl e, rfl, (l q).symm⟩
  · obtain ⟨q, p, eq, rfl, hp⟩ := cK_inr c t
    rw [eq]
    exact .inr ⟨kvs, q, p, .inl e, rfl, hp, (l q).symm⟩
theorem VD.put {k : Str} {x : Option Int} {b : Nat} {h : List Bool} {H : Hp} {K : PySem.W.Frag} {v y : V} {a : Addr} {f : CK → Option V} {n : Nat} (d : VD H a k f n) (c : Ck K H v (cellD k x b h)) (hn : n < sizeLine) :
    ∃ H', DPut H a v y H' ∧ VD H' a k (fun q => if q = cK k x b h then some y else f q) (n + 1) ∧ ∀ z, z ≠ a → H' z = H z := by
  rcases d with ⟨t, kvs, e, ln, l⟩ | ⟨t, kvs, e, ln, l⟩
  · obtain ⟨q, eq, rfl⟩ := cK_inl c t
    refine ⟨_, .inl ⟨kvs, q, e, rfl, by omega, rfl⟩, .inl ⟨t, _, upd_same, by have := length_putK kvs q y; omega, fun r => ?_⟩, fun z hz => upd_ne hz⟩
    rw [valV_put, eq, l]
    dsimp only
    by_cases er : r = q
    · rw [if_pos er, if_pos (by rw [er])]
    · rw [if_neg er, if_neg (fun z => er (Sum.inl.inj z))]
  · obtain ⟨q, p, eq, rfl, hp⟩ := cK_inr c t
    refine ⟨_, .inr ⟨kvs, q, p, e, rfl, hp, by omega, rfl⟩, .inr ⟨t, _, upd_same, by have := length_putK kvs q y; omega, fun r => ?_⟩, fun z hz => upd_ne hz⟩
    rw [valV_put, eq, l]
    dsimp only
    by_cases er : r = q
    · rw [if_pos er, if_pos (by rw [er])]
    · rw [if_neg er, if_neg (fun z => er (Sum.inr.inj z))]
end Pf
namespace Pf
open PySem PySem.Spec PyProof.Rows L2 Gk
/-! ### one counter -/
def top (w : Int) : Int := 1 * 2 ^ w.toNat - 1
def prd (w v : Int) : Int := if 2 * v > top w then 1 else 0
def aft (w v o : Int) : Int := if o = 1 then (if top w < v + 1 then top w else v + 1) else (if 0 > v - 1 then 0 else v - 1)
theorem pow2_mono {a b : Nat} (h : a ≤ b) : (2 : Int) ^ a ≤ 2 ^ b := by
  have e := Nat.pow_le_pow_right (n := 2) (by decide) h
  exact_mod_cast e
theorem top_pos {w : Int} (h : 1 ≤ w) : 1 ≤ top w := by
  unfold top
  have : (2 : Int) ^ 1 ≤ 2 ^ w.toNat := pow2_mono (by omega)
  omega
theorem top_le {w : Int} {n : Nat} (h : w ≤ (n : Int)) : top w ≤ 2 ^ n := by
  unfold top
  have : (2 : Int) ^ w.toNat ≤ 2 ^ n := pow2_mono (by omega)
  omega
theorem aft_in {w v o : Int} (h : 1 ≤ w) (h0 : 0 ≤ v) (h1 : v ≤ top w) : 0 ≤ aft w v o ∧ aft w v o ≤ top w := by
  have := top_pos h
  unfold aft
  repeat' split
  all_goals omega
theorem prd_in (w v : Int) : prd w v = 0 ∨ prd w v = 1 := by
  unfold prd
  split
  · exact .inr rfl
  · exact .inl rfl
abbrev sMost : Stmt := topS 1
abbrev sPred : Stmt := topS 2
abbrev sAft : Stmt := topS 3
theorem scMost : FnScope ["bits"] ["bits"] (defScope sMost) := ⟨rfl, rfl, rfl, by decide +kernel, rfl, by decide +kernel, by decide +kernel⟩
theorem scPred : FnScope ["bits", "value"] ["bits", "value"] (defScope sPred) := ⟨rfl, rfl, rfl, by decide +kernel, rfl, by decide +kernel, by decide +kernel⟩
theorem scAft : FnScope ["bits", "value", "outcome"] ["bits", "value", "outcome"] (defScope sAft) := ⟨rfl, rfl, rfl, by decide +kernel, rfl, by decide +kernel, by decide +kernel⟩
section
variable {P : Program} {w : World} {K : PySem.W.Frag} {mg : Str → Option Value} {base : Heap}
def spMost : Sp := fun vs H Q _ => ∃ n : Int, vs = [.int n] ∧ 1 ≤ n ∧ n ≤ 64 ∧ Q (.int (top n)) H
theorem ok_most {f : Addr} {fd : FuncData} {k : Nat} (mx : mg "max" = none) (F : L2.Fun K "most_value" "most_value" sMost f fd) : FnOk P w K mg base L2.CX0 (k + 1) f fd ["bits"] spMost := by
  refine F.ok scMost (fun vs H Q E h => ?_) (fun cdv A outer s H vs Q E hr h => ?_)
  · obtain ⟨n, rfl, _⟩ := h
    rfl
  · obtain ⟨n, rfl, n1, n2, q⟩ := h
    refine ⟨_, pss_one (ps_ret (pe_op op_sub (pe_op op_shl pe_int (pe_callB (call_max2 rfl) (by rfl) mx (by decide +kernel) (pa_cons pe_int (pa_cons (pv 0) pa_nil)))) pe_int)), ?_⟩
    have e : (if n > 0 then n else 0) = n := if_pos (by omega)
    refine ⟨.int n, rfl, _, _, rfl, _, _, rfl, rfl, ?_, _, _, rfl, rfl, ?_⟩
    · rw [e]
      exact ⟨by omega, by omega, by decide⟩
    · rw [e]
      exact q
def spPred : Sp := fun vs H Q _ => ∃ n v : Int, vs = [.int n, .int v] ∧ 1 ≤ n ∧ n ≤ 64 ∧ Q (.int (prd n v)) H
theorem ok_pred {f : Addr} {fd : FuncData} (DM : Dfn P w K mg base 1 "most_value" ["bits"] spMost) (F : L2.Fun K "predicted" "predicted" sPred f fd) : FnOk P w K mg base L2.CX0 2 f fd ["bits", "value"] spPred := by
  refine F.ok scPred (fun vs H Q E h => ?_) (fun cdv A outer s H vs Q E hr h => ?_)
  · obtain ⟨n, v, rfl, _⟩ := h
    rfl
  · obtain ⟨n, v, rfl, n1, n2, q⟩ := h
    refine ⟨_, pss_one (ps_ret (pe_ifExp (pt_cmpR op_gt (pe_op op_mul pe_int (pv 1)) (pe_d DM hr (by decide) (by rfl) (pa_cons (pv 0) pa_nil)) (nomark _)) pe_int pe_int)), ?_⟩
    refine ⟨.int v, rfl, _, _, rfl, rfl, .inl ⟨by decide, by decide⟩, .int n, rfl, n, rfl, n1, n2, _, _, rfl, rfl, _, rfl, ite2 (fun e => ?_) (fun e => ?_)⟩
    · have g : prd n v = 1 := if_pos (of_decide_eq_true e)
      rw [g] at q
      exact q
    · have g : prd n v = 0 := if_neg (fun z => e (decide_eq_true z))
      rw [g] at q
      exact q
def spAft : Sp := fun vs H Q _ => ∃ n v o : Int, vs = [.int n, .int v, .int o] ∧ 1 ≤ n ∧ n ≤ 64 ∧ Q (.int (aft n v o)) H
theorem ok_aft {f : Addr} {fd : FuncData} (DM : Dfn P w K mg base 1 "most_value" ["bits"] spMost) (mx : mg "max" = none) (mn : mg "min" = none) (F : L2.Fun K "value_after" "value_after" sAft f fd) : FnOk P w K mg base L2.CX0 2 f fd ["bits", "value", "outcome"] spAft := by
  refine F.ok scAft (fun vs H Q E h => ?_) (fun cdv A outer s H vs Q E hr h => ?_)
  · obtain ⟨n, v, o, rfl, _⟩ := h
    rfl
  · obtain ⟨n, v, o, rfl, n1, n2, q⟩ := h
    refine ⟨_, pss_cons (ps_if (pt_cmpR op_eq (pv 2) pe_int (nomark _))
        (pss_one (ps_ret (pe_callB (call_min2 rfl) (by rfl) mn (by decide +kernel) (pa_cons (pe_op op_add (pv 1) pe_int) (pa_cons (pe_d DM hr (by decide) (by rfl) (pa_cons (pv 0) pa_nil)) pa_nil))))) pss_nil)
      (pss_one (ps_ret (pe_callB (call_max2 rfl) (by rfl) mx (by decide +kernel) (pa_cons (pe_op op_sub (pv 1) pe_int) (pa_cons pe_int pa_nil))))), ?_⟩
    refine ⟨.int o, rfl, rfl, _, rfl, ite2 (fun e => ?_) (fun e => ?_)⟩
    · have e1 : V.int o = V.int 1 := of_decide_eq_true e
      injection e1 with e2
      unfold aft at q
      rw [if_pos e2] at q
      exact ⟨.int v, rfl, _, _, rfl, rfl, .int n, rfl, n, rfl, n1, n2, _, _, rfl, q⟩
    · have e2 : o ≠ 1 := fun z => e (decide_eq_true (by rw [z]))
      unfold aft at q
      rw [if_neg e2] at q
      exact ⟨.int v, rfl, _, _, rfl, rfl, _, _, rfl, q⟩
end
end Pf
namespace Pf
open PySem PySem.Spec PyProof.Rows L2 Gk Fold
/-! ### a predictor, moment by moment: l the trace, k the kind of scheme, x its bits, L its length, w and v0 the counter -/
def outM (l : List (Int × Int)) (m : Nat) : Int := (l.getD (m % l.length) (0, 0)).2
/-- whose history it is -/
def ownO (k : Str) (b : Int) : Option Int := if k = "own" then some b else none
/-- the history of each owner ahead of the moment m -/
def hM (l : List (Int × Int)) (k : Str) (L : Nat) : Nat → Option Int → List Bool
  | 0, _ => List.replicate L false
  | m + 1, o => if o = ownO k (brAt l m) then (hM l k L m o ++ [decide (outM l m = 1)]).drop 1 else hM l k L m o
theorem hM_len (l : List (Int × Int)) (k : Str) (L : Nat) : ∀ (m : Nat) (o : Option Int), (hM l k L m o).length = L
  | 0, _ => List.length_replicate
  | m + 1, o => by
    unfold hM
    split
    · rw [List.length_drop, List.length_append, hM_len l k L m o]
      rfl
    · exact hM_len l k L m o
/-- the history and the cell of the moment m -/
def hAtM (l : List (Int × Int)) (k : Str) (L m : Nat) : List Bool := hM l k L m (ownO k (brAt l m))
def cM (l : List (Int × Int)) (k : Str) (x : Option Int) (L m : Nat) : CK := cK k x (brAt l m).toNat (hAtM l k L m)
/-- the value of each cell ahead of the moment m, none if it wasn't used -/
def vM (l : List (Int × Int)) (k : Str) (x : Option Int) (L : Nat) (w v0 : Int) : Nat → CK → Option Int
  | 0, _ => none
  | m + 1, c => if c = cM l k x L m then some (aft w ((vM l k x L w v0 m c).getD v0) (outM l m)) else vM l k x L w v0 m c
def valM (l : List (Int × Int)) (k : Str) (x : Option Int) (L : Nat) (w v0 : Int) (m : Nat) : Int := (vM l k x L w v0 m (cM l k x L m)).getD v0
def pM (l : List (Int × Int)) (k : Str) (x : Option Int) (L : Nat) (w v0 : Int) (m : Nat) : Int := prd w (valM l k x L w v0 m)
theorem vM_in {l : List (Int × Int)} {k : Str} {x : Option Int} {L : Nat} {w v0 : Int} (hw : 1 ≤ w) (h0 : 0 ≤ v0) (h1 : v0 ≤ top w) : ∀ (m : Nat) (c : CK), 0 ≤ (vM l k x L w v0 m c).getD v0 ∧ (vM l k x L w v0 m c).getD v0 ≤ top w
  | 0, _ => ⟨h0, h1⟩
  | m + 1, c => by
    unfold vM
    split
    · have := vM_in (l := l) (k := k) (x := x) (L := L) hw h0 h1 m c
      exact aft_in hw this.1 this.2
    · exact vM_in hw h0 h1 m c
theorem valM_in {l : List (Int × Int)} {k : Str} {x : Option Int} {L : Nat} {w v0 : Int} (hw : 1 ≤ w) (h0 : 0 ≤ v0) (h1 : v0 ≤ top w) (m : Nat) : 0 ≤ valM l k x L w v0 m ∧ valM l k x L w v0 m ≤ top w := vM_in hw h0 h1 m _
/-- what is told of the first M moments -/
def triD (p : Int × Int × Int) : PyData := .tuple [.int p.1, .int p.2.1, .int p.2.2]
def toldM (l : List (Int × Int)) (k : Str) (x : Option Int) (L : Nat) (w v0 : Int) (M : Nat) : List (Int × Int × Int) := (List.range M).map fun m => (brAt l m, pM l k x L w v0 m, outM l m)
theorem toldM_succ (l : List (Int × Int)) (k : Str) (x : Option Int) (L : Nat) (w v0 : Int) (M : Nat) : toldM l k x L w v0 (M + 1) = toldM l k x L w v0 M ++ [(brAt l M, pM l k x L w v0 M, outM l M)] := by
  unfold toldM
  rw [List.range_succ, List.map_append]
  rfl
theorem toldM_len (l : List (Int × Int)) (k : Str) (x : Option Int) (L : Nat) (w v0 : Int) (M : Nat) : (toldM l k x L w v0 M).length = M := by
  unfold toldM
  rw [List.length_map, List.length_range]
/-- the half of a counter's values, as the laws write it -/
theorem half_top {w : Int} (hw : 1 ≤ w) : 2 * ((1 : Int) * 2 ^ (w - 1).toNat) = top w + 1 := by
  unfold top
  rw [show w.toNat = (w - 1).toNat + 1 by omega, Int.pow_succ]
  omega
theorem prd_half {w v : Int} (hw : 1 ≤ w) : prd w v = if (1 : Int) * 2 ^ (w - 1).toNat ≤ v then 1 else 0 := by
  have := half_top hw
  unfold prd
  by_cases c : (1 : Int) * 2 ^ (w - 1).toNat ≤ v
  · rw [if_pos (by omega), if_pos c]
  · rw [if_neg (by omega), if_neg c]
theorem outM_bit {l : List (Int × Int)} (fair : Fair l) (h : 1 ≤ l.length) (m : Nat) : outM l m = 0 ∨ outM l m = 1 := (fair _ (List.mem_of_getElem? (at_mod h m))).2
theorem brAt_small {l : List (Int × Int)} (fair : Fair l) (h : 1 ≤ l.length) (m : Nat) : 0 ≤ brAt l m ∧ brAt l m ≤ 7 := (fair _ (List.mem_of_getElem? (at_mod h m))).1
/-- the text of a history that an outcome is pushed onto -/
theorem txt_push {h : List Bool} {o : Int} (ho : o = 0 ∨ o = 1) : txt ((h ++ [decide (o = 1)]).drop 1) = ⟨(((txt h).cps.toList ++ [if o = 1 then 49 else 48]).drop 1).toArray⟩ := by
  unfold txt
  rw [List.map_drop, List.map_append]
  rcases ho with rfl | rfl <;> rfl
end Pf
namespace Pf
open PySem PySem.Spec PyProof.Rows L2 Gk Fold
theorem sgn_is1 (d : Bool) : decide (V.str ⟨#[sgn d]⟩ = V.str ("1" : Str)) = d := by cases d <;> decide +kernel
abbrev nLFold : List Str := ["_law_past_here", "_law_width", "_law_home", "_law_found", "_law_number", "_law_sign"]
abbrev nLPast : List Str := ["_law_loop_here", "_law_plan_here", "_law_time", "_law_found", "_law_here", "_law_home", "_law_deed"]
section
variable {P : Program} {w : World} {K : PySem.W.Frag} {mg : Str → Option Value} {base : Heap}
def spLFold : Sp := fun vs H Q _ => ∃ (l : List Bool) (n b : Nat), vs = [.str (txt l), .int (n : Int), .int (b : Int)] ∧ l.length ≤ 64 ∧ n ≤ 16 ∧ b < 8 ∧ Q (.int ((fol l n b : Nat) : Int)) H
end
end Pf
namespace Pf
open PySem PySem.Spec PyProof.Rows L2 Gk Fold
/-! the law's own cell, its tuples told as keys of dicts -/
section
variable {P : Program} {w : World} {K : PySem.W.Frag} {mg : Str → Option Value} {base : Heap}
end
end Pf
/-! A generator def that is asked for its first item alone. -/
namespace Gk
open PySem PySem.Spec PyProof.Rows L2 GenW

/-- what is wanted behind a statement of a generator that has handed out nothing; yl: of the first item -/
structure FEnds where
  nx : L2.St → Hp → Prop
  rt : VK
  bk : L2.St → Hp → Prop := fun _ _ => False
  ct : L2.St → Hp → Prop := fun _ _ => False
  yl : VK
abbrev TF := FEnds → L2.St → Hp → Prop
def FEnds.at (D : FEnds) : Ends := { nx := D.nx, rt := D.rt, bk := D.bk, ct := D.ct }
def FY (X : Cx) (Q : VK) : Protocol := fun n s₀ v s kap => ∃ x ip σ H, RelV x v ∧ Inv X ip σ H s ∧ Q x H
structure FC (X : Cx) (A : Around) (c : Code) (fs : List Frame) (gd : Bool → Bool) : Prop where
  over : A.over c fs = X.A
  split : splitAtGen fs = none
  guard : fs.any Frame.guarded = false
  gd : gd false = false
  nox : ∀ e s, ¬ X.xe e s
structure FK (X : Cx) (ip : List (Addr × Obj)) (A : Around) (R : GenEnd) (c : Code) (fs : List Frame) (K : Flow → Sem PySem.Fin) (D : FEnds) : Prop where
  ok : ∀ (s₀ s : Shared) (f : Flow), SP X ip D.at f s → Seg (model X.prog X.w) A R (FY X D.yl) 1 s₀ c (K f) fs s
structure FS (X : Cx) (st : Stmt) (t : TF) : Prop where
  run : ∀ (A : Around) (ip : List (Addr × Obj)) (R : GenEnd) (s₀ : Shared) (c : Code) (fs : List Frame) (K : Flow → Sem PySem.Fin) (J : Value → Sem PySem.Fin) (gd : Bool → Bool) (lv : List Value → List Value) (s : Shared) (σ : L2.St) (H : Hp) (D : FEnds),
    FC X A c fs gd → FK X ip A R c fs K D → Inv X ip σ H s → t D σ H →
    Seg (model X.prog X.w) A R (FY X D.yl) 1 s₀ c ((exec st X.env).wrap K J gd lv) fs s
structure FSs (X : Cx) (st : List Stmt) (t : TF) : Prop where
  run : ∀ (A : Around) (ip : List (Addr × Obj)) (R : GenEnd) (s₀ : Shared) (c : Code) (fs : List Frame) (K : Flow → Sem PySem.Fin) (J : Value → Sem PySem.Fin) (gd : Bool → Bool) (lv : List Value → List Value) (s : Shared) (σ : L2.St) (H : Hp) (D : FEnds),
    FC X A c fs gd → FK X ip A R c fs K D → Inv X ip σ H s → t D σ H →
    Seg (model X.prog X.w) A R (FY X D.yl) 1 s₀ c ((execs st X.env).wrap K J gd lv) fs s
section
variable {X : Cx} {st : Stmt} {rest : List Stmt}
def tFPlain (t : TS) : TF := fun D σ H => t D.at σ H
theorem fs_ps {t : TS} (h : PS X st t) : FS X st (tFPlain t) := by
  refine ⟨fun A ip R s₀ c fs K J gd lv s σ H D g k I ht => ?_⟩
  refine seg_wrap ?_
  rw [g.over]
  exact wpAny_mono (h.run _ s σ H D.at I ht) (fun f s' hs => k.ok s₀ s' f hs) fun x s' hx => (g.nox x s' hx).elim
def tF0 : TF := fun D σ H => D.nx σ H
theorem fss_nil : FSs X [] tF0 := by
  refine ⟨fun A ip R s₀ c fs K J gd lv s σ H D g k I ht => ?_⟩
  exact seg_execs_nil (k.ok s₀ s .next ⟨σ, H, I, ht⟩)
def tFThen (t u : TF) : TF := fun D σ H => t { D with nx := fun σ' H' => u D σ' H' } σ H
theorem fss_cons {t u : TF} (a : FS X st t) (b : FSs X rest u) : FSs X (st :: rest) (tFThen t u) := by
  refine ⟨fun A ip R s₀ c fs K J gd lv s σ H D g k I ht => ?_⟩
  refine seg_execs_cons ?_
  refine a.run A ip R s₀ c fs _ J gd lv s σ H { D with nx := fun σ' H' => u D σ' H' } g ⟨fun s₀' s' f hs => ?_⟩ I ht
  cases f with
  | next =>
    obtain ⟨σ', H', I', q⟩ := hs
    exact b.run A ip R s₀' c fs K J gd lv s' σ' H' D g k I' q
  | brk => exact k.ok s₀' s' .brk hs
  | cont => exact k.ok s₀' s' .cont hs
  | ret u => exact k.ok s₀' s' (.ret u) hs
theorem fss_one {t : TF} (a : FS X st t) : FSs X [st] (tFThen t tF0) := fss_cons a fss_nil
def tFYield (te : TE) : TF := fun D σ H => te σ H D.yl
theorem fs_yield {e : Expr} {yp pos : Pos} {te : TE} (he : PE X e te) (hco : X.env.scope.isCoroutine = false := by rfl) (hi : interactive X.env = false := by rfl) : FS X (.Expr (.Yield (some e) yp) pos) (tFYield te) := by
  refine ⟨fun A ip R s₀ c fs K J gd lv s σ H D g k I ht => ?_⟩
  refine seg_Expr_Yield (n := 0) g.split g.gd g.guard ?_ hco hi
  rw [g.over]
  refine wpAny_mono (he.run _ s σ H _ I ht) (fun v s' hv => ?_) fun x s' hx => (g.nox x s' hx).elim
  obtain ⟨x, H1, I1, rv, q⟩ := hv
  intro kap hk
  exact ⟨x, ip, σ, H1, rv, I1, q⟩
def tFIf (c : TT) (t u : TF) : TF := fun D σ H => c σ H fun b H1 => if b = true then t D σ H1 else u D σ H1
theorem fs_if {test : Expr} {body orelse : List Stmt} {pos : Pos} {tc : TT} {tb te : TF} (hc : PT X test tc) (hb : FSs X body tb) (he : FSs X orelse te) : FS X (.If test body orelse pos) (tFIf tc tb te) := by
  refine ⟨fun A ip R s₀ c fs K J gd lv s σ H D g k I ht => ?_⟩
  rw [exec_If]
  show Seg _ _ _ _ _ s₀ c (.at pos fun _ => ((isTrue test X.env (eval test X.env)) >>= fun b => if b = true then execs body X.env else execs orelse X.env).wrap K J gd lv) fs s
  refine seg_at (seg_bind_wrap ?_)
  rw [g.over]
  refine wpAny_mono (hc.run _ s σ H _ I ht) (fun b s' hb' => ?_) fun x s' hx => (g.nox x s' hx).elim
  obtain ⟨H1, I1, q⟩ := hb'
  cases b with
  | true =>
    rw [if_pos rfl] at q
    rw [if_pos rfl]
    exact hb.run A ip R s₀ c fs K J gd lv s' σ H1 D g k I1 q
  | false =>
    rw [if_neg Bool.false_ne_true] at q
    rw [if_neg Bool.false_ne_true]
    exact he.run A ip R s₀ c fs K J gd lv s' σ H1 D g k I1 q
end

/-! ### for -/
section
variable {prog : Program} {w : World} {A : Around} {R : GenEnd} {Y : Protocol} {n : Nat} {s₀ : Shared} {fs : List Frame} {s : Shared} {env : Env}
theorem seg_forLoop {target : Expr} {it : Value} {body : List Stmt} (J : Value → Sem PySem.Fin) (hJ : ∀ e, J e = (do noteFrame e env; theTreesLotGoes e : Sem Unit).bind fun _ => .raise e)
    (h : wpAny (model prog w) (A.over (.forLoop target it body [] env) fs) (pyNext it) (fun r s1 => match r with
      | none => Seg (model prog w) A R Y n s₀ (.forLoop target it body [] env) (.pure (.again (.block [] env))) fs s1
      | some v => wpAny (model prog w) (A.over (.forLoop target it body [] env) fs) (letOwnedTupleGo target it v) (fun _ s2 => wpAny (model prog w) (A.over (.forLoop target it body [] env) fs) (assign target env v) (fun _ s3 =>
          Seg (model prog w) A R Y n s₀ (.forLoop target it body [] env) ((execs body env).wrap (fun f => match f with
            | .next | .cont => .pure (.again (.forLoop target it body [] env))
            | .brk => .pure (.done .next)
            | .ret v => .pure (.done (.ret v))) J id id) fs s3) (fun _ _ => False) s2) (fun _ _ => False) s1) (fun _ _ => False) s) :
    Seg (model prog w) A R Y n s₀ (.forLoop target it body [] env) ((model prog w).den (.forLoop target it body [] env)) fs s := by
  show Seg _ A R Y n s₀ _ ((forTurn target it body [] env).onRaise (fun x => do noteFrame x env; theTreesLotGoes x)) fs s
  rw [Sem.onRaise_eq_wrap]
  unfold forTurn
  refine seg_bind_wrap (wpAny_standAt ?_)
  refine seg_bind_wrap (wpAny_onRaise (wpAny_mono h (fun r s1 h1 => ?_) fun _ _ z => z.elim))
  cases r with
  | none => exact h1
  | some v =>
    dsimp only at h1 ⊢
    refine seg_bind_wrap (wpAny_mono h1 (fun _ s2 h2 => ?_) fun _ _ z => z.elim)
    refine seg_bind_wrap (wpAny_mono h2 (fun _ s3 h3 => ?_) fun _ _ z => z.elim)
    rw [Sem.bind_eq_wrap', Sem.wrap_wrap]
    rw [Sem.wrap_congr (execs body env) _ _ (K' := fun f => match f with
            | .next | .cont => .pure (.again (.forLoop target it body [] env))
            | .brk => .pure (.done .next)
            | .ret v => .pure (.done (.ret v))) (H' := J) (fun f => by cases f <;> rfl) (fun e => by rw [hJ]; rfl)]
    exact h3
end
section
variable {X : Cx}
theorem fc_loop {A : Around} {c c' : Code} {fs : List Frame} {gd : Bool → Bool} {k : Result → Sem PySem.Fin} {l kp : List Value} {p : Pos} (g : FC X A c fs gd) (hw : c'.weight = 0) (hu : c'.cUnits = 0) :
    FC X A c' (.ret k none (gd false) l c p kp :: fs) id where
  over := (over_loop hw hu).trans g.over
  split := by
    show (splitAtGen fs).map _ = none
    rw [g.split]; rfl
  guard := by
    show (gd false || fs.any Frame.guarded) = false
    rw [g.gd, g.guard]; rfl
  gd := rfl
  nox := g.nox
def tFFor (wi : TI) (g : TG) (tb : TF) : TF := fun D σ H => wi σ H fun J H1 => ∃ W : Nat → Nat → L2.St → Hp → Prop, (∃ m, W 0 m σ H1) ∧ ∀ i m σ H, W i m σ H →
  (J.stop i H ∧ D.nx σ H) ∨ (J.go i H ∧ ∃ N : L2.St → Hp → Prop, (∀ σ' H', N σ' H' → ∃ m', m' < m ∧ W (i + 1) m' σ' H') ∧ ∀ x H', J.yld i H x H' → g x σ H' fun σ2 H2 => tb { D with nx := N, ct := N, bk := D.nx } σ2 H2)
theorem fs_for {tg iter : Expr} {body : List Stmt} {wi : TI} {g : TG} {tb : TF} {pos : Pos} (hc : X.calm = true) (hi : PI X tg iter wi) (hg : PG X tg g) (hb : FSs X body tb)
    (hs : ∀ x, foldedSetIterable iter X.env x = pure x := by intro _; rfl) : FS X (.For tg iter body [] pos) (tFFor wi g tb) := by
  refine ⟨fun A ip R s₀ c fs K J gd lv s σ H D gc k I ht => ?_⟩
  rw [exec_For]
  show Seg _ _ _ _ _ s₀ c (.at pos fun _ => (eval iter X.env >>= fun v => foldedSetIterable iter X.env v >>= fun x => standAt iter.pos >>= fun _ => holding [x] (pyIter x) >>= fun it => runOwn (.forLoop tg it body [] X.env) X.env).wrap K J gd lv) fs s
  refine seg_at (seg_bind_wrap ?_)
  rw [gc.over]
  refine wpAny_mono (hi.run _ s σ H _ I ht) (fun v s1 h1 => ?_) fun x s' hx => (gc.nox x s' hx).elim
  refine seg_bind_wrap (wpAny_of_eq (hs v) ?_)
  refine seg_bind_wrap (wpAny_standAt ?_)
  refine seg_bind_wrap (wpAny_holding ?_)
  rw [gc.over]
  refine wpAny_mono h1 (fun itv s2 h2 => ?_) fun x s' hx => (gc.nox x s' hx).elim
  obtain ⟨it, fp, tn, Jt, H2, e, I2, T, st2, f2, W, ⟨m0, w0⟩, turn⟩ := h2
  subst e
  have stat : ∀ {H' : Hp}, (∀ b ∈ fp, H' b = none) → ∀ b ∈ fp, FpOk X ip H' b := fun hn b hb => ⟨hn b hb, (f2 b hb).2⟩
  show Seg _ _ _ _ _ s₀ c (.call (.forLoop tg (.ref it) body [] X.env) none (gd false) (lv []) fun r => ((match r with | .ok f => (.pure f : Sem Flow) | .error e => .raise e).onRaise (cameBack X.env)).wrap K J gd lv) fs s2
  refine seg_call fun p => ?_
  have gl := fun (kk : Result → Sem PySem.Fin) => fc_loop (k := kk) (c' := .forLoop tg (.ref it) body [] X.env) (l := lv []) (kp := []) (p := p) gc rfl rfl
  have loop : ∀ (m i : Nat) (s₀ s : Shared) (σ : L2.St) (H : Hp), Inv X ip σ H s → tn i s.heap → (∀ b ∈ fp, H b = none) → W i m σ H →
      Seg (model X.prog X.w) A R (FY X D.yl) 1 s₀ (.forLoop tg (.ref it) body [] X.env) ((model X.prog X.w).den (.forLoop tg (.ref it) body [] X.env))
        (.ret (fun r => ((match r with | .ok f => (.pure f : Sem Flow) | .error e => .raise e).onRaise (cameBack X.env)).wrap K J gd lv) none (gd false) (lv []) c p [] :: fs) s := by
    intro m
    induction m using Nat.strongRecOn with
    | ind m ih =>
      intro i s₀ s3 σ3 H3 I3 st3 fr3 w3
      refine seg_forLoop (fun e => (do noteFrame e X.env; theTreesLotGoes e : Sem Unit).bind fun _ => .raise e) (fun _ => rfl) ?_
      rw [(gl _).over]
      rcases turn i m σ3 H3 w3 with ⟨stop, qn⟩ | ⟨go, N, hN, step⟩
      · refine wpAny_mono (T.done X rfl rfl rfl hc i ip s3 σ3 H3 (fun _ _ => False) I3 (stat fr3) st3 stop) (fun r s4 ⟨hr, I4⟩ => ?_) fun _ _ z => z.elim
        subst hr
        dsimp only
        refine seg_again rfl ?_
        exact seg_leaf (.ok .next) (k.ok s₀ s4 .next ⟨σ3, H3, I4, qn⟩)
      · refine wpAny_mono (T.item X rfl rfl rfl hc i ip s3 σ3 H3 (fun _ _ => False) I3 (stat fr3) st3 go) (fun r s4 ⟨u, hr, h4⟩ => ?_) fun _ _ z => z.elim
        subst hr
        dsimp only
        refine wpAny_mono h4 (fun _ s5 ⟨x, H5, I5, r5, y5, st5, fr5⟩ => ?_) fun _ _ z => z.elim
        have I5' := I5.pinned (stat fr5) (T.obj _ _ st5)
        refine wpAny_mono (hg.run _ s5 σ3 H5 x u _ I5' r5 (step x H5 y5)) (fun _ s6 ⟨σ6, H6, I6, q6⟩ => ?_) fun x s' hx => (gc.nox x s' hx).elim
        have again : ∀ {s7 : Shared} {σ7 : L2.St} {H7 : Hp}, Inv X (ip ++ pinsAt fp s5.heap) σ7 H7 s7 → N σ7 H7 → ∃ m', m' < m ∧ Inv X ip σ7 H7 s7 ∧ tn (i + 1) s7.heap ∧ (∀ b ∈ fp, H7 b = none) ∧ W (i + 1) m' σ7 H7 := fun {s7 σ7 H7} I7 n7 => by
          obtain ⟨m', hm, w7⟩ := hN σ7 H7 n7
          refine ⟨m', hm, I7.unpinned, T.keep _ _ _ st5 fun b hb o e => (I7.pin (b, o) (List.mem_append_right _ (List.mem_append_right _ (mem_pinsAt hb e)))).1, fun b hb => ?_, w7⟩
          obtain ⟨o, e, d⟩ := T.obj _ _ st5 b hb
          exact (I7.pin (b, o) (List.mem_append_right _ (List.mem_append_right _ (mem_pinsAt hb e)))).2.1
        refine hb.run A (ip ++ pinsAt fp s5.heap) R s₀ _ _ _ _ id id s6 σ6 H6 { D with nx := N, ct := N, bk := D.nx } (gl _) ⟨fun s₀' s7 f hs => ?_⟩ I6 q6
        cases f with
        | next =>
          obtain ⟨σ7, H7, I7, n7⟩ := hs
          obtain ⟨m', hm, J7, st7, fr7, w7⟩ := again I7 n7
          exact seg_again rfl (ih m' hm (i + 1) s₀' s7 σ7 H7 J7 st7 fr7 w7)
        | cont =>
          obtain ⟨σ7, H7, I7, n7⟩ := hs
          obtain ⟨m', hm, J7, st7, fr7, w7⟩ := again I7 n7
          exact seg_again rfl (ih m' hm (i + 1) s₀' s7 σ7 H7 J7 st7 fr7 w7)
        | brk =>
          obtain ⟨σ7, H7, I7, q7⟩ := hs
          exact seg_leaf (.ok .next) (k.ok s₀' s7 .next ⟨σ7, H7, I7.unpinned, q7⟩)
        | ret v =>
          obtain ⟨x7, σ7, H7, I7, r7, q7⟩ := hs
          exact seg_leaf (.ok (.ret v)) (k.ok s₀' s7 (.ret v) ⟨x7, σ7, H7, I7.unpinned, r7, q7⟩)
  exact loop m0 0 s₀ s2 σ H2 I2 st2 (fun b hb => (f2 b hb).1) w0
theorem for_rangeF {lo : Int} {n : Nat} {g : TG} {tb : TF} {D : FEnds} {σ : L2.St} {H : Hp} (Pv : Nat → L2.St → Hp → Prop) (h0 : Pv 0 σ H)
    (hs : ∀ i σ H, i < n → Pv i σ H → g (.int (lo + i)) σ H fun σ2 H2 => tb { D with nx := Pv (i + 1), ct := Pv (i + 1), bk := D.nx } σ2 H2) (hd : ∀ σ H, Pv n σ H → D.nx σ H) :
    ∃ W : Nat → Nat → L2.St → Hp → Prop, (∃ m, W 0 m σ H) ∧ ∀ i m σ H, W i m σ H →
      ((Itr lo n).stop i H ∧ D.nx σ H) ∨ ((Itr lo n).go i H ∧ ∃ N : L2.St → Hp → Prop, (∀ σ' H', N σ' H' → ∃ m', m' < m ∧ W (i + 1) m' σ' H') ∧ ∀ x H', (Itr lo n).yld i H x H' → g x σ H' fun σ2 H2 => tb { D with nx := N, ct := N, bk := D.nx } σ2 H2) := by
  refine ⟨fun i m σ H => m = n - i ∧ i ≤ n ∧ Pv i σ H, ⟨n, by simp, Nat.zero_le _, h0⟩, ?_⟩
  rintro i m σ H ⟨rfl, hi, p⟩
  by_cases hlt : i < n
  · refine .inr ⟨hlt, Pv (i + 1), fun σ' H' p' => ⟨n - (i + 1), by omega, rfl, hlt, p'⟩, fun x H' y => ?_⟩
    obtain ⟨e, y⟩ := y
    subst e y
    exact hs i σ _ hlt p
  · have e : i = n := by omega
    subst e
    exact .inl ⟨Nat.le_refl _, hd σ H p⟩
end
end Gk
/-! A generator def's promise of its first item; for over it, left at the first turn. -/
namespace Gk
open PySem PySem.Spec PyProof.Rows L2 GenW

/-- the arguments, the heap, what is wanted if nothing is handed out, what is wanted of the first item -/
abbrev SpF := List V → Hp → (Hp → Prop) → VK → Prop
def FBack (P : Program) (w : World) (outer : List Env) (H : Hp) (s : Shared) (a : Addr) (g : Nat) (H' : Hp) (s1 : Shared) : Prop :=
  s1.os = s.os ∧ AllBare s1.gens ∧ Un (frs outer) [] H H' s.heap s1.heap ∧ HOk P w H' s1.heap ∧ s1.heap.IsGen a g
def FEnd (P : Program) (w : World) (outer : List Env) (H : Hp) (s : Shared) (a : Addr) (g : Nat) (Q : Hp → Prop) (s1 : Shared) : Prop := ∃ H', FBack P w outer H s a g H' s1 ∧ Q H'
def FREnd (P : Program) (w : World) (outer : List Env) (H : Hp) (s : Shared) (a : Addr) (g : Nat) (Q : Hp → Prop) : GenEnd := fun n s₀ r s1 =>
  ((r = .ok (.ret .none) ∨ r = .ok .next) ∧ FEnd P w outer H s a g Q s1) ∨ ∃ e, r = .error e ∧ False
def FYItem (P : Program) (w : World) (outer : List Env) (H : Hp) (s : Shared) (a : Addr) (g : Nat) (Q : VK) : Protocol := fun n s₀ v s1 kap =>
  ∃ x H', RelV x v ∧ FBack P w outer H s a g H' s1 ∧ Q x H'
def FMade (P : Program) (w : World) (k : Nat) (outer : List Env) (H : Hp) (s : Shared) (Qn : Hp → Prop) (Qy : VK) (u : Value) (s' : Shared) : Prop :=
  ∃ (a : Addr) (g : Nat) (c : Code), u = .ref a ∧ s.heap.objs.size ≤ a ∧ a < s'.heap.objs.size ∧ s'.heap.IsGen a g ∧ s'.gens[g]? = some (.fresh c) ∧ s'.os = s.os ∧ AllBare s'.gens ∧ s'.heap.NoLimit ∧ (∀ b o, s.heap.get? b = some o → s'.heap.get? b = some o) ∧
    ∀ (A : Around) (s2 : Shared), Room k A → A.frames = some outer → (∀ b o, s'.heap.get? b = some o → s2.heap.get? b = some o) → s2.os = s.os → AllBare s2.gens →
      Seg (model P w) A (FREnd P w outer H s a g Qn) (FYItem P w outer H s a g Qy) 1 s2 c ((model P w).den c) [] s2
structure GF (P : Program) (w : World) (K : PySem.W.Frag) (mg : Str → Option Value) (base : Heap) (k : Nat) (f : Addr) (fd : FuncData) (ps : List Str) (sp : SpF) : Prop where
  len : ∀ vs H Qn Qy, sp vs H Qn Qy → vs.length = ps.length
  run : ∀ (A : Around) (outer : List Env) (s : Shared) (H : Hp) (args : Args) (us : List Value) (vs : List V) (Qn : Hp → Prop) (Qy : VK), Room k A → Env0 P w K mg base A outer s H → BindsTo s fd args (ps.zip us) → Vals vs us → sp vs H Qn Qy →
    codeAny (model P w) A (.call (.ref f) args) (fun r s' => match r with | .ok (.ret u) => FMade P w k outer H s Qn Qy u s' | _ => False) s
/-- the context of the body: nothing is raised -/
def fcx (P : Program) (w : World) (K : PySem.W.Frag) (mg : Str → Option Value) (base : Heap) (N : List Str) (qual : Str) (scope : Scope) (f : Addr) (cd : Value) (A : Around) (outer : List Env) (s : Shared) (H : Hp) (pn : List (Addr × Obj)) : Cx :=
  (gcxOf P w K mg base N qual scope f cd A outer s H L2.E0 pn).nox
theorem gf_of {P : Program} {w : World} {K : PySem.W.Frag} {mg : Str → Option Value} {base : Heap} {k : Nat} {f : Addr} {name qual : Str} {params : Arguments} {body : List Stmt} {scope : Scope} {dV kV doc pm cdv ct oc : Value} {an od : Option Addr}
    {osl : Array (Option Value)} {N ps : List Str} {sp : SpF} (lk : K.lookup f = some ⟨oc, od, .func (PySem.W.fnOf name qual params body scope dV kV doc pm an cdv ct), osl⟩) (hcd : PySem.W.codeIn K cdv qual = true) (S : GScope N ps scope)
    (len : ∀ vs H Qn Qy, sp vs H Qn Qy → vs.length = ps.length)
    (hbody : ∀ (A : Around) (outer : List Env) (s : Shared) (H : Hp) (vs : List V) (Qn : Hp → Prop) (Qy : VK) (pn : List (Addr × Obj)), Room k (A.deeper (envOfC qual scope s.heap.objs.size f cdv)) → sp vs H Qn Qy →
      ∃ t, FSs (fcx P w K mg base N qual scope f cdv A outer s H pn) body t ∧ t { nx := fun _ H' => Qn H', rt := fun v H' => v = .non ∧ Qn H', yl := Qy } (start N vs) H) :
    GF P w K mg base (k + 1) f (PySem.W.fnOf name qual params body scope dV kV doc pm an cdv ct) ps sp := by
  refine ⟨len, fun A outer s H args us vs Qn Qy hr e0 hb r hsp => ?_⟩
  have hl := len _ _ _ _ hsp
  have KX : K.In s.heap := e0.mod.kin.keeps fun b o e => (e0.bs b o e).1
  have lim : s.heap.NoLimit := e0.mod.nolimit.keeps fun b o e => (e0.bs b o e).1
  have hkind : ∀ y ∈ ps.zip us, scope.names.lookup y.1 = some .local ∨ (scope.names.lookup y.1 = some .cell ∧ ((cellsFrom (s.heap.objs.size + 1) scope.names []).lookup y.1).isSome = true) := fun ⟨n, v⟩ hy => by
    rcases S.par n (List.of_mem_zip hy).1 with q | q
    · exact .inl q
    · exact .inr ⟨q, PySem.W.cellsFrom_some _ _ _ (.inl q)⟩
  refine codeAny_call_generator hr.depth (KX _ _ lk) rfl S.co S.gen rfl (PySem.W.codeRec_of KX hcd) (hb _ _ _ _ ?_)
  refine wpAny_newFunctionEnv_cells S.kind hkind fun env he s1 x => ?_
  subst he
  have lim1 : s1.heap.NoLimit := lim.keeps x.toInCall.keep
  refine ⟨lim1, ?_⟩
  obtain ⟨h1, tk, es1, hk1⟩ := x.done
  have os1 : s1.os = s.os := by rw [es1]
  have gen1 : s1.gens = s.gens := by rw [es1]
  have lt1 : s.heap.objs.size < s1.heap.objs.size := x.toInCall.ns.lt
  have sz1 : s.heap.objs.size ≤ s1.heap.objs.size := Nat.le_of_lt lt1
  have kp1 : ∀ b o, s.heap.get? b = some o → s1.heap.get? b = some o := x.toInCall.keep
  have main : ∀ (go : Obj) (nm qn : Value) (tk2 : Nat), go.cls = .type "generator" → go.data = .fields #[.int s1.gens.size 0, nm, qn] → go.slots = #[] → (∀ h : Heap, (h.push go).get? h.objs.size = some go) →
      FMade P w (k + 1) outer H s Qn Qy (.ref s1.heap.objs.size) { s1 with gens := s1.gens.push (.fresh (.func body (envOfC qual scope s.heap.objs.size f cdv))), toks := tk2, heap := s1.heap.push go } := by
    intro go nm qn tk2 hgc hgd0 hgs hgp
    have hgen : ∀ h : Heap, h.get? s1.heap.objs.size = some go → h.IsGen s1.heap.objs.size s1.gens.size := fun h e => ⟨go, nm, qn, e, hgc, hgd0, hgs⟩
    have hpushed : (s1.heap.push go).get? s1.heap.objs.size = some go := hgp _
    refine ⟨s1.heap.objs.size, s1.gens.size, _, rfl, sz1, ?_, hgen _ hpushed, Array.getElem?_push_size .., os1, ?_, lim1.keeps fun b o e => Heap.get?_push_of_some _ e, fun b o e => Heap.get?_push_of_some _ (kp1 b o e), ?_⟩
    · show _ < (s1.heap.push _).objs.size
      rw [Heap.size_push]; exact Nat.lt_succ_self _
    · exact AllBare.push (by rw [gen1]; exact e0.bare) rfl
    intro Aw s2 hrw hfr hk2 hos hba
    have e0w : Env0 P w K mg base Aw outer s H := ⟨hfr, e0.mod, e0.bs, e0.bsz, e0.funs, e0.frf, e0.hok, e0.bare⟩
    obtain ⟨t, ht, hq⟩ := hbody Aw outer s H vs Qn Qy [(s1.heap.objs.size, go)] (hrw.deeper _) hsp
    have I1 : Inv (gcxOf P w K mg base N qual scope f cdv Aw outer s H L2.E0 []) [] (start N vs) H s1 := inv_startG S hrw.hd e0w hl r x
    have kp2 : ∀ b o, s1.heap.get? b = some o → s2.heap.get? b = some o := fun b o e => hk2 b o (Heap.get?_push_of_some _ e)
    have I2 : Inv (gcxOf P w K mg base N qual scope f cdv Aw outer s H L2.E0 []) [] (start N vs) H s2 :=
      I1.call' (ch := []) (hos.trans os1.symm) (Un.kept kp2) (I1.hok.kept kp2) hba fun b z => by simp at z
    have hea : s2.heap.get? s1.heap.objs.size = some go := hk2 s1.heap.objs.size go hpushed
    have hgd : ∀ v, go.data ≠ .cell v := fun v q => by rw [hgd0] at q; cases q
    have hG : Inv (fcx P w K mg base N qual scope f cdv Aw outer s H [(s1.heap.objs.size, go)]) [] (start N vs) H s2 := by
      refine Inv.wish (X := gcxOf P w K mg base N qual scope f cdv Aw outer s H L2.E0 [(s1.heap.objs.size, go)]) (Inv.pinnedG I2 fun p hp => ?_) _
      rcases List.mem_append.mp hp with z | z
      · rw [List.mem_singleton.mp z]
        exact ⟨hea, I1.hok.fresh (Nat.le_refl _), Nat.ne_of_gt lt1, I1.nofs (Nat.le_refl _), hgd⟩
      · cases z
    have back : ∀ {ip : List (Addr × Obj)} {s' : Shared} {σ' : L2.St} {H' : Hp}, Inv (fcx P w K mg base N qual scope f cdv Aw outer s H [(s1.heap.objs.size, go)]) ip σ' H' s' → FBack P w outer H s s1.heap.objs.size s1.gens.size H' s' := fun {ip s' σ' H'} J =>
      ⟨J.os, J.bare, J.base, J.hok, hgen _ (J.pin (s1.heap.objs.size, go) (List.mem_append_left _ (List.mem_singleton.mpr rfl))).1⟩
    refine seg_func ?_
    refine seg_imp (R := FREnd P w outer H s s1.heap.objs.size s1.gens.size Qn) (Y := FY (fcx P w K mg base N qual scope f cdv Aw outer s H [(s1.heap.objs.size, go)]) Qy) (fun n s₀ r s1' hR => hR) (fun n s₀ v s1' kap kap' hkk hY => ?_) 1 ?_
    · obtain ⟨xx, ip, σ', H', rv, J, q⟩ := hY
      exact ⟨xx, H', rv, back J, q⟩
    · refine ht.run Aw [] _ s2 _ [] _ _ id id s2 (start N vs) H _ ⟨over_func, rfl, rfl, rfl, fun _ _ z => z⟩ ⟨fun s₀ s' fl hs => ?_⟩ hG hq
      cases fl with
      | next =>
        obtain ⟨σ', H', J, hQ⟩ := hs
        exact seg_end (.ok (.ret .none)) (.inl ⟨.inl rfl, H', back J, hQ⟩)
      | brk => obtain ⟨_, _, _, q⟩ := hs; exact False.elim q
      | cont => obtain ⟨_, _, _, q⟩ := hs; exact False.elim q
      | ret u =>
        obtain ⟨v, σ', H', J, rv, ev, hQ⟩ := hs
        subst ev
        have eu : u = Value.none := rv
        subst eu
        exact seg_end (.ok (.ret .none)) (.inl ⟨.inl rfl, H', back J, hQ⟩)
  exact main _ _ _ _ rfl rfl rfl fun h => Heap.get?_push_size _ rfl

/-! ### for x in f(..): .., left at its first turn -/
section
variable {X : Cx} {k : Nat} {f : Addr} {fd : FuncData} {ps : List Str} {sp : SpF} {x : Str} {p pos fpos : Pos} {e : Expr} {es : List Expr} {t : TA} {tg : Expr} {g : TG} {tb : TS} {body : List Stmt}
def tForF (sp : SpF) (t : TA) (g : TG) (tb : TS) : TS := fun D σ H => t σ H fun vs H1 => sp vs H1 (fun H2 => D.nx σ H2) fun v H2 => g v σ H2 fun σ3 H3 => tb { D with nx := fun _ _ => False, ct := fun _ _ => False, bk := D.nx } σ3 H3
theorem ps_forF (F : GF X.prog X.w X.K X.mg X.base k f fd ps sp) (hr : Room (k + 3) X.A) (hx : Gl X x) (hm : X.mg x = some (.ref f)) (hk : PySem.W.keepIn X.K (.ref f) = true) (hbn : Binds X.K fd ps [])
    (ha : PA X (e :: es) t) (hp : PassesOwn (model X.prog X.w) X.A X.env X.xe) (hc : X.calm = true) (hg : PG X tg g) (hb : PSs X body tb)
    (hdb : (x == ("__debug__" : Str)) = false := by decide) (he : starEach (e :: es) X.env = (false, eval e X.env) :: starEach es X.env := by rfl) (hpl : (backTo pos (starEach es X.env)).any (·.1) = false := by rfl)
    (hs : ∀ v, foldedSetIterable (.Call (.Name x p) (e :: es) [] pos) X.env v = pure v := by intro _; rfl) :
    PS X (.For tg (.Call (.Name x p) (e :: es) [] pos) body [] fpos) (tForF sp t g tb) := by
  refine ⟨fun pins s σ H D I h => ?_⟩
  refine wpAny_For ?_ hs
  refine wpAny_Call_Name_kw (ld_glob I hx hm ?_ hdb)
  refine PySem.W.callWith_K (h₀ := X.base) I.ok.mod.kin hk (thn (ha.run pos pins s σ H _ I h) fun us s1 ⟨vs, H1, I1, r1, q1⟩ => ⟨I1.kIn, ?_⟩) he hpl
  have hl : (us ++ []).length = ps.length := by rw [List.append_nil, ← r1.length]; exact F.len _ _ _ _ q1
  have b := hbn s1 us I1.kIn hl
  rw [List.append_nil] at b
  refine wpAny_call (codeAny_mono (F.run X.A X.stack s1 H1 ⟨us, []⟩ us vs _ _ (hr.mono (by omega)) I1.env0 b r1 q1) fun res s2 hq => ?_)
  cases res with
  | error er => exact False.elim hq
  | ok fl =>
    cases fl with
    | brk => exact False.elim hq
    | cont => exact False.elim hq
    | next => exact False.elim hq
    | ret u =>
      obtain ⟨a, gi, c, rfl, ha1, ha2, hgen, hgs, hos, hbare, hlim, hkp, wake⟩ := hq
      refine wpAny_pyIter_gen hgen ?_
      refine codeAny_forLoop_any (fun n s' => n = 0 ∧ s' = s2) ?_ 0 ⟨rfl, rfl⟩
      rintro n s3 ⟨rfl, rfl⟩
      have rm : Room k X.A.in1.in1 := by
        refine ⟨hr.hd, ?_, ?_⟩
        · have := hr.dp
          show X.A.depth + 3 * k + 5 < _
          omega
        · have := hr.un
          show X.A.units + 1 + 1 + 16 * k + 200 < _
          omega
      have dep : X.A.depth < recursionLimit := by have := hr.dp; omega
      have goes : GenState.Goes (model X.prog X.w) X.A.in1 (fun n s₀ r s₁ => ((r = .ok (.ret .none) ∨ r = .ok .next) ∧ FEnd X.prog X.w X.stack H1 s1 a gi (fun H2 => D.nx σ H2) s₁) ∨ ∃ e, r = .error e ∧ False)
          (FYItem X.prog X.w X.stack H1 s1 a gi fun v H2 => g v σ H2 fun σ3 H3 => tb { D with nx := fun _ _ => False, ct := fun _ _ => False, bk := D.nx } σ3 H3) 1 (.fresh c) (.send .none) (s3.setGen gi .running) :=
        ⟨rfl, wake X.A.in1 _ ⟨rm.hd, by have := hr.dp; show X.A.depth + 3 * k + 5 < _; omega, by have := hr.un; show X.A.units + 1 + 16 * k + 200 < _; omega⟩ I1.ok.frames (fun _ _ z => z) hos (allBare_setGen hbare rfl)⟩
      refine wpAny_passesOwn hp (next_genG (F := fun _ _ s₁ => FEnd X.prog X.w X.stack H1 s1 a gi (fun H2 => D.nx σ H2) s₁) (Er := fun _ _ => False) (I1.ok.hd hc) hlim dep hgen hgs goes (fun v s₁ gs' hbg hv => ?_) (fun s₁ hf h' hk' => ?_) fun e s₁ z => z.elim)
      · obtain ⟨vv, H2, rv, ⟨o1, o2, o3, o4, o5⟩, q⟩ := hv
        have J : Inv X pins σ H2 (s₁.setGen gi gs') := I1.call' (ch := []) o1 o3 o4 (allBare_setGen o2 hbg) fun b z => by cases z
        obtain ⟨og, nm, qn, hog, hcg, hdg, hsg⟩ := o5
        refine go_of (s := s₁.setGen gi gs') (o := og) (n := "generator") hog hcg hdg (by decide) ?_
        refine wpAny_passesOwn hp (thn (hg.run _ _ σ H2 vv v _ J rv q) fun _ s6 ⟨σ6, H6, I6, q6⟩ => ?_)
        refine wpAny_passesOwn hp (thn (hb.run _ s6 σ6 H6 _ I6 q6) fun f s7 q7 => ?_)
        cases f with
        | next => obtain ⟨_, _, _, z⟩ := q7; exact False.elim z
        | cont => obtain ⟨_, _, _, z⟩ := q7; exact False.elim z
        | brk => exact q7
        | ret v => exact q7
      · obtain ⟨H2, ⟨o1, o2, o3, o4, o5⟩, q⟩ := hf
        have J : Inv X pins σ H2 { s₁.setGen gi .finished with heap := h' } := I1.call' (ch := []) o1 (o3.trans (Un.kept hk')) (o4.kept hk') (allBare_setGen o2 rfl) fun b z => by cases z
        exact wpAny_execs_nil ⟨σ, H2, J, q⟩
end
end Gk
namespace Gk
open PySem PySem.Spec PyProof.Rows L2 GenW
section
variable {P : Program} {w : World} {K : PySem.W.Frag} {mg : Str → Option Value} {base : Heap}
theorem gF_ok {x qual : Str} {st : Stmt} {f : Addr} {fd : FuncData} {N ps : List Str} {k : Nat} {sp : SpF} (F : L2.Fun K x qual st f fd) (S : GScope N ps (defScope st))
    (len : ∀ vs H Qn Qy, sp vs H Qn Qy → vs.length = ps.length)
    (hbody : ∀ (cdv : Value) (A : Around) (outer : List Env) (s : Shared) (H : Hp) (vs : List V) (Qn : Hp → Prop) (Qy : VK) (pn : List (Addr × Obj)), Room k (A.deeper (envOfC qual (defScope st) s.heap.objs.size f cdv)) → sp vs H Qn Qy →
      ∃ t, FSs (fcx P w K mg base N qual (defScope st) f cdv A outer s H pn) (defBody st) t ∧ t { nx := fun _ H' => Qn H', rt := fun v H' => v = .non ∧ Qn H', yl := Qy } (start N vs) H) :
    GF P w K mg base (k + 1) f fd ps sp := by
  obtain ⟨oc, od, kV, doc, pm, an, cdv, ct, osl, rfl, lk, hcd⟩ := F.ex
  exact gf_of lk hcd S len fun A outer s H vs Qn Qy pn hr h => hbody cdv A outer s H vs Qn Qy pn hr h
structure Dgf (P : Program) (w : World) (K : PySem.W.Frag) (mg : Str → Option Value) (base : Heap) (k : Nat) (x : Str) (ps : List Str) (sp : SpF) : Prop where
  ex : ∃ (f : Addr) (fd : FuncData), GF P w K mg base k f fd ps sp ∧ mg x = some (.ref f) ∧ PySem.W.keepIn K (.ref f) = true ∧ Binds K fd ps []
end
section
variable {X : Cx} {k j : Nat} {ps : List Str} {sp : SpF} {x : Str} {p pos fpos : Pos} {e : Expr} {es : List Expr} {t : TA} {tg : Expr} {g : TG} {tb : TS} {body : List Stmt}
theorem ps_forD (D : Dgf X.prog X.w X.K X.mg X.base k x ps sp) (hr : Room j X.A) (hj : k + 3 ≤ j) (hx : Gl X x)
    (ha : PA X (e :: es) t) (hp : PassesOwn (model X.prog X.w) X.A X.env X.xe) (hc : X.calm = true) (hg : PG X tg g) (hb : PSs X body tb)
    (hdb : (x == ("__debug__" : Str)) = false := by decide) (he : starEach (e :: es) X.env = (false, eval e X.env) :: starEach es X.env := by rfl) (hpl : (backTo pos (starEach es X.env)).any (·.1) = false := by rfl)
    (hs : ∀ v, foldedSetIterable (.Call (.Name x p) (e :: es) [] pos) X.env v = pure v := by intro _; rfl) :
    PS X (.For tg (.Call (.Name x p) (e :: es) [] pos) body [] fpos) (tForF sp t g tb) := by
  obtain ⟨f, fd, F, hm, hk, hb'⟩ := D.ex
  exact ps_forF F (hr.mono hj) hx hm hk hb' ha hp hc hg hb hdb he hpl hs
end
end Gk
/-! A generator def whose items are asked for one by one, its caller going on between them. -/
namespace Gk
open PySem PySem.Spec PyProof.Rows L2 GenW

/-! ### the heap up to an address -/
def cut (h : Heap) (n : Nat) : Heap := { h with objs := h.objs.extract 0 n }
theorem cut_get (h : Heap) (n b : Nat) : (cut h n).get? b = if b < n then h.get? b else none := by
  unfold cut Heap.get?
  simp only [Array.getElem?_extract]
  by_cases c : b < n
  · rw [if_pos c]
    by_cases d : b < h.objs.size
    · rw [if_pos (by omega), Nat.zero_add]
    · rw [if_neg (by omega), Array.getElem?_eq_none (by omega)]
  · rw [if_neg c, if_neg (by omega)]
theorem cut_lt {h : Heap} {n b : Nat} {o : Obj} (e : (cut h n).get? b = some o) : b < n ∧ h.get? b = some o := by
  rw [cut_get] at e
  by_cases c : b < n
  · rw [if_pos c] at e
    exact ⟨c, e⟩
  · rw [if_neg c] at e
    cases e
theorem cut_of {h : Heap} {n b : Nat} {o : Obj} (c : b < n) (e : h.get? b = some o) : (cut h n).get? b = some o := by
  rw [cut_get, if_pos c, e]
theorem cut_size (h : Heap) (n : Nat) : (cut h n).objs.size ≤ n := by
  unfold cut
  simp only [Array.size_extract]
  omega
theorem cut_size' {h : Heap} {n m : Nat} (a : m ≤ n) (b : m ≤ h.objs.size) : m ≤ (cut h n).objs.size := by
  unfold cut
  simp only [Array.size_extract]
  omega
theorem funs_cut {h0 h base : Heap} {n : Nat} (hn : h0.objs.size ≤ n) : ∀ {l : List Env}, h0.FunFrames base l → h.FunFrames base l → (cut h n).FunFrames base l
  | [], _, _ => trivial
  | env :: r, ⟨_, ⟨L, _, f0, _, g0, _⟩, r0⟩, ⟨k1, ⟨L', o, f1, b1, g1, d1⟩, r1⟩ => by
    have e : L = L' := by rw [f0] at f1; exact Option.some.inj f1
    subst e
    exact ⟨k1, ⟨L, o, f1, b1, cut_of (Nat.lt_of_lt_of_le (Heap.lt_size g0) hn) g1, d1⟩, funs_cut hn r0 r1⟩

/-! ### the generator's context anew at each turn -/
def re (X : Cx) (s : Shared) (H : Hp) : Cx := { X with s_0 := { s with heap := cut s.heap X.env.locals }, H_0 := H }
/-- a generator's context: no cells of its own, no pins, nothing exempt; nothing is raised -/
structure GCx (X : Cx) : Prop where
  n0 : X.s_0.heap.objs.size = X.env.locals
  ex : X.ex = []
  pn : X.pn = []
  calm : X.calm = true
  cells : ∀ x, X.env.cells.lookup x = none
  nox : ∀ e s, ¬ X.xe e s
/-- what must hold of the state at which the generator goes on -/
structure On (X : Cx) (s : Shared) (H : Hp) : Prop where
  bs : ∀ b o, X.base.get? b = some o → s.heap.get? b = some o ∧ H b = none
  bsz : X.base.objs.size ≤ s.heap.objs.size
  funs : s.heap.FunFrames X.base X.outer
  frf : ∀ b ∈ X.fs, H b = none
  hok : HOk X.prog X.w H s.heap
  bare : AllBare s.gens
theorem On.of {X : Cx} {A : Around} {s : Shared} {H : Hp} (e : Env0 X.prog X.w X.K X.mg X.base A X.outer s H) : On X s H := ⟨e.bs, e.bsz, e.funs, e.frf, e.hok, e.bare⟩
theorem re_ok {X : Cx} {s : Shared} {H : Hp} (g : GCx X) (ok : X.Ok) (o : On X s H) : (re X s H).Ok where
  mod := ok.mod
  kind := ok.kind
  glob := ok.glob
  blt := ok.blt
  above := cut_size _ _
  inj := ok.inj
  has := ok.has
  cab := fun x c _ e => by
    have e : X.env.cells.lookup x = some c := e
    rw [g.cells x] at e
    cases e
  hd := ok.hd
  frames := ok.frames
  stk := ok.stk
  exf := ok.exf
  bs := fun b ob e => ⟨cut_of (Nat.lt_of_lt_of_le (Heap.lt_size e) (Nat.le_trans ok.bsz (Nat.le_of_eq g.n0))) (o.bs b ob e).1, (o.bs b ob e).2⟩
  bsz := cut_size' (Nat.le_trans ok.bsz (Nat.le_of_eq g.n0)) o.bsz
  noex := ok.noex
  exfs := ok.exfs
  funs := funs_cut (Nat.le_of_eq g.n0) ok.funs o.funs
  frf := o.frf
/-- what the generator leaves behind while it sleeps: its frame, its loops' iterators -/
structure Slept (X : Cx) (ip : List (Addr × Obj)) (σ : L2.St) (oL : Obj) : Prop where
  loc : ∀ h : Heap, h.get? X.env.locals = some oL → ∃ m, h.Ns X.env.locals m ∧ ∀ (i : Nat) (x : Str) (v : V), X.N[i]? = some x → σ[i]? = some (some v) → Vis X.env.scope x → ∃ u, RelV v u ∧ Look X.env h m x u
  pin : ∀ p ∈ ip, p.1 ≠ X.env.locals ∧ p.1 ∉ X.fs ∧ ∀ v, p.2.data ≠ .cell v
  data : ∀ v, oL.data ≠ .cell v
  nfs : X.env.locals ∉ X.fs
  len : σ.length = X.N.length
/-- the generator goes to sleep -/
theorem sleep {X : Cx} {s0 s : Shared} {H0 H : Hp} {pe ip : List (Addr × Obj)} {σ : L2.St} (g : GCx X) (I : Inv (re X s0 H0) (pe ++ ip) σ H s) : ∃ oL, s.heap.get? X.env.locals = some oL ∧ H X.env.locals = none ∧ Slept X ip σ oL := by
  obtain ⟨m, hn, hl⟩ := I.loc
  obtain ⟨o, es, ep, ho, r⟩ := hn
  have hd : o.data = .dict es ep := r.1
  refine ⟨o, ho, I.free, ⟨fun h e => ⟨m, ⟨o, es, ep, e, r⟩, fun i x v a b c => ?_⟩, fun p hp => ?_, fun v z => ?_, ?_, I.len⟩⟩
  · obtain ⟨u, ru, l⟩ := hl i x v a b c
    refine ⟨u, ru, ?_⟩
    rcases l with l | ⟨_, c', e', _⟩
    · exact .inl l
    · have e' : X.env.cells.lookup x = some c' := e'
      rw [g.cells x] at e'
      cases e'
  · obtain ⟨_, _, a, b, c⟩ := I.pin p (List.mem_append_right _ (List.mem_append_right _ hp))
    exact ⟨a, b, c⟩
  · rw [hd] at z
    cases z
  · intro hb
    obtain ⟨_, o', e', _⟩ := I.ok.funs.mem hb
    have := (cut_lt e').1
    exact absurd this (Nat.lt_irrefl _)
/-- it wakes -/
theorem waked {X : Cx} {s : Shared} {H : Hp} {pe ip : List (Addr × Obj)} {σ : L2.St} {oL : Obj} (g : GCx X) (ok : X.Ok) (o : On X s H) (S : Slept X ip σ oL) (hL : s.heap.get? X.env.locals = some oL) (nL : H X.env.locals = none)
    (hip : ∀ p ∈ ip, s.heap.get? p.1 = some p.2 ∧ H p.1 = none) (hpe : ∀ p ∈ pe, s.heap.get? p.1 = some p.2 ∧ H p.1 = none ∧ p.1 ≠ X.env.locals ∧ p.1 ∉ X.fs ∧ ∀ v, p.2.data ≠ .cell v) : Inv (re X s H) (pe ++ ip) σ H s where
  ok := re_ok g ok o
  os := rfl
  bare := o.bare
  base := Un.kept fun b u e => (cut_lt e).2
  loc := S.loc s.heap hL
  cell := fun x c e => by
    have e : X.env.cells.lookup x = some c := e
    rw [g.cells x] at e
    cases e
  free := nL
  freeC := fun x c e => by
    have e : X.env.cells.lookup x = some c := e
    rw [g.cells x] at e
    cases e
  pin := fun p hp => by
    have hp : p ∈ X.pn ++ (pe ++ ip) := hp
    rw [g.pn, List.nil_append] at hp
    rcases List.mem_append.mp hp with hp | hp
    · exact hpe p hp
    · obtain ⟨a, b, c⟩ := S.pin p hp
      exact ⟨(hip p hp).1, (hip p hp).2, a, b, c⟩
  hok := o.hok
  len := S.len
end Gk
/-! The statements of a generator def whose caller goes on between its items. γ: what the caller keeps meanwhile. -/
namespace Gk
open PySem PySem.Spec PyProof.Rows L2 GenW

/-- what is wanted behind a statement; n: how many items may still be handed out; yl: of an item, with what is wanted when the generator goes on -/
structure YEnds where
  nx : Nat → L2.St → L2.St → Hp → Prop
  rt : Nat → L2.St → VK
  bk : Nat → L2.St → L2.St → Hp → Prop := fun _ _ _ _ => False
  ct : Nat → L2.St → L2.St → Hp → Prop := fun _ _ _ _ => False
  yl : L2.St → V → Hp → (L2.St → Hp → Prop) → Prop
abbrev TY := YEnds → Nat → L2.St → L2.St → Hp → Prop
def YEnds.at (D : YEnds) (n : Nat) (γ : L2.St) : Ends := { nx := D.nx n γ, rt := D.rt n γ, bk := D.bk n γ, ct := D.ct n γ }
abbrev LK := L2.St → Hp → Shared → List (Addr × Obj) → Prop
/-- the generator has run from s₀ to s -/
structure Went (X : Cx) (pe : List (Addr × Obj)) (H₀ : Hp) (s₀ : Shared) (H : Hp) (s : Shared) : Prop where
  os : s.os = s₀.os
  bare : AllBare s.gens
  un : Un X.fs [] H₀ H (cut s₀.heap X.env.locals) s.heap
  hok : HOk X.prog X.w H s.heap
  pe : ∀ p ∈ pe, s.heap.get? p.1 = some p.2 ∧ H p.1 = none
/-- what may be pinned while the generator runs -/
def PeOk (X : Cx) (Ad : List Addr) (pe : List (Addr × Obj)) (H : Hp) (s : Shared) : Prop :=
  pe.map (·.1) = Ad ∧ ∀ p ∈ pe, s.heap.get? p.1 = some p.2 ∧ H p.1 = none ∧ p.1 ≠ X.env.locals ∧ p.1 ∉ X.fs ∧ ∀ v, p.2.data ≠ .cell v
def YP (X : Cx) (Lk : LK) (Ad : List Addr) (yl : L2.St → V → Hp → (L2.St → Hp → Prop) → Prop) : Protocol := fun n s₀ v s kap =>
  ∃ (γ : L2.St) (H₀ H : Hp) (pe hl : List (Addr × Obj)) (x : V) (k : L2.St → Hp → Prop), Lk γ H₀ s₀ pe ∧ RelV x v ∧ Went X pe H₀ s₀ H s ∧
    (∀ p ∈ hl, s.heap.get? p.1 = some p.2 ∧ H p.1 = none ∧ X.env.locals ≤ p.1 ∧ p.1 ∉ Ad ∧ ∀ v, p.2.data ≠ .cell v) ∧ yl γ x H k ∧
    ∀ γ' H' s'' pe', k γ' H' → Lk γ' H' s'' pe' → On X s'' H' → PeOk X Ad pe' H' s'' → (∀ p ∈ hl, s''.heap.get? p.1 = some p.2 ∧ H' p.1 = none) → kap (.send .none) s''
def YInv (X : Cx) (Lk : LK) (Ad : List Addr) (γ : L2.St) (s₀ : Shared) (ip : List (Addr × Obj)) (σ : L2.St) (H : Hp) (s : Shared) : Prop :=
  ∃ H₀ pe, Lk γ H₀ s₀ pe ∧ pe.map (·.1) = Ad ∧ X.env.locals ≤ s₀.heap.objs.size ∧ Inv (re X s₀ H₀) (pe ++ ip) σ H s
structure YC (X : Cx) (Ad : List Addr) (ip : List (Addr × Obj)) (A : Around) (c : Code) (fs : List Frame) (gd : Bool → Bool) : Prop extends FC X A c fs gd where
  g : GCx X
  ok : X.Ok
  ip : ∀ p ∈ ip, X.env.locals ≤ p.1 ∧ p.1 ∉ Ad
structure YK (X : Cx) (Lk : LK) (Ad : List Addr) (ip : List (Addr × Obj)) (A : Around) (R : GenEnd) (c : Code) (fs : List Frame) (K : Flow → Sem PySem.Fin) (D : YEnds) : Prop where
  ok : ∀ (n : Nat) (γ : L2.St) (s₀ s : Shared) (f : Flow) (H₀ : Hp) (pe : List (Addr × Obj)), Lk γ H₀ s₀ pe → pe.map (·.1) = Ad → X.env.locals ≤ s₀.heap.objs.size → SP (re X s₀ H₀) (pe ++ ip) (D.at n γ) f s →
    Seg (model X.prog X.w) A R (YP X Lk Ad D.yl) n s₀ c (K f) fs s
structure YS (X : Cx) (st : Stmt) (t : TY) : Prop where
  run : ∀ (A : Around) (Lk : LK) (Ad : List Addr) (ip : List (Addr × Obj)) (R : GenEnd) (n : Nat) (γ : L2.St) (s₀ : Shared) (c : Code) (fs : List Frame) (K : Flow → Sem PySem.Fin) (J : Value → Sem PySem.Fin) (gd : Bool → Bool) (lv : List Value → List Value) (s : Shared) (σ : L2.St) (H : Hp) (D : YEnds),
    YC X Ad ip A c fs gd → YK X Lk Ad ip A R c fs K D → YInv X Lk Ad γ s₀ ip σ H s → t D n γ σ H →
    Seg (model X.prog X.w) A R (YP X Lk Ad D.yl) n s₀ c ((exec st X.env).wrap K J gd lv) fs s
structure YSs (X : Cx) (st : List Stmt) (t : TY) : Prop where
  run : ∀ (A : Around) (Lk : LK) (Ad : List Addr) (ip : List (Addr × Obj)) (R : GenEnd) (n : Nat) (γ : L2.St) (s₀ : Shared) (c : Code) (fs : List Frame) (K : Flow → Sem PySem.Fin) (J : Value → Sem PySem.Fin) (gd : Bool → Bool) (lv : List Value → List Value) (s : Shared) (σ : L2.St) (H : Hp) (D : YEnds),
    YC X Ad ip A c fs gd → YK X Lk Ad ip A R c fs K D → YInv X Lk Ad γ s₀ ip σ H s → t D n γ σ H →
    Seg (model X.prog X.w) A R (YP X Lk Ad D.yl) n s₀ c ((execs st X.env).wrap K J gd lv) fs s
section
variable {X : Cx} {st : Stmt} {rest : List Stmt}
def tYPlain (t : TS) : TY := fun D n γ σ H => t (D.at n γ) σ H
theorem ys_ps {t : TS} (h : ∀ s H, PS (re X s H) st t) : YS X st (tYPlain t) := by
  refine ⟨fun A Lk Ad ip R n γ s₀ c fs K J gd lv s σ H D g k hI ht => ?_⟩
  obtain ⟨H₀, pe, lk, ea, hn, I⟩ := hI
  refine seg_wrap ?_
  rw [g.over]
  exact wpAny_mono ((h s₀ H₀).run _ s σ H (D.at n γ) I ht) (fun f s' hs => k.ok n γ s₀ s' f H₀ pe lk ea hn hs) fun x s' hx => (g.nox x s' hx).elim
def tY0 : TY := fun D n γ σ H => D.nx n γ σ H
theorem yss_nil : YSs X [] tY0 := by
  refine ⟨fun A Lk Ad ip R n γ s₀ c fs K J gd lv s σ H D g k hI ht => ?_⟩
  obtain ⟨H₀, pe, lk, ea, hn, I⟩ := hI
  exact seg_execs_nil (k.ok n γ s₀ s .next H₀ pe lk ea hn ⟨σ, H, I, ht⟩)
def tYThen (t u : TY) : TY := fun D n γ σ H => t { D with nx := fun n' γ' σ' H' => u D n' γ' σ' H' } n γ σ H
theorem yss_cons {t u : TY} (a : YS X st t) (b : YSs X rest u) : YSs X (st :: rest) (tYThen t u) := by
  refine ⟨fun A Lk Ad ip R n γ s₀ c fs K J gd lv s σ H D g k hI ht => ?_⟩
  refine seg_execs_cons ?_
  refine a.run A Lk Ad ip R n γ s₀ c fs _ J gd lv s σ H { D with nx := fun n' γ' σ' H' => u D n' γ' σ' H' } g ⟨fun n' γ' s₀' s' f H₀ pe lk ea hn hs => ?_⟩ hI ht
  cases f with
  | next =>
    obtain ⟨σ', H', I', q⟩ := hs
    exact b.run A Lk Ad ip R n' γ' s₀' c fs K J gd lv s' σ' H' D g k ⟨H₀, pe, lk, ea, hn, I'⟩ q
  | brk => exact k.ok n' γ' s₀' s' .brk H₀ pe lk ea hn hs
  | cont => exact k.ok n' γ' s₀' s' .cont H₀ pe lk ea hn hs
  | ret u => exact k.ok n' γ' s₀' s' (.ret u) H₀ pe lk ea hn hs
theorem yss_one {t : TY} (a : YS X st t) : YSs X [st] (tYThen t tY0) := yss_cons a yss_nil
/-- yield e -/
def tYYield (te : TE) : TY := fun D n γ σ H => ∃ m, n = m + 1 ∧ te σ H fun v H1 => D.yl γ v H1 fun γ' H2 => D.nx m γ' σ H2
theorem ys_yield {e : Expr} {yp pos : Pos} {te : TE} (he : ∀ s H, PE (re X s H) e te) (hco : X.env.scope.isCoroutine = false := by rfl) (hi : interactive X.env = false := by rfl) : YS X (.Expr (.Yield (some e) yp) pos) (tYYield te) := by
  refine ⟨fun A Lk Ad ip R n γ s₀ c fs K J gd lv s σ H D g k hI ht => ?_⟩
  obtain ⟨m, rfl, ht⟩ := ht
  obtain ⟨H₀, pe, lk, ea, hn, I⟩ := hI
  refine seg_Expr_Yield (n := m) g.split g.gd g.guard ?_ hco hi
  rw [g.over]
  refine wpAny_mono ((he s₀ H₀).run _ s σ H _ I ht) (fun v s' hv => ?_) fun x s' hx => (g.nox x s' hx).elim
  obtain ⟨x, H1, I1, rv, q⟩ := hv
  intro kap hk
  obtain ⟨oL, hL, nL, S⟩ := sleep g.g I1
  have hpe : ∀ p ∈ pe ++ ip, s'.heap.get? p.1 = some p.2 ∧ H1 p.1 = none ∧ ∀ v, p.2.data ≠ .cell v := fun p hp => by
    obtain ⟨a, b, _, _, d⟩ := I1.pin p (List.mem_append_right _ hp)
    exact ⟨a, b, d⟩
  refine ⟨γ, H₀, H1, pe, (X.env.locals, oL) :: ip, x, _, lk, rv, ⟨I1.os, I1.bare, ?_, I1.hok, fun p hp => ?_⟩, fun p hp => ?_, q, fun γ' H' s'' pe' hk' lk' on po hh => ?_⟩
  · have u := I1.base
    have hex : (re X s₀ H₀).ex = [] := g.g.ex
    rw [hex] at u
    exact u
  · obtain ⟨a, b, _⟩ := hpe p (List.mem_append_left _ hp)
    exact ⟨a, b⟩
  · rcases List.mem_cons.mp hp with rfl | hp
    · refine ⟨hL, nL, Nat.le_refl _, fun z => ?_, S.data⟩
      rw [← ea] at z
      obtain ⟨p, hp, e⟩ := List.mem_map.mp z
      obtain ⟨_, _, ne, _⟩ := I1.pin p (List.mem_append_right _ (List.mem_append_left _ hp))
      exact ne e
    · obtain ⟨a, b, d⟩ := hpe p (List.mem_append_right _ hp)
      exact ⟨a, b, (g.ip p hp).1, (g.ip p hp).2, d⟩
  · obtain ⟨hL', nL'⟩ := hh (X.env.locals, oL) List.mem_cons_self
    have I2 : Inv (re X s'' H') (pe' ++ ip) σ H' s'' := waked g.g g.ok on S hL' nL' (fun p hp => hh p (List.mem_cons_of_mem _ hp)) po.2
    refine hk .none s'' ?_
    show Seg _ _ _ _ _ _ _ _ _ _
    exact k.ok m γ' s'' s'' .next H' pe' lk' po.1 (Nat.le_of_lt (Heap.lt_size hL')) ⟨σ, H', I2, hk'⟩
def tYIf (c : TT) (t u : TY) : TY := fun D n γ σ H => c σ H fun b H1 => if b = true then t D n γ σ H1 else u D n γ σ H1
theorem ys_if {test : Expr} {body orelse : List Stmt} {pos : Pos} {tc : TT} {tb te : TY} (hc : ∀ s H, PT (re X s H) test tc) (hb : YSs X body tb) (he : YSs X orelse te) : YS X (.If test body orelse pos) (tYIf tc tb te) := by
  refine ⟨fun A Lk Ad ip R n γ s₀ c fs K J gd lv s σ H D g k hI ht => ?_⟩
  rw [exec_If]
  show Seg _ _ _ _ _ s₀ c (.at pos fun _ => ((isTrue test X.env (eval test X.env)) >>= fun b => if b = true then execs body X.env else execs orelse X.env).wrap K J gd lv) fs s
  obtain ⟨H₀, pe, lk, ea, hn, I⟩ := hI
  refine seg_at (seg_bind_wrap ?_)
  rw [g.over]
  refine wpAny_mono ((hc s₀ H₀).run _ s σ H _ I ht) (fun b s' hb' => ?_) fun x s' hx => (g.nox x s' hx).elim
  obtain ⟨H1, I1, q⟩ := hb'
  cases b with
  | true =>
    rw [if_pos rfl] at q
    rw [if_pos rfl]
    exact hb.run A Lk Ad ip R n γ s₀ c fs K J gd lv s' σ H1 D g k ⟨H₀, pe, lk, ea, hn, I1⟩ q
  | false =>
    rw [if_neg Bool.false_ne_true] at q
    rw [if_neg Bool.false_ne_true]
    exact he.run A Lk Ad ip R n γ s₀ c fs K J gd lv s' σ H1 D g k ⟨H₀, pe, lk, ea, hn, I1⟩ q
/-- for -/
def tYFor (wi : TI) (g : TG) (tb : TY) : TY := fun D n γ σ H => wi σ H fun J H1 => ∃ W : Nat → Nat → Nat → L2.St → L2.St → Hp → Prop, (∃ m, W 0 m n γ σ H1) ∧ ∀ i m n γ σ H, W i m n γ σ H →
  (J.stop i H ∧ D.nx n γ σ H) ∨ (J.go i H ∧ ∃ N : Nat → L2.St → L2.St → Hp → Prop, (∀ n' γ' σ' H', N n' γ' σ' H' → ∃ m', m' < m ∧ W (i + 1) m' n' γ' σ' H') ∧ ∀ x H', J.yld i H x H' → g x σ H' fun σ2 H2 => tb { D with nx := N, ct := N, bk := D.nx } n γ σ2 H2)
theorem yc_loop {Ad : List Addr} {ip : List (Addr × Obj)} {A : Around} {c c' : Code} {fs : List Frame} {gd : Bool → Bool} {k : Result → Sem PySem.Fin} {l kp : List Value} {p : Pos} (g : YC X Ad ip A c fs gd) (hw : c'.weight = 0) (hu : c'.cUnits = 0) :
    YC X Ad ip A c' (.ret k none (gd false) l c p kp :: fs) id := { toFC := fc_loop g.toFC hw hu, g := g.g, ok := g.ok, ip := g.ip }
theorem ys_for {tg iter : Expr} {body : List Stmt} {wi : TI} {g : TG} {tb : TY} {pos : Pos} (hi : ∀ s H, PI (re X s H) tg iter wi) (hg : ∀ s H, PG (re X s H) tg g) (hb : YSs X body tb)
    (hs : ∀ x, foldedSetIterable iter X.env x = pure x := by intro _; rfl) : YS X (.For tg iter body [] pos) (tYFor wi g tb) := by
  refine ⟨fun A Lk Ad ip R n γ s₀ c fs K J gd lv s σ H D gc k hI ht => ?_⟩
  have hc : X.calm = true := gc.g.calm
  rw [exec_For]
  show Seg _ _ _ _ _ s₀ c (.at pos fun _ => (eval iter X.env >>= fun v => foldedSetIterable iter X.env v >>= fun x => standAt iter.pos >>= fun _ => holding [x] (pyIter x) >>= fun it => runOwn (.forLoop tg it body [] X.env) X.env).wrap K J gd lv) fs s
  obtain ⟨H₀, pe, lk, ea, hn0, I⟩ := hI
  refine seg_at (seg_bind_wrap ?_)
  rw [gc.over]
  refine wpAny_mono ((hi s₀ H₀).run _ s σ H _ I ht) (fun v s1 h1 => ?_) fun x s' hx => (gc.nox x s' hx).elim
  refine seg_bind_wrap (wpAny_of_eq (hs v) ?_)
  refine seg_bind_wrap (wpAny_standAt ?_)
  refine seg_bind_wrap (wpAny_holding ?_)
  rw [gc.over]
  refine wpAny_mono h1 (fun itv s2 h2 => ?_) fun x s' hx => (gc.nox x s' hx).elim
  obtain ⟨it, fp, tn, Jt, H2, e, I2, T, st2, f2, W, ⟨m0, w0⟩, turn⟩ := h2
  subst e
  have nAd : ∀ b ∈ fp, ∀ a ∈ Ad, a ≠ b := fun b hb a ha => by
    rw [← ea] at ha
    obtain ⟨p, hp, rfl⟩ := List.mem_map.mp ha
    exact (f2 b hb).2.2.2.2.2 p (List.mem_append_right _ (List.mem_append_left _ hp))
  have geF : ∀ b ∈ fp, X.env.locals ≤ b := fun b hb => by
    rcases (f2 b hb).2.2.2.1 with z | z
    · have z : b ∈ X.ex := z
      rw [gc.g.ex] at z
      cases z
    · exact Nat.le_trans (cut_size' (Nat.le_refl _) hn0) z
  have stat : ∀ {s₀' : Shared} {H₀' H' : Hp} {pe' : List (Addr × Obj)}, pe'.map (·.1) = Ad → (∀ b ∈ fp, H' b = none) → ∀ b ∈ fp, FpOk (re X s₀' H₀') (pe' ++ ip) H' b := fun {s₀' H₀' H' pe'} ea' hn b hb => by
    obtain ⟨_, q2, q3, q4, q5, q6⟩ := f2 b hb
    refine ⟨hn b hb, q2, q3, .inr (Nat.le_trans (cut_size _ _) (geF b hb)), q5, fun p hp => ?_⟩
    have hp : p ∈ X.pn ++ (pe' ++ ip) := hp
    rw [gc.g.pn, List.nil_append] at hp
    rcases List.mem_append.mp hp with hp | hp
    · exact nAd b hb p.1 (by rw [← ea']; exact List.mem_map.mpr ⟨p, hp, rfl⟩)
    · exact q6 p (List.mem_append_right _ (List.mem_append_right _ hp))
  show Seg _ _ _ _ _ s₀ c (.call (.forLoop tg (.ref it) body [] X.env) none (gd false) (lv []) fun r => ((match r with | .ok f => (.pure f : Sem Flow) | .error e => .raise e).onRaise (cameBack X.env)).wrap K J gd lv) fs s2
  refine seg_call fun p => ?_
  have gl := fun (kk : Result → Sem PySem.Fin) => yc_loop (k := kk) (c' := .forLoop tg (.ref it) body [] X.env) (l := lv []) (kp := []) (p := p) gc rfl rfl
  have loop : ∀ (m i n : Nat) (γ : L2.St) (s₀ s : Shared) (σ : L2.St) (H H₀ : Hp) (pe : List (Addr × Obj)), Lk γ H₀ s₀ pe → pe.map (·.1) = Ad → X.env.locals ≤ s₀.heap.objs.size → Inv (re X s₀ H₀) (pe ++ ip) σ H s → tn i s.heap → (∀ b ∈ fp, H b = none) → W i m n γ σ H →
      Seg (model X.prog X.w) A R (YP X Lk Ad D.yl) n s₀ (.forLoop tg (.ref it) body [] X.env) ((model X.prog X.w).den (.forLoop tg (.ref it) body [] X.env))
        (.ret (fun r => ((match r with | .ok f => (.pure f : Sem Flow) | .error e => .raise e).onRaise (cameBack X.env)).wrap K J gd lv) none (gd false) (lv []) c p [] :: fs) s := by
    intro m
    induction m using Nat.strongRecOn with
    | ind m ih =>
      intro i n γ s₀ s3 σ3 H3 H₀ pe lk ea hn0 I3 st3 fr3 w3
      refine seg_forLoop (fun e => (do noteFrame e X.env; theTreesLotGoes e : Sem Unit).bind fun _ => .raise e) (fun _ => rfl) ?_
      rw [(gl _).over]
      rcases turn i m n γ σ3 H3 w3 with ⟨stop, qn⟩ | ⟨go, N, hN, step⟩
      · refine wpAny_mono (T.done (re X s₀ H₀) rfl rfl rfl hc i (pe ++ ip) s3 σ3 H3 (fun _ _ => False) I3 (stat ea fr3) st3 stop) (fun r s4 ⟨hr, I4⟩ => ?_) fun _ _ z => z.elim
        subst hr
        dsimp only
        refine seg_again rfl ?_
        exact seg_leaf (.ok .next) (k.ok n γ s₀ s4 .next H₀ pe lk ea hn0 ⟨σ3, H3, I4, qn⟩)
      · refine wpAny_mono (T.item (re X s₀ H₀) rfl rfl rfl hc i (pe ++ ip) s3 σ3 H3 (fun _ _ => False) I3 (stat ea fr3) st3 go) (fun r s4 ⟨u, hr, h4⟩ => ?_) fun _ _ z => z.elim
        subst hr
        dsimp only
        refine wpAny_mono h4 (fun _ s5 ⟨x, H5, I5, r5, y5, st5, fr5⟩ => ?_) fun _ _ z => z.elim
        have I5' : Inv (re X s₀ H₀) (pe ++ (ip ++ pinsAt fp s5.heap)) σ3 H5 s5 := by
          rw [← List.append_assoc]
          exact I5.pinned (stat ea fr5) (T.obj _ _ st5)
        refine wpAny_mono ((hg s₀ H₀).run _ s5 σ3 H5 x u _ I5' r5 (step x H5 y5)) (fun _ s6 ⟨σ6, H6, I6, q6⟩ => ?_) fun x s' hx => (gc.nox x s' hx).elim
        have again : ∀ {n' : Nat} {γ' : L2.St} {s₀' s7 : Shared} {σ7 : L2.St} {H7 H₀' : Hp} {pe' : List (Addr × Obj)}, Inv (re X s₀' H₀') (pe' ++ (ip ++ pinsAt fp s5.heap)) σ7 H7 s7 → N n' γ' σ7 H7 → ∃ m', m' < m ∧ Inv (re X s₀' H₀') (pe' ++ ip) σ7 H7 s7 ∧ tn (i + 1) s7.heap ∧ (∀ b ∈ fp, H7 b = none) ∧ W (i + 1) m' n' γ' σ7 H7 := fun {n' γ' s₀' s7 σ7 H7 H₀' pe'} I7 n7 => by
          obtain ⟨m', hm, w7⟩ := hN n' γ' σ7 H7 n7
          have I7' : Inv (re X s₀' H₀') ((pe' ++ ip) ++ pinsAt fp s5.heap) σ7 H7 s7 := by rw [List.append_assoc]; exact I7
          refine ⟨m', hm, I7'.unpinned, T.keep _ _ _ st5 fun b hb o e => (I7'.pin (b, o) (List.mem_append_right _ (List.mem_append_right _ (mem_pinsAt hb e)))).1, fun b hb => ?_, w7⟩
          obtain ⟨o, e, d⟩ := T.obj _ _ st5 b hb
          exact (I7'.pin (b, o) (List.mem_append_right _ (List.mem_append_right _ (mem_pinsAt hb e)))).2.1
        have un : ∀ {s₀' s7 : Shared} {σ7 : L2.St} {H7 H₀' : Hp} {pe' : List (Addr × Obj)}, Inv (re X s₀' H₀') (pe' ++ (ip ++ pinsAt fp s5.heap)) σ7 H7 s7 → Inv (re X s₀' H₀') (pe' ++ ip) σ7 H7 s7 := fun {s₀' s7 σ7 H7 H₀' pe'} I7 => by
          have I7' : Inv (re X s₀' H₀') ((pe' ++ ip) ++ pinsAt fp s5.heap) σ7 H7 s7 := by rw [List.append_assoc]; exact I7
          exact I7'.unpinned
        have gl6 : YC X Ad (ip ++ pinsAt fp s5.heap) A (.forLoop tg (.ref it) body [] X.env) (.ret (fun r => ((match r with | .ok f => (.pure f : Sem Flow) | .error e => .raise e).onRaise (cameBack X.env)).wrap K J gd lv) none (gd false) (lv []) c p [] :: fs) id :=
          { toFC := (gl _).toFC, g := gc.g, ok := gc.ok, ip := fun q hq => by
              rcases List.mem_append.mp hq with hq | hq
              · exact gc.ip q hq
              · obtain ⟨b, hb, e⟩ := List.mem_filterMap.mp hq
                cases eo : s5.heap.get? b with
                | none => rw [eo] at e; cases e
                | some o => rw [eo] at e; cases e; exact ⟨geF b hb, fun z => nAd b hb b z rfl⟩ }
        refine hb.run A Lk Ad (ip ++ pinsAt fp s5.heap) R n γ s₀ _ _ _ _ id id s6 σ6 H6 { D with nx := N, ct := N, bk := D.nx } gl6 ⟨fun n' γ' s₀' s7 f H₀' pe' lk' ea' hn' hs => ?_⟩ ⟨H₀, pe, lk, ea, hn0, I6⟩ q6
        cases f with
        | next =>
          obtain ⟨σ7, H7, I7, n7⟩ := hs
          obtain ⟨m', hm, J7, st7, fr7, w7⟩ := again I7 n7
          exact seg_again rfl (ih m' hm (i + 1) n' γ' s₀' s7 σ7 H7 H₀' pe' lk' ea' hn' J7 st7 fr7 w7)
        | cont =>
          obtain ⟨σ7, H7, I7, n7⟩ := hs
          obtain ⟨m', hm, J7, st7, fr7, w7⟩ := again I7 n7
          exact seg_again rfl (ih m' hm (i + 1) n' γ' s₀' s7 σ7 H7 H₀' pe' lk' ea' hn' J7 st7 fr7 w7)
        | brk =>
          obtain ⟨σ7, H7, I7, q7⟩ := hs
          exact seg_leaf (.ok .next) (k.ok n' γ' s₀' s7 .next H₀' pe' lk' ea' hn' ⟨σ7, H7, un I7, q7⟩)
        | ret v =>
          obtain ⟨x7, σ7, H7, I7, r7, q7⟩ := hs
          exact seg_leaf (.ok (.ret v)) (k.ok n' γ' s₀' s7 (.ret v) H₀' pe' lk' ea' hn' ⟨x7, σ7, H7, un I7, r7, q7⟩)
  exact loop m0 0 n γ s₀ s2 σ H2 H₀ pe lk ea hn0 I2 st2 (fun b hb => (f2 b hb).1) w0
end
end Gk
/-! Code that leaves the table of generators as it is. -/
namespace Gk
open PySem PySem.Spec PyProof.Rows L2 GenW
structure PEg (X : Cx) (e : Expr) (t : TE) : Prop where
  run : ∀ (pins : List (Addr × Obj)) (s : Shared) (σ : L2.St) (H : Hp) (Q : VK), Inv X pins σ H s → t σ H Q → wpAny (model X.prog X.w) X.A (eval e X.env) (fun u s' => EP X pins σ Q u s' ∧ s'.gens = s.gens) X.xe s
structure PTg (X : Cx) (e : Expr) (t : TT) : Prop where
  run : ∀ (pins : List (Addr × Obj)) (s : Shared) (σ : L2.St) (H : Hp) (Q : Bool → Hp → Prop), Inv X pins σ H s → t σ H Q → wpAny (model X.prog X.w) X.A (isTrue e X.env (eval e X.env)) (fun d s' => TP X pins σ Q d s' ∧ s'.gens = s.gens) X.xe s
structure PSg (X : Cx) (st : Stmt) (t : TS) : Prop where
  run : ∀ (pins : List (Addr × Obj)) (s : Shared) (σ : L2.St) (H : Hp) (D : Ends), Inv X pins σ H s → t D σ H → wpAny (model X.prog X.w) X.A (exec st X.env) (fun f s' => SP X pins D f s' ∧ s'.gens = s.gens) X.xe s
structure PSsg (X : Cx) (sts : List Stmt) (t : TS) : Prop where
  run : ∀ (pins : List (Addr × Obj)) (s : Shared) (σ : L2.St) (H : Hp) (D : Ends), Inv X pins σ H s → t D σ H → wpAny (model X.prog X.w) X.A (execs sts X.env) (fun f s' => SP X pins D f s' ∧ s'.gens = s.gens) X.xe s
structure PGg (X : Cx) (tg : Expr) (t : TG) : Prop where
  run : ∀ (pins : List (Addr × Obj)) (s : Shared) (σ : L2.St) (H : Hp) (v : V) (u : Value) (Q : L2.St → Hp → Prop), Inv X pins σ H s → RelV v u → t v σ H Q →
    wpAny (model X.prog X.w) X.A (assign tg X.env u) (fun _ s' => (∃ σ' H', Inv X pins σ' H' s' ∧ Q σ' H') ∧ s'.gens = s.gens) X.xe s
structure PGsg (X : Cx) (es : List Expr) (t : TGs) : Prop where
  run : ∀ (pins : List (Addr × Obj)) (s : Shared) (σ : L2.St) (H : Hp) (vs : List V) (us : List Value) (Q : L2.St → Hp → Prop), Inv X pins σ H s → Vals vs us → t vs σ H Q →
    wpAny (model X.prog X.w) X.A (assignInOrder ((assignEach es X.env).map (·.2)) us) (fun _ s' => (∃ σ' H', Inv X pins σ' H' s' ∧ Q σ' H') ∧ s'.gens = s.gens) X.xe s
section
variable {X : Cx} {pos : Pos}
theorem peg_var {i : Nat} {x : Str} (hN : X.N[i]? = some x) (hv : X.env.scope.names.lookup x = some .local) (hd : (x == ("__debug__" : Str)) = false := by decide) : PEg X (.Name x pos) (tVar i) := by
  refine ⟨fun pins s σ H Q I h => ?_⟩
  obtain ⟨v, e, h⟩ := h
  obtain ⟨m, hn, hl⟩ := I.loc
  obtain ⟨u, r, l⟩ := hl i x v hN e (.inl hv)
  have fin : EP X pins σ Q u s ∧ s.gens = s.gens := ⟨⟨v, H, I, r, h⟩, rfl⟩
  rcases l with ⟨hk, hm⟩ | ⟨hk, _⟩
  · exact wpAny_Name (wpAny_loadName_local I.ok.kind hk hn hm fin) hd
  · have hv' : X.env.kindOf x = some .local := hv
    rcases hk with hk | hk <;> rw [hv'] at hk <;> cases hk
/-- len(x), x a list -/
def rLenG (K : PySem.W.Frag) : List V → Hp → VK → Prop := fun xs H Q => ∃ p ys, xs = [.ref p] ∧ SqL K H p ys ∧ Q (.int ys.length) H
theorem peg_len {e : Expr} {te : TE} {p : Pos} (hg : Gl X "len") (hm : X.mg "len" = none) (he : PEg X e te) (hs : starEach [e] X.env = (false, eval e X.env) :: starEach [] X.env := by rfl) : PEg X (.Call (.Name "len" p) [e] [] pos) (tCB (rLenG X.K) (tCons te tNil)) := by
  refine ⟨fun pins s σ H Q I h => ?_⟩
  refine wpAny_Call_Name_kw (ld_blt I hg hm PySem.boot_len ?_ (by decide) (by decide))
  refine PyProof.Rows.callWith_builtin1 ?_ hs (by rfl)
  rw [hs]
  show wpAny _ _ (spliced ((false, eval e X.env) :: backTo pos (starEach [] X.env))) _ _ s
  refine Calls.spliced_cons (thn (he.run pins s σ H _ I h) fun u s1 ⟨⟨x, H1, I1, r1, q1⟩, g1⟩ => ?_)
  refine Calls.spliced_nil ?_
  obtain ⟨p0, ys, ex, hl, q⟩ := q1
  obtain rfl : x = .ref p0 := (List.cons.inj ex).1
  cases r1
  obtain ⟨its, r', pl, hz⟩ := I1.list hl
  have hlen := r'.length
  have hn := line63
  exact Calls.call_len_list pl.isList (by simp only [List.size_toArray] <;> omega) ⟨⟨.int ys.length, H1, I1.tok _, ⟨s1.toks + 1, by rw [List.size_toArray, hlen]⟩, q⟩, g1⟩
/-- a == b, a != b of whole numbers -/
theorem ptg_eq {a b : Expr} {ta tb : TE} (ha : PEg X a ta) (hb : PEg X b tb) (hm : behindInMarks .Eq b = false) : PTg X (.Compare a [.Eq] [b] pos) (fun σ H Q => ta σ H fun x H1 => tb σ H1 fun y H2 => ∃ i j : Int, x = .int i ∧ y = .int j ∧ Q (i == j) H2) := by
  refine ⟨fun pins s σ H Q I h => ?_⟩
  refine wpAny_isTrue_Compare1 (thn (ha.run pins s σ H _ I h) fun v s1 ⟨⟨x, H1, I1, r1, q1⟩, g1⟩ => thn (hb.run pins s1 σ H1 _ I1 q1) fun u s2 ⟨⟨y, H2, I2, r2, q2⟩, g2⟩ => ?_) hm
  obtain ⟨i, j, rfl, rfl, q⟩ := q2
  obtain ⟨t1, rfl⟩ := r1
  obtain ⟨t2, rfl⟩ := r2
  exact PySem.P.eq_int (wpAny_truthy_bool ⟨⟨H2, I2, q⟩, g2.trans g1⟩)
theorem ptg_ne {a b : Expr} {ta tb : TE} (ha : PEg X a ta) (hb : PEg X b tb) (hm : behindInMarks .NotEq b = false) : PTg X (.Compare a [.NotEq] [b] pos) (fun σ H Q => ta σ H fun x H1 => tb σ H1 fun y H2 => ∃ i j : Int, x = .int i ∧ y = .int j ∧ Q (i != j) H2) := by
  refine ⟨fun pins s σ H Q I h => ?_⟩
  refine wpAny_isTrue_Compare1 (thn (ha.run pins s σ H _ I h) fun v s1 ⟨⟨x, H1, I1, r1, q1⟩, g1⟩ => thn (hb.run pins s1 σ H1 _ I1 q1) fun u s2 ⟨⟨y, H2, I2, r2, q2⟩, g2⟩ => ?_) hm
  obtain ⟨i, j, rfl, rfl, q⟩ := q2
  obtain ⟨t1, rfl⟩ := r1
  obtain ⟨t2, rfl⟩ := r2
  exact PySem.P.ne_int (wpAny_truthy_bool ⟨⟨H2, I2, q⟩, g2.trans g1⟩)
theorem psg_if {c : Expr} {a b : List Stmt} {tc : TT} {t u : TS} (hc : PTg X c tc) (ha : PSsg X a t) (hb : PSsg X b u) : PSg X (.If c a b pos) (tIfS tc t u) := by
  refine ⟨fun pins s σ H D I h => ?_⟩
  refine wpAny_If (thn (hc.run pins s σ H _ I h) fun d s1 ⟨⟨H1, I1, q1⟩, g1⟩ => ?_)
  cases d with
  | true => exact thn (ha.run pins s1 σ H1 D I1 q1) fun f s2 ⟨q, g⟩ => ⟨q, g.trans g1⟩
  | false => exact thn (hb.run pins s1 σ H1 D I1 q1) fun f s2 ⟨q, g⟩ => ⟨q, g.trans g1⟩
theorem psg_break : PSg X (.Break pos) tBreak := ⟨fun _ _ σ H _ I h => wpAny_Break ⟨⟨σ, H, I, h⟩, rfl⟩⟩
def tAppG (tl te : TE) : TS := fun D σ H => tl σ H fun x H1 => ∃ l xs, x = .ref l ∧ H1 l = some (.lst xs) ∧ te σ H1 fun y H2 => ∃ xs2, H2 l = some (.lst xs2) ∧ xs2.length < sizeLine ∧ D.nx σ (upd H2 l (.lst (xs2 ++ [y])))
theorem psg_append {o e : Expr} {to te : TE} {apos cpos : Pos} (ho : PEg X o to) (he : PEg X e te)
    (hbase : attributeBase o "append" X.env (eval o X.env) = eval o X.env := by rfl)
    (hfew : ((backTo cpos (starEach [e] X.env)).all (fun x => !x.1) && (backToKw cpos (keywordEach [] X.env)).all (fun x => x.1.isSome)
      && decide ([e].length + ([] : List Keyword).length + (if ([] : List Keyword).isEmpty then 0 else 1) < 30)) = true := by rfl)
    (hline : (apos.endLine == cpos.line) = true := by rfl) (hs : starEach [e] X.env = (false, eval e X.env) :: starEach [] X.env := by rfl) (hsw : swapsWith (.Call (.Attribute o "append" apos) [e] [] cpos) none pos.line X.env = pure false := by rfl) :
    PSg X (.Expr (.Call (.Attribute o "append" apos) [e] [] cpos) pos) (tAppG to te) := by
  refine ⟨fun pins s σ H D I h => ?_⟩
  refine wpAny_Expr_any ?_ I.quiet hsw
  refine wpAny_Call_method_late hbase hfew hline rfl (thn (ho.run pins s σ H _ I h) fun v s1 ⟨⟨x, H1, I1, r1, l, xs, ex, hl, q1⟩, g1⟩ => ?_)
  subst ex
  obtain ⟨h1, h2⟩ := tyV_is (T := "list") I1 r1 (.inl ⟨rfl, xs, SqL.of hl⟩)
  refine ⟨"list", "list.append", PySem.F.plainAttrs_list, PySem.F.slot_list_append, PySem.F.type_list_append, h1, h2, ?_⟩
  cases r1
  rw [hs]
  refine Calls.callWith_builtin (by rfl) (Calls.evalArgs_plain ?_)
  refine Calls.spliced_cons (thn (he.run pins s1 σ H1 _ I1 q1) fun u s2 ⟨⟨y, H2, I2, r2, xs2, hl2, hz, q2⟩, g2⟩ => ?_)
  refine Calls.spliced_nil ?_
  obtain ⟨z, its, n, r, hln, e2⟩ := I2.lstM hl2
  refine call_meets PySem.F.slot_list_append ⟨_, e2, rfl⟩ PySem.F.entry_list_append (PySem.F.args_list_append_2 _ _) (PySem.list_append l its.toArray n u (by rw [List.size_toArray]; omega)) ⟨e2, ?_⟩
  refine ⟨⟨σ, _, I2.lset (its' := its ++ [u]) hl2 e2 (by simp) (r.append (.cons r2 .nil)) ?_, q2⟩, g2.trans g1⟩
  rw [List.length_append, List.length_singleton]
  omega
theorem pssg_nil : PSsg X [] tNext := ⟨fun pins s σ H D I h => wpAny_execs_nil ⟨⟨σ, H, I, h⟩, rfl⟩⟩
theorem pssg_cons {st : Stmt} {rest : List Stmt} {t u : TS} (h1 : PSg X st t) (h2 : PSsg X rest u) : PSsg X (st :: rest) (tSeq t u) := by
  refine ⟨fun pins s σ H D I h => ?_⟩
  refine wpAny_execs_cons (thn (h1.run pins s σ H { D with nx := u D } I h) fun f s1 ⟨q, g1⟩ => ?_)
  cases f with
  | next =>
    obtain ⟨σ', H', I', q⟩ := q
    exact thn (h2.run pins s1 σ' H' D I' q) fun f s2 ⟨q, g⟩ => ⟨q, g.trans g1⟩
  | ret v => exact ⟨q, g1⟩
  | brk => exact ⟨q, g1⟩
  | cont => exact ⟨q, g1⟩
/-! ### targets -/
theorem pgg_name {i : Nat} {x : Str} (hN : X.N.Nodup) (hi : X.N[i]? = some x) (hx : X.env.scope.names.lookup x = some .local) : PGg X (.Name x pos) (gName i) := by
  refine ⟨fun pins s σ H v u Q I r h => wpAny_assign_Name ?_⟩
  obtain ⟨m, hn, hl⟩ := id I.loc
  have hcls : (X.env.scope.kind == .class || (X.env.scope.kind == .module && X.env.locals != X.env.globals)) = false := by rw [I.ok.kind]; rfl
  have hiσ : i < σ.length := by rw [I.len]; exact (List.getElem?_eq_some_iff.mp hi).1
  have cne := I.cne
  have low : ∀ b o, X.s_0.heap.get? b = some o → b ≠ X.env.locals := fun b o e => Nat.ne_of_lt (Nat.lt_of_lt_of_le (Heap.lt_size e) I.ok.above)
  refine wpAny_storeName_local hx hn (fun h' hn' hs => ⟨⟨_, H, ?_, h⟩, rfl⟩) hcls
  refine ⟨I.ok, I.os, I.bare, ⟨fun b o e n hb hx' => ?_, fun b o e n hb hx' => ?_, I.base.free, fun b o e hx' => ?_, I.base.tups, I.base.frzs, I.base.tbls⟩, ⟨_, hn', fun j y v' e1 e2 e3 => ?_⟩, fun y c e => ?_, I.free, I.freeC, fun p hp => ?_, fun b ob e => ?_, by simpa using I.len⟩
  · rw [hs.2 b (low b o e)]
    exact I.base.keep b o e n hb hx'
  · obtain ⟨sl, e1⟩ := I.base.slot b o e n hb hx'
    exact ⟨sl, by rw [hs.2 b (low b o e)]; exact e1⟩
  · obtain ⟨o', e1⟩ := I.base.there b o e hx'
    exact ⟨o', by rw [hs.2 b (low b o e)]; exact e1⟩
  · by_cases hj : j = i
    · subst hj
      rw [hi] at e1
      cases e1
      rw [List.getElem?_set_self hiσ] at e2
      cases e2
      exact ⟨u, r, .inl ⟨hx, by simp⟩⟩
    · rw [List.getElem?_set_ne (Ne.symm hj)] at e2
      obtain ⟨u', r', q⟩ := hl j y v' e1 e2 e3
      refine ⟨u', r', ?_⟩
      rcases q with ⟨k, e⟩ | ⟨k, c, e, z⟩
      · have ne : y ≠ x := fun e => hj (nodup_ix hN e1 (by rw [e]; exact hi))
        exact .inl ⟨k, by simp [ne, e]⟩
      · exact .inr ⟨k, c, e, z.sameBut hs (cne y c e)⟩
  · obtain ⟨w', z⟩ := I.cell y c e
    exact ⟨w', z.sameBut hs (cne y c e)⟩
  · obtain ⟨e, n, ne, nf, d⟩ := I.pin p hp
    exact ⟨by rw [hs.2 p.1 ne]; exact e, n, ne, nf, d⟩
  · refine (I.hok b ob e).stay (fun c w' hc q => ?_) (fun _ q => q) fun _ _ q => q
    rw [hs.2 c ?_]
    · exact q
    · intro z
      rcases hc with hc | hc
      · rw [← hc, z, I.free] at e
        cases e
      · rw [z, I.free] at hc
        cases hc
theorem pgsg_nil : PGsg X [] gNil := by
  refine ⟨fun pins s σ H vs us Q I r h => ?_⟩
  obtain ⟨rfl, h⟩ := h
  cases r
  exact assignInOrder_nil ⟨⟨σ, H, I, h⟩, rfl⟩
theorem pgsg_cons {e : Expr} {es : List Expr} {t : TG} {u : TGs} (h1 : PGg X e t) (h2 : PGsg X es u)
    (hs : (assignEach (e :: es) X.env).map (·.2) = assign e X.env :: (assignEach es X.env).map (·.2) := by rfl) : PGsg X (e :: es) (gCons t u) := by
  refine ⟨fun pins s σ H vs us Q I r h => ?_⟩
  obtain ⟨v, vr, rfl, h⟩ := h
  cases r with
  | cons r rr =>
    rw [hs]
    refine assignInOrder_cons (thn (h1.run pins s σ H _ _ _ I r h) fun _ s1 ⟨⟨σ1, H1, I1, q1⟩, g1⟩ => ?_)
    exact thn (h2.run pins s1 σ1 H1 _ _ Q I1 rr q1) fun _ s2 ⟨q, g⟩ => ⟨q, g.trans g1⟩
theorem pgg_tup {es : List Expr} {k : Nat} {t : TGs} {n : Nat} (hc : X.calm = true) (h : PGsg X es t)
    (hn : (assignEach es X.env).length = n := by rfl) (hst : (assignEach es X.env).findIdx? (·.1) = none := by rfl) : PGg X (.Tuple es k pos) (gTup X.K n t) := by
  refine ⟨fun pins s σ H v u Q I r hw => ?_⟩
  obtain ⟨a, xs, rfl, hq, hl, hw⟩ := hw
  cases r
  obtain ⟨its, rv, ht, hz⟩ := I.tuple hq
  refine assign_Tuple_tuple (I.ok.hd hc) ht (by simp [hn, ← hl, rv.length]) hst fun h' hx => ?_
  have I1 : Inv X pins σ H { s with heap := h' } := I.kept (t' := s.toks) fun b o e => hx b o (Nat.ne_of_lt (Heap.lt_size e)) e
  exact thn (h.run pins _ σ H xs _ Q I1 (by simpa using rv) hw) fun _ s2 ⟨q, g⟩ => ⟨q, g⟩
end
end Gk
/-! A generator def's promise to a caller that goes on between its items. -/
namespace Gk
open PySem PySem.Spec PyProof.Rows L2 GenW
/-- arguments, heap, how many items at most, what the caller keeps, what is wanted at the end, what is wanted of an item -/
abbrev SpY := List V → Hp → Nat → L2.St → (L2.St → Hp → Prop) → (L2.St → V → Hp → (L2.St → Hp → Prop) → Prop) → Prop
def YRE (X : Cx) (Lk : LK) (dn : L2.St → Hp → Prop) : GenEnd := fun n s₀ r s1 =>
  ((r = .ok (.ret .none) ∨ r = .ok .next) ∧ ∃ γ H₀ pe H, Lk γ H₀ s₀ pe ∧ Went X pe H₀ s₀ H s1 ∧ dn γ H) ∨ ∃ e, r = .error e ∧ False
structure GenX (P : Program) (w : World) (base : Heap) (outer : List Env) (n0 : Nat) (X : Cx) : Prop where
  prog : X.prog = P
  w : X.w = w
  base : X.base = base
  outer : X.outer = outer
  loc : X.env.locals = n0
def YMade (P : Program) (w : World) (base : Heap) (k : Nat) (outer : List Env) (H : Hp) (s : Shared) (n : Nat) (γ : L2.St) (dn : L2.St → Hp → Prop) (yl : L2.St → V → Hp → (L2.St → Hp → Prop) → Prop) (u : Value) (s' : Shared) : Prop :=
  ∃ (a : Addr) (g : Nat) (c : Code) (go : Obj), u = .ref a ∧ s.heap.objs.size < a ∧ s'.heap.get? a = some go ∧ go.cls = .type "generator" ∧ (∃ nm qn, go.data = .fields #[.int g 0, nm, qn]) ∧ go.slots = #[] ∧ s'.gens[g]? = some (.fresh c) ∧ s'.os = s.os ∧ AllBare s'.gens ∧ s'.heap.NoLimit ∧ (∀ b o, s.heap.get? b = some o → s'.heap.get? b = some o) ∧
    ∀ (A : Around), Room k A → A.frames = some outer → ∃ X, GenX P w base outer s.heap.objs.size X ∧ ∀ (Lk : LK) (Ad : List Addr) (s2 : Shared) (pe : List (Addr × Obj)), (∀ b o, s'.heap.get? b = some o → s2.heap.get? b = some o) → Lk γ H s2 pe → On X s2 H → PeOk X Ad pe H s2 →
      Seg (model P w) A (YRE X Lk dn) (YP X Lk Ad yl) n s2 c ((model P w).den c) [] s2
structure GenYd (P : Program) (w : World) (K : PySem.W.Frag) (mg : Str → Option Value) (base : Heap) (k : Nat) (f : Addr) (fd : FuncData) (ps : List Str) (sp : SpY) : Prop where
  len : ∀ vs H n γ dn yl, sp vs H n γ dn yl → vs.length = ps.length
  run : ∀ (A : Around) (outer : List Env) (s : Shared) (H : Hp) (args : Args) (us : List Value) (vs : List V) (n : Nat) (γ : L2.St) (dn : L2.St → Hp → Prop) (yl : L2.St → V → Hp → (L2.St → Hp → Prop) → Prop), Room k A → Env0 P w K mg base A outer s H → BindsTo s fd args (ps.zip us) → Vals vs us → sp vs H n γ dn yl →
    codeAny (model P w) A (.call (.ref f) args) (fun r s' => match r with | .ok (.ret u) => YMade P w base k outer H s n γ dn yl u s' | _ => False) s
/-- the generator as it is made sleeps -/
theorem sleep0 {X : Cx} {H : Hp} {s : Shared} {σ : L2.St} (g : GCx X) (I : Inv X [] σ H s) : ∃ oL, s.heap.get? X.env.locals = some oL ∧ H X.env.locals = none ∧ Slept X [] σ oL := by
  obtain ⟨m, hn, hl⟩ := I.loc
  obtain ⟨o, es, ep, ho, r⟩ := hn
  have hd : o.data = .dict es ep := r.1
  refine ⟨o, ho, I.free, ⟨fun h e => ⟨m, ⟨o, es, ep, e, r⟩, fun i x v a b c => ?_⟩, fun p hp => (by cases hp), fun v z => ?_, ?_, I.len⟩⟩
  · obtain ⟨u, ru, l⟩ := hl i x v a b c
    refine ⟨u, ru, ?_⟩
    rcases l with l | ⟨_, c', e', _⟩
    · exact .inl l
    · rw [g.cells x] at e'
      cases e'
  · rw [hd] at z
    cases z
  · intro hb
    obtain ⟨_, o', e', _⟩ := I.ok.funs.mem hb
    have h1 := Heap.lt_size e'
    rw [g.n0] at h1
    exact absurd h1 (Nat.lt_irrefl _)
theorem gy_of {P : Program} {w : World} {K : PySem.W.Frag} {mg : Str → Option Value} {base : Heap} {k : Nat} {f : Addr} {name qual : Str} {params : Arguments} {body : List Stmt} {scope : Scope} {dV kV doc pm cdv ct oc : Value} {an od : Option Addr}
    {osl : Array (Option Value)} {N ps : List Str} {sp : SpY} (lk : K.lookup f = some ⟨oc, od, .func (PySem.W.fnOf name qual params body scope dV kV doc pm an cdv ct), osl⟩) (hcd : PySem.W.codeIn K cdv qual = true) (S : GScope N ps scope)
    (hcell : ∀ m x, (cellsFrom m scope.names []).lookup x = none)
    (len : ∀ vs H n γ dn yl, sp vs H n γ dn yl → vs.length = ps.length)
    (hbody : ∀ (A : Around) (outer : List Env) (s : Shared) (H : Hp) (vs : List V) (n : Nat) (γ : L2.St) (dn : L2.St → Hp → Prop) (yl : L2.St → V → Hp → (L2.St → Hp → Prop) → Prop), Room k (A.deeper (envOfC qual scope s.heap.objs.size f cdv)) → sp vs H n γ dn yl →
      ∃ t, YSs (fcx P w K mg base N qual scope f cdv A outer s H []) body t ∧ t { nx := fun _ γ _ H' => dn γ H', rt := fun _ γ v H' => v = .non ∧ dn γ H', yl := yl } n γ (start N vs) H) :
    GenYd P w K mg base (k + 1) f (PySem.W.fnOf name qual params body scope dV kV doc pm an cdv ct) ps sp := by
  refine ⟨len, fun A outer s H args us vs n γ dn yl hr e0 hb r hsp => ?_⟩
  have hl := len _ _ _ _ _ _ hsp
  have KX : K.In s.heap := e0.mod.kin.keeps fun b o e => (e0.bs b o e).1
  have lim : s.heap.NoLimit := e0.mod.nolimit.keeps fun b o e => (e0.bs b o e).1
  have hkind : ∀ y ∈ ps.zip us, scope.names.lookup y.1 = some .local ∨ (scope.names.lookup y.1 = some .cell ∧ ((cellsFrom (s.heap.objs.size + 1) scope.names []).lookup y.1).isSome = true) := fun ⟨n, v⟩ hy => by
    rcases S.par n (List.of_mem_zip hy).1 with q | q
    · exact .inl q
    · exact .inr ⟨q, PySem.W.cellsFrom_some _ _ _ (.inl q)⟩
  refine codeAny_call_generator hr.depth (KX _ _ lk) rfl S.co S.gen rfl (PySem.W.codeRec_of KX hcd) (hb _ _ _ _ ?_)
  refine wpAny_newFunctionEnv_cells S.kind hkind fun env he s1 x => ?_
  subst he
  have lim1 : s1.heap.NoLimit := lim.keeps x.toInCall.keep
  refine ⟨lim1, ?_⟩
  obtain ⟨h1, tk, es1, hk1⟩ := x.done
  have os1 : s1.os = s.os := by rw [es1]
  have gen1 : s1.gens = s.gens := by rw [es1]
  have lt1 : s.heap.objs.size < s1.heap.objs.size := x.toInCall.ns.lt
  have kp1 : ∀ b o, s.heap.get? b = some o → s1.heap.get? b = some o := x.toInCall.keep
  have main : ∀ (go : Obj) (nm qn : Value) (tk2 : Nat), go.cls = .type "generator" → go.data = .fields #[.int s1.gens.size 0, nm, qn] → go.slots = #[] → (∀ h : Heap, (h.push go).get? h.objs.size = some go) →
      YMade P w base (k + 1) outer H s n γ dn yl (.ref s1.heap.objs.size) { s1 with gens := s1.gens.push (.fresh (.func body (envOfC qual scope s.heap.objs.size f cdv))), toks := tk2, heap := s1.heap.push go } := by
    intro go nm qn tk2 hgc hgd0 hgs hgp
    refine ⟨s1.heap.objs.size, s1.gens.size, _, go, rfl, lt1, hgp _, hgc, ⟨nm, qn, hgd0⟩, hgs, Array.getElem?_push_size .., os1, AllBare.push (by rw [gen1]; exact e0.bare) rfl, lim1.keeps fun b o e => Heap.get?_push_of_some _ e, fun b o e => Heap.get?_push_of_some _ (kp1 b o e), ?_⟩
    intro Aw hrw hfr
    have g : GCx (fcx P w K mg base N qual scope f cdv Aw outer s H []) := ⟨rfl, rfl, rfl, rfl, fun x => hcell _ x, fun _ _ z => z⟩
    have e0w : Env0 P w K mg base Aw outer s H := ⟨hfr, e0.mod, e0.bs, e0.bsz, e0.funs, e0.frf, e0.hok, e0.bare⟩
    have I1 : Inv (gcxOf P w K mg base N qual scope f cdv Aw outer s H L2.E0 []) [] (start N vs) H s1 := inv_startG S hrw.hd e0w hl r x
    have G1 : Inv (fcx P w K mg base N qual scope f cdv Aw outer s H []) [] (start N vs) H s1 := Inv.wish (X := gcxOf P w K mg base N qual scope f cdv Aw outer s H L2.E0 []) I1 _
    obtain ⟨oL, hL, nL, SL⟩ := sleep0 g G1
    refine ⟨fcx P w K mg base N qual scope f cdv Aw outer s H [], ⟨rfl, rfl, rfl, rfl, rfl⟩, fun Lk Ad s2 pe hk2 lk2 on po => ?_⟩
    obtain ⟨t, ht, hq⟩ := hbody Aw outer s H vs n γ dn yl (hrw.deeper _) hsp
    have hL2 := hk2 _ _ (Heap.get?_push_of_some go hL)
    have I2 := waked g G1.ok on SL hL2 nL (fun p hp => (by cases hp)) po.2
    have yc : YC (fcx P w K mg base N qual scope f cdv Aw outer s H []) Ad [] Aw (.func body (envOfC qual scope s.heap.objs.size f cdv)) [] id := { toFC := ⟨over_func, rfl, rfl, rfl, fun _ _ z => z⟩, g := g, ok := G1.ok, ip := fun p hp => (by cases hp) }
    refine seg_func ?_
    refine ht.run Aw Lk Ad [] _ n γ s2 _ [] _ _ id id s2 (start N vs) H _ yc ⟨fun n' γ' s₀ s' fl H₀ pe' lk' ea' hn' hs => ?_⟩ ⟨H, pe, lk2, po.1, Nat.le_of_lt (Heap.lt_size hL2), I2⟩ hq
    have back : ∀ {σ' : L2.St} {H' : Hp}, Inv (re (fcx P w K mg base N qual scope f cdv Aw outer s H []) s₀ H₀) (pe' ++ []) σ' H' s' → Went (fcx P w K mg base N qual scope f cdv Aw outer s H []) pe' H₀ s₀ H' s' := fun {σ' H'} J =>
      ⟨J.os, J.bare, J.base, J.hok, fun p hp => let ⟨a, b, _⟩ := J.pin p (List.mem_append_right _ (List.mem_append_left _ hp)); ⟨a, b⟩⟩
    cases fl with
    | next =>
      obtain ⟨σ', H', J, hQ⟩ := hs
      exact seg_end (.ok (.ret .none)) (.inl ⟨.inl rfl, γ', H₀, pe', H', lk', back J, hQ⟩)
    | brk => obtain ⟨_, _, _, q⟩ := hs; exact False.elim q
    | cont => obtain ⟨_, _, _, q⟩ := hs; exact False.elim q
    | ret u =>
      obtain ⟨v, σ', H', J, rv, ev, hQ⟩ := hs
      subst ev
      have eu : u = Value.none := rv
      subst eu
      exact seg_end (.ok (.ret .none)) (.inl ⟨.inl rfl, γ', H₀, pe', H', lk', back J, hQ⟩)
  exact main _ _ _ _ rfl rfl rfl fun h => Heap.get?_push_size _ rfl
theorem gY_ok {P : Program} {w : World} {K : PySem.W.Frag} {mg : Str → Option Value} {base : Heap} {x qual : Str} {st : Stmt} {f : Addr} {fd : FuncData} {N ps : List Str} {k : Nat} {sp : SpY} (F : L2.Fun K x qual st f fd) (S : GScope N ps (defScope st))
    (hcell : ∀ m x, (cellsFrom m (defScope st).names []).lookup x = none) (len : ∀ vs H n γ dn yl, sp vs H n γ dn yl → vs.length = ps.length)
    (hbody : ∀ (cdv : Value) (A : Around) (outer : List Env) (s : Shared) (H : Hp) (vs : List V) (n : Nat) (γ : L2.St) (dn : L2.St → Hp → Prop) (yl : L2.St → V → Hp → (L2.St → Hp → Prop) → Prop), Room k (A.deeper (envOfC qual (defScope st) s.heap.objs.size f cdv)) → sp vs H n γ dn yl →
      ∃ t, YSs (fcx P w K mg base N qual (defScope st) f cdv A outer s H []) (defBody st) t ∧ t { nx := fun _ γ _ H' => dn γ H', rt := fun _ γ v H' => v = .non ∧ dn γ H', yl := yl } n γ (start N vs) H) :
    GenYd P w K mg base (k + 1) f fd ps sp := by
  obtain ⟨oc, od, kV, doc, pm, an, cdv, ct, osl, rfl, lk, hcd⟩ := F.ex
  exact gy_of lk hcd S hcell len fun A outer s H vs n γ dn yl hr h => hbody cdv A outer s H vs n γ dn yl hr h
structure Dgy (P : Program) (w : World) (K : PySem.W.Frag) (mg : Str → Option Value) (base : Heap) (k : Nat) (x : Str) (ps : List Str) (sp : SpY) : Prop where
  ex : ∃ (f : Addr) (fd : FuncData), GenYd P w K mg base k f fd ps sp ∧ mg x = some (.ref f) ∧ PySem.W.keepIn K (.ref f) = true ∧ Binds K fd ps []
end Gk
/-! for x in f(..): .., the generator going on turn by turn. -/
namespace Gk
open PySem PySem.Spec PyProof.Rows L2 GenW
section
variable {X X' : Cx} {pins pe : List (Addr × Obj)} {γ : L2.St} {H H₀ : Hp} {s s₀ : Shared} {n0 : Nat}
/-- the caller behind a turn of the generator -/
theorem turn_back (I : Inv X pins γ H₀ s₀) (gx : GenX X.prog X.w X.base X.stack n0 X') (hlow : X.env.locals < n0) (hcells : ∀ x c, X.env.cells.lookup x = some c → c < n0) (hpins : ∀ p ∈ X.pn ++ pins, p.1 < n0) (W : Went X' pe H₀ s₀ H s)
    {s' : Shared} (es : s'.heap = s.heap) (eo : s'.os = s.os) (eg : AllBare s'.gens) : Inv X pins γ H s' := by
  have hfs : X'.fs = frs X.stack := by
    show frs X'.outer = _
    rw [gx.outer]
  have un := W.un
  rw [hfs, gx.loc] at un
  have low : ∀ {b : Addr} {o : Obj}, s₀.heap.get? b = some o → b ∉ (List.range s₀.heap.objs.size).filter (fun b => decide (n0 ≤ b)) → (cut s₀.heap n0).get? b = some o := fun {b o} e hb => by
    refine cut_of ?_ e
    rcases Nat.lt_or_ge b n0 with z | z
    · exact z
    · exact absurd (List.mem_filter.mpr ⟨List.mem_range.mpr (Heap.lt_size e), decide_eq_true z⟩) hb
  have hok : HOk X.prog X.w H s'.heap := by
    have := W.hok
    rw [gx.prog, gx.w] at this
    rw [es]
    exact this
  refine I.call' (ch := (List.range s₀.heap.objs.size).filter (fun b => decide (n0 ≤ b))) (eo.trans W.os) ?_ hok eg fun b hb => ?_
  · rw [es]
    exact ⟨fun b o e n hb hc => un.keep b o (low e hc) n hb (by simp), fun b o e n hb hc => un.slot b o (low e hc) n hb (by simp), fun b o e n hc => un.free b o (low e hc) n (by simp), fun b o e hc => un.there b o (low e hc) (by simp), un.tups, un.frzs, un.tbls⟩
  · have hge : n0 ≤ b := of_decide_eq_true (List.mem_filter.mp hb).2
    refine ⟨.inr (Nat.le_trans I.ok.above (Nat.le_trans (Nat.le_of_lt hlow) hge)), fun z => ?_, fun x c e z => ?_, fun p hp z => ?_⟩
    · rw [z] at hge
      exact absurd hlow (Nat.not_lt.mpr hge)
    · have := hcells x c e
      rw [z] at this
      exact absurd this (Nat.not_lt.mpr hge)
    · have := hpins p hp
      rw [z] at this
      exact absurd this (Nat.not_lt.mpr hge)
theorem on_of (I : Inv X pins γ H s) (gx : GenX X.prog X.w X.base X.stack n0 X') : On X' s H := by
  have e := I.env0
  have hfs : X'.fs = frs X.stack := by
    show frs X'.outer = _
    rw [gx.outer]
  refine ⟨fun b o h => e.bs b o (by rw [← gx.base]; exact h), by rw [gx.base]; exact e.bsz, by rw [gx.base, gx.outer]; exact e.funs, fun b hb => e.frf b (by rw [← hfs]; exact hb), by rw [gx.prog, gx.w]; exact e.hok, e.bare⟩
theorem inv_gens {s' : Shared} (I : Inv X pins γ H s) (eh : s'.heap = s.heap) (eo : s'.os = s.os) (eg : AllBare s'.gens) : Inv X pins γ H s' :=
  I.call' (ch := []) eo (by rw [eh]; exact Un.refl) (by rw [eh]; exact I.hok) eg fun b z => by cases z
end
section
variable {X : Cx} {k : Nat} {f : Addr} {fd : FuncData} {ps : List Str} {sp : SpY} {x : Str} {p pos fpos : Pos} {e : Expr} {es : List Expr} {t : TA} {tg : Expr} {g : TG} {tb : TS} {body : List Stmt}
def tForY (sp : SpY) (t : TA) (g : TG) (tb : TS) : TS := fun D σ H => t σ H fun vs H1 => ∃ n, sp vs H1 n σ (fun γ H2 => D.nx γ H2) (fun γ v H2 k => g v γ H2 fun σ3 H3 => tb { D with nx := k, ct := k, bk := D.nx } σ3 H3)
theorem ps_forY (F : GenYd X.prog X.w X.K X.mg X.base k f fd ps sp) (hr : Room (k + 3) X.A) (hx : Gl X x) (hm : X.mg x = some (.ref f)) (hk : PySem.W.keepIn X.K (.ref f) = true) (hbn : Binds X.K fd ps [])
    (ha : PA X (e :: es) t) (hp : PassesOwn (model X.prog X.w) X.A X.env X.xe) (hc : X.calm = true) (hg : PGg X tg g) (hb : PSsg X body tb)
    (hdb : (x == ("__debug__" : Str)) = false := by decide) (he : starEach (e :: es) X.env = (false, eval e X.env) :: starEach es X.env := by rfl) (hpl : (backTo pos (starEach es X.env)).any (·.1) = false := by rfl)
    (hs : ∀ v, foldedSetIterable (.Call (.Name x p) (e :: es) [] pos) X.env v = pure v := by intro _; rfl) :
    PS X (.For tg (.Call (.Name x p) (e :: es) [] pos) body [] fpos) (tForY sp t g tb) := by
  refine ⟨fun pins s σ H D I h => ?_⟩
  refine wpAny_For ?_ hs
  refine wpAny_Call_Name_kw (ld_glob I hx hm ?_ hdb)
  refine PySem.W.callWith_K (h₀ := X.base) I.ok.mod.kin hk (thn (ha.run pos pins s σ H _ I h) fun us s1 ⟨vs, H1, I1, r1, n, q1⟩ => ⟨I1.kIn, ?_⟩) he hpl
  have hl : (us ++ []).length = ps.length := by rw [List.append_nil, ← r1.length]; exact F.len _ _ _ _ _ _ q1
  have b := hbn s1 us I1.kIn hl
  rw [List.append_nil] at b
  refine wpAny_call (codeAny_mono (F.run X.A X.stack s1 H1 ⟨us, []⟩ us vs n σ _ _ (hr.mono (by omega)) I1.env0 b r1 q1) fun res s2 hq => ?_)
  cases res with
  | error er => exact False.elim hq
  | ok fl =>
    cases fl with
    | brk => exact False.elim hq
    | cont => exact False.elim hq
    | next => exact False.elim hq
    | ret u =>
      obtain ⟨a, gi, c, go, rfl, ha1, hgo, hgc, ⟨nm, qn, hgd⟩, hgs, hfr, hos, hbare, hlim, hkp, wake⟩ := hq
      have isg : ∀ h : Heap, h.get? a = some go → h.IsGen a gi := fun h e => ⟨go, nm, qn, e, hgc, hgd, hgs⟩
      refine wpAny_pyIter_gen (isg _ hgo) ?_
      have rm : Room k X.A.in1 := ⟨hr.hd, by have := hr.dp; show X.A.depth + 3 * k + 5 < _; omega, by have := hr.un; show X.A.units + 1 + 16 * k + 200 < _; omega⟩
      have dep : X.A.depth < recursionLimit := by have := hr.dp; omega
      obtain ⟨X', gx, seg⟩ := wake X.A.in1 rm I1.ok.frames
      have hlow : X.env.locals < s1.heap.objs.size := I1.lt
      have hcells : ∀ y c, X.env.cells.lookup y = some c → c < s1.heap.objs.size := fun y c e => by
        obtain ⟨v, z⟩ := I1.cell y c e
        exact z.lt
      have hpins : ∀ q ∈ X.pn ++ pins, q.1 < s1.heap.objs.size := fun q hq => Heap.lt_size (I1.pin q hq).1
      have hfsl : ∀ z ∈ X.fs, z < s1.heap.objs.size := fun z hz => by
        obtain ⟨_, o, ho, _⟩ := I1.ok.funs.mem hz
        exact Nat.lt_of_lt_of_le (Heap.lt_size ho) I1.sz
      have hfs' : X'.fs = frs X.stack := by
        show frs X'.outer = _
        rw [gx.outer]
      have hstk : ∀ z ∈ frs X.stack, z < s1.heap.objs.size := fun z hz => by
        rcases List.mem_cons.mp (I1.stkSub z hz) with q | q
        · rw [q]; exact hlow
        · exact hfsl z q
      have nocell : ∀ v, go.data ≠ .cell v := fun v z => by rw [hgd] at z; cases z
      have na1 : H1 a = none := I1.hok.fresh (Nat.le_of_lt ha1)
      have I2 : Inv X pins σ H1 s2 := I1.call' (ch := []) hos (Un.kept hkp) (I1.hok.kept hkp) hbare fun b z => by cases z
      -- what links the two
      have peOk : ∀ {H' : Hp} {s' : Shared}, s'.heap.get? a = some go → H' a = none → PeOk X' [a] [(a, go)] H' s' := fun {H' s'} e n => ⟨rfl, fun q hq => by
        rw [List.mem_singleton.mp hq]
        refine ⟨e, n, ?_, ?_, nocell⟩
        · rw [gx.loc]
          exact Nat.ne_of_gt ha1
        · rw [hfs']
          exact fun z => absurd (hstk a z) (Nat.not_lt.mpr (Nat.le_of_lt ha1))⟩
      refine codeAny_forLoop_any (fun m s' => ∃ γ H' gs, Inv X pins γ H' s' ∧ s'.heap.get? a = some go ∧ H' a = none ∧ s'.gens[gi]? = some gs ∧
        gs.Goes (model X.prog X.w) X.A.in1 (YRE X' (fun γ H s pe => Inv X pins γ H s ∧ pe = [(a, go)]) (fun γ H2 => D.nx γ H2)) (YP X' (fun γ H s pe => Inv X pins γ H s ∧ pe = [(a, go)]) [a] (fun γ v H2 k => g v γ H2 fun σ3 H3 => tb { D with nx := k, ct := k, bk := D.nx } σ3 H3)) m (.send .none) (s'.setGen gi .running)) ?_ n ?_
      · rintro m s3 ⟨γ, H3, gs, I3, hgo3, na3, hg3, goes⟩
        have hgl : gi < s3.gens.size := (Array.getElem?_eq_some_iff.mp hg3).1
        refine wpAny_passesOwn hp (wpAny_gsz (n := gi + 1) hgl (next_genG (F := fun _ s₀ s₁ => ∃ γ H₀ pe H, (Inv X pins γ H₀ s₀ ∧ pe = [(a, go)]) ∧ Went X' pe H₀ s₀ H s₁ ∧ D.nx γ H) (Er := fun _ _ => False) (I3.ok.hd hc) I3.nolimit dep (isg _ hgo3) hg3 goes (fun v s₁ gs' hbg hv => ?_) (fun s₁ hf h' hk' => ?_) fun e s₁ z => z.elim))
        · intro hsz
          obtain ⟨γ1, H₀, H4, pe, hl, y, kk, ⟨J0, epe⟩, rv, W, hhl, q, kap⟩ := hv
          subst epe
          have J : Inv X pins γ1 H4 (s₁.setGen gi gs') := turn_back J0 gx hlow hcells hpins W rfl rfl (allBare_setGen W.bare hbg)
          obtain ⟨hgo4, na4⟩ := W.pe (a, go) (List.mem_singleton.mpr rfl)
          have hgi : gi < s₁.gens.size := by
            have q : (s₁.setGen gi gs').gens.size = s₁.gens.size := setGen_size _ _ _
            have : gi + 1 ≤ (s₁.setGen gi gs').gens.size := hsz
            omega
          have pinsOk : ∀ q ∈ pins ++ ((a, go) :: hl), (s₁.setGen gi gs').heap.get? q.1 = some q.2 ∧ H4 q.1 = none ∧ q.1 ≠ X.env.locals ∧ q.1 ∉ X.fs ∧ ∀ v, q.2.data ≠ .cell v := fun q hq => by
            have big : s1.heap.objs.size ≤ q.1 → q.1 ≠ X.env.locals ∧ q.1 ∉ X.fs := fun z => ⟨fun w => absurd hlow (Nat.not_lt.mpr (by rw [← w]; exact z)), fun w => absurd (hfsl _ w) (Nat.not_lt.mpr z)⟩
            rcases List.mem_append.mp hq with hq | hq
            · exact J.pin q (List.mem_append_right _ hq)
            · rcases List.mem_cons.mp hq with rfl | hq
              · exact ⟨hgo4, na4, (big (Nat.le_of_lt ha1)).1, (big (Nat.le_of_lt ha1)).2, nocell⟩
              · obtain ⟨h1, h2, h3, _, h4⟩ := hhl q hq
                rw [gx.loc] at h3
                exact ⟨h1, h2, (big h3).1, (big h3).2, h4⟩
          have J' : Inv X (pins ++ ((a, go) :: hl)) γ1 H4 (s₁.setGen gi gs') := J.pins_of pinsOk
          refine go_of (s := s₁.setGen gi gs') (o := go) (n := "generator") hgo4 hgc hgd (by decide) ?_
          refine wpAny_passesOwn hp (thn (hg.run _ _ γ1 H4 y v _ J' rv q) fun _ s6 ⟨⟨σ6, H6, I6, q6⟩, g6⟩ => ?_)
          refine wpAny_passesOwn hp (thn (hb.run _ s6 σ6 H6 _ I6 q6) fun f s7 ⟨q7, g7⟩ => ?_)
          have eg : s7.gens[gi]? = some gs' := by
            rw [g7, g6]
            exact setGen_at hgi
          have unp : ∀ {σ' : L2.St} {H' : Hp}, Inv X (pins ++ ((a, go) :: hl)) σ' H' s7 → Inv X pins σ' H' s7 := fun {σ' H'} K7 => K7.pins_of fun q hq => K7.pin q (List.mem_append_right _ (List.mem_append_left _ hq))
          have again : ∀ {σ' : L2.St} {H' : Hp}, Inv X (pins ++ ((a, go) :: hl)) σ' H' s7 → kk σ' H' → ∃ m', m' < m ∧ ∃ γ H' gs, Inv X pins γ H' s7 ∧ s7.heap.get? a = some go ∧ H' a = none ∧ s7.gens[gi]? = some gs ∧
              gs.Goes (model X.prog X.w) X.A.in1 (YRE X' (fun γ H s pe => Inv X pins γ H s ∧ pe = [(a, go)]) (fun γ H2 => D.nx γ H2)) (YP X' (fun γ H s pe => Inv X pins γ H s ∧ pe = [(a, go)]) [a] (fun γ v H2 k => g v γ H2 fun σ3 H3 => tb { D with nx := k, ct := k, bk := D.nx } σ3 H3)) m' (.send .none) (s7.setGen gi .running) := fun {σ' H'} K7 hkk => by
            obtain ⟨b1, b2, _⟩ := K7.pin (a, go) (List.mem_append_right _ (List.mem_append_right _ List.mem_cons_self))
            have K8 : Inv X pins σ' H' (s7.setGen gi .running) := inv_gens (unp K7) rfl rfl (allBare_setGen K7.bare rfl)
            have z := kap σ' H' (s7.setGen gi .running) [(a, go)] hkk ⟨K8, rfl⟩ (on_of K8 gx) (peOk b1 b2) fun q hq => by
              obtain ⟨c1, c2, _⟩ := K7.pin q (List.mem_append_right _ (List.mem_append_right _ (List.mem_cons_of_mem _ hq)))
              exact ⟨c1, c2⟩
            cases m with
            | zero => exact z.elim
            | succ m => exact ⟨m, Nat.lt_succ_self m, σ', H', gs', unp K7, b1, b2, eg, z⟩
          cases f with
          | next => obtain ⟨σ', H', K7, z⟩ := q7; exact again K7 z
          | cont => obtain ⟨σ', H', K7, z⟩ := q7; exact again K7 z
          | brk => obtain ⟨σ', H', K7, z⟩ := q7; exact ⟨σ', H', unp K7, z⟩
          | ret v => obtain ⟨v', σ', H', K7, rv', z⟩ := q7; exact ⟨v', σ', H', unp K7, rv', z⟩
        · intro _
          obtain ⟨γ1, H₀, pe, H4, ⟨J0, epe⟩, W, q⟩ := hf
          have J1 : Inv X pins γ1 H4 (s₁.setGen gi .finished) := turn_back J0 gx hlow hcells hpins W rfl rfl (allBare_setGen W.bare rfl)
          have J : Inv X pins γ1 H4 { s₁.setGen gi .finished with heap := h' } := J1.kept (t' := s₁.toks) hk'
          exact wpAny_execs_nil ⟨γ1, H4, J, q⟩
      · have I3 : Inv X pins σ H1 (s2.setGen gi .running) := inv_gens I2 rfl rfl (allBare_setGen hbare rfl)
        exact ⟨σ, H1, _, I2, hgo, na1, hfr, rfl, seg _ [a] (s2.setGen gi .running) [(a, go)] (fun _ _ z => z) ⟨I3, rfl⟩ (on_of I3 gx) (peOk hgo na1)⟩
end
end Gk
/-! A for over a range within a generator that goes on; for over such a def. -/
namespace Gk
open PySem PySem.Spec PyProof.Rows L2 GenW
theorem for_rangeY {lo : Int} {n : Nat} {g : TG} {tb : TY} {D : YEnds} {m : Nat} {γ σ : L2.St} {H : Hp} (Pv : Nat → Nat → L2.St → L2.St → Hp → Prop) (h0 : Pv 0 m γ σ H)
    (hs : ∀ i m γ σ H, i < n → Pv i m γ σ H → g (.int (lo + i)) σ H fun σ2 H2 => tb { D with nx := Pv (i + 1), ct := Pv (i + 1), bk := D.nx } m γ σ2 H2) (hd : ∀ m γ σ H, Pv n m γ σ H → D.nx m γ σ H) :
    ∃ W : Nat → Nat → Nat → L2.St → L2.St → Hp → Prop, (∃ e, W 0 e m γ σ H) ∧ ∀ i e m γ σ H, W i e m γ σ H →
      ((Itr lo n).stop i H ∧ D.nx m γ σ H) ∨ ((Itr lo n).go i H ∧ ∃ N : Nat → L2.St → L2.St → Hp → Prop, (∀ m' γ' σ' H', N m' γ' σ' H' → ∃ e', e' < e ∧ W (i + 1) e' m' γ' σ' H') ∧ ∀ x H', (Itr lo n).yld i H x H' → g x σ H' fun σ2 H2 => tb { D with nx := N, ct := N, bk := D.nx } m γ σ2 H2) := by
  refine ⟨fun i e m γ σ H => e = n - i ∧ i ≤ n ∧ Pv i m γ σ H, ⟨n, rfl, Nat.zero_le _, h0⟩, fun i e m γ σ H ⟨h1, h2, p⟩ => ?_⟩
  subst h1
  rcases Nat.lt_or_ge i n with c | c
  · exact .inr ⟨c, Pv (i + 1), fun m' γ' σ' H' p' => ⟨n - (i + 1), by omega, rfl, c, p'⟩, fun x H' ⟨e1, e2⟩ => by subst e1 e2; exact hs i m γ σ _ c p⟩
  · obtain rfl : i = n := by omega
    exact .inl ⟨Nat.le_refl _, hd m γ σ H p⟩
section
variable {X : Cx} {k : Nat} {ps : List Str} {sp : SpY} {x : Str} {p pos fpos : Pos} {e : Expr} {es : List Expr} {t : TA} {tg : Expr} {g : TG} {tb : TS} {body : List Stmt}
theorem ps_forYD (D : Dgy X.prog X.w X.K X.mg X.base k x ps sp) (hr : Room (k + 3) X.A) (hx : Gl X x) (ha : PA X (e :: es) t) (hp : PassesOwn (model X.prog X.w) X.A X.env X.xe) (hc : X.calm = true) (hg : PGg X tg g) (hb : PSsg X body tb)
    (hdb : (x == ("__debug__" : Str)) = false := by decide) (he : starEach (e :: es) X.env = (false, eval e X.env) :: starEach es X.env := by rfl) (hpl : (backTo pos (starEach es X.env)).any (·.1) = false := by rfl)
    (hs : ∀ v, foldedSetIterable (.Call (.Name x p) (e :: es) [] pos) X.env v = pure v := by intro _; rfl) :
    PS X (.For tg (.Call (.Name x p) (e :: es) [] pos) body [] fpos) (tForY sp t g tb) := by
  obtain ⟨f, fd, F, hm, hk, hbn⟩ := D.ex
  exact ps_forY F hr hx hm hk hbn ha hp hc hg hb hdb he hpl hs
end
/-- what stands as a tuple stays, a list being written -/
theorem keep_wr {K : PySem.W.Frag} {H : Hp} {D : Addr} {as bs : List V} (h : H D = some (.lst as)) : Keep K H (upd H D (.lst bs)) := fun a xs q => by
  have ne : ∀ {o : HO}, H a = some o → (∀ zs, o ≠ .lst zs) → upd H D (.lst bs) a = some o := fun {o} e n => by
    rw [upd_ne]
    · exact e
    · rintro rfl
      rw [h] at e
      exact n as (Option.some.inj e).symm
  rcases q with (q | ⟨u, q⟩) | q
  · exact .inl (.inl (ne q fun zs z => by cases z))
  · exact .inl (.inr ⟨u, ne q fun zs z => by cases z⟩)
  · exact .inr q
end Gk
/-! enumerate over a generator: its making, its next. -/
namespace Gk
open PySem PySem.Spec PyProof.Rows L2 GenW
section
variable {P : Program} {w : World} {A : Around} {E : Value → Shared → Prop} {s : Shared}
/-- next(generator), as what asks for the items of another iterator does it -/
theorem nextOf_genG {a : Addr} {g n : Nat} {gs : GenState} {F : Nat → Shared → Shared → Prop} {Y : Protocol} {Q : Value → Shared → Prop} (hh : A.handled = none)
    (hl : s.heap.NoLimit) (hroom : A.depth < recursionLimit) (hg : s.heap.IsGen a g) (hgs : s.gens[g]? = some gs)
    (hgo : gs.Goes (model P w) A.in1 (fun n s₀ r s₁ => ((r = .ok (.ret .none) ∨ r = .ok .next) ∧ F n s₀ s₁) ∨ ∃ e, r = .error e ∧ False) Y n (.send .none) (s.setGen g .running))
    (hY : ∀ v s₁ gs', gs'.bare = true → Y (n - 1) (s.setGen g .running) v s₁ (fun r' s'' => match n with
        | 0 => False
        | m + 1 => gs'.Goes (model P w) A.in1 (fun n s₀ r s₁ => ((r = .ok (.ret .none) ∨ r = .ok .next) ∧ F n s₀ s₁) ∨ ∃ e, r = .error e ∧ False) Y m r' s'') → Q v (s₁.setGen g gs'))
    (hP : ∀ s₁, F n (s.setGen g .running) s₁ → ∀ h' ex o, (∀ b o, s₁.heap.get? b = some o → h'.get? b = some o) → h'.get? ex = some o → o.cls = .type "StopIteration" → E (.ref ex) { s₁.setGen g .finished with heap := h' }) :
    wpAny (model P w) A (Builtin.SmallTypes.nextOf (.ref a)) Q E s := by
  unfold Builtin.SmallTypes.nextOf
  refine wpAny_bind (wpAny_callSpecial?_slot (name := Str.ofString "__next__") hg.typeIs slot_gen_next
    (wpAny_call_entry slot_gen_next hg.typeIs entry_gen_next ?_ (args_gen_next _)))
  show wpAny _ A.in1 (Builtin.Generator.genWake (.ref a) (.send .none)) _ _ s
  unfold Builtin.Generator.genWake
  refine wpAny_bind (wpAny_holding (wpAny_genNumber hg (wpAny_bind (wpAny_genState hgs ?_))))
  cases gs with
  | running => exact hgo.elim
  | finished => exact hgo.elim
  | _ =>
    refine wpAny_bind (wpAny_roomToWake hl hroom ?_)
    show wpAny _ A.in1 (.resume g (.send .none) [] _) _ _ s
    refine wpAny_resumeQ hgs hgo (fun x s₁ hx => ?_) (fun v s₁ gs' hb hv => ?_)
    · rcases hx with ⟨hr, hp⟩ | ⟨e, rfl, he⟩
      · have hres : End.result (.ret x) = .returned .none := by
          rcases hr with hr | hr <;> rw [hr] <;> rfl
        first | rw [hres] | simp only [hres]
        show wpAny _ A.in1 (newExc (.type "StopIteration") [] >>= _) _ _ _
        refine wpAny_bind ?_
        simp only [newExc, newTuple]
        refine wpAny_bind (wpAny_newObj_type ?_ (by size_fits))
        refine wpAny_bind (m := firstArgMember _ _) (wpAny_of_eq (a := Value.none) (by first | rfl | (simp only [firstArgMember]; rfl)) ?_)
        refine wpAny_newObj_type ?_ (by size_fits)
        simp only [raiseNew]
        refine wpAny_bind (wpAny_bind (wpAny_handled ?_))
        first | rw [show A.in1.handled = none from hh] | rw [hh]
        refine wpAny_throw ?_
        exact hP s₁ hp _ _ _ (fun b o hb => Heap.get?_push_of_some _ (Heap.get?_push_of_some _ hb)) (Heap.get?_push_size _ rfl) rfl
      · exact he.elim
    · exact wpAny_pure ⟨v, rfl, wpAny_pure (hY v s₁ gs' hb hv)⟩
end
open AutoSeq1 (wpAny_loadPart') in
theorem meets_enumerate_newG (a : Addr) (g : Nat) (o : Obj) :
    Meets (Builtin.«enumerate.__new__» ⟨[.type "enumerate", .ref a], []⟩) (fun _ R s => s.heap.get? a = some o ∧ s.heap.IsGen a g ∧
      R (.ok (.ret (.ref s.heap.objs.size))) { s with heap := s.heap.push { cls := .type "enumerate", data := .fields #[.none, .bool false, .ref a, rawInt 0, .none, .none] } }) :=
  .of_wp fun prog w A R s h => by
    obtain ⟨hp, g0, d, tk, os⟩ := s
    obtain ⟨hl, hG, h⟩ := h
    have hsub := sub_enumerate
    have hG : Heap.IsGen (Shared.heap ⟨hp, g0, d, tk, os⟩) a g := hG
    wp_walk using wpAny_loadPart' hl
    refine wpAny_stack_any fun st => wpAny_pure ?_
    split
    · rename_i c _ _ _ _ _
      cases (c == Value.type "enumerate")
      · wp_walk using wpAny_loadPart' hl, wpAny_pyIter_gen hG
        exact ⟨_, rfl, h⟩
      · wp_walk using wpAny_loadPart' hl, wpAny_pyIter_gen hG
        exact ⟨_, rfl, h⟩
    · wp_walk using wpAny_loadPart' hl, wpAny_pyIter_gen hG
      exact ⟨_, rfl, h⟩
section
variable {P : Program} {w : World} {A : Around} {E : Value → Shared → Prop} {s : Shared}
theorem call_enumerate_gen {a : Addr} {g : Nat} {Q : Value → Shared → Prop} (hG : s.heap.IsGen a g)
    (h : ∀ h', IsEnum h' s.heap.objs.size a 0 .none → h'.objs.size = s.heap.objs.size + 1 → (∀ b o, s.heap.get? b = some o → h'.get? b = some o) → Q (.ref s.heap.objs.size) { s with heap := h' }) :
    wpAny (model P w) A (call (.type "enumerate") [.ref a]) Q E s := by
  obtain ⟨o, nm, qn, ho, hc, hd, hs⟩ := id hG
  refine callType_new F.called_enumerate (by decide) (F.typeCall_enumerate_1 _) (F.newCall_enumerate_1 _) (fun obj => F.args_object_init_2 obj _) F.entry_enumerate_new
    (meets_enumerate_newG a g o) ⟨ho, hG, ?_⟩
  have he : IsEnum (s.heap.push { cls := .type "enumerate", data := .fields #[.none, .bool false, .ref a, rawInt 0, .none, .none] }) s.heap.objs.size a 0 .none := Heap.get?_push_size _ rfl
  exact ⟨⟨_, he, rfl⟩, h _ he (Heap.size_push ..) fun b o x => Heap.get?_push_of_some _ x⟩
/-- next(enumerate(generator)) -/
theorem next_enumG {e a : Addr} {g n i : Nat} {old : Value} {gs : GenState} {F : Nat → Shared → Shared → Prop} {Y : Protocol} {Q : Option Value → Shared → Prop} (hh : A.handled = none)
    (he : IsEnum s.heap e a i old) (hl : s.heap.NoLimit) (hroom : A.depth < recursionLimit) (hg : s.heap.IsGen a g) (hgs : s.gens[g]? = some gs)
    (hgo : gs.Goes (model P w) A.in1.in1 (fun n s₀ r s₁ => ((r = .ok (.ret .none) ∨ r = .ok .next) ∧ F n s₀ s₁) ∨ ∃ e, r = .error e ∧ False) Y n (.send .none) (s.setGen g .running))
    (hY : ∀ v s₁ gs', gs'.bare = true → Y (n - 1) (s.setGen g .running) v s₁ (fun r' s'' => match n with
        | 0 => False
        | m + 1 => gs'.Goes (model P w) A.in1.in1 (fun n s₀ r s₁ => ((r = .ok (.ret .none) ∨ r = .ok .next) ∧ F n s₀ s₁) ∨ ∃ e, r = .error e ∧ False) Y m r' s'') →
      IsEnum s₁.heap e a i old ∧ ∀ h' tk, IsEnumOut h' e a ((i : Int) + 1) v s₁.heap.objs.size → h'.get? s₁.heap.objs.size = some { cls := .type "tuple", data := .seq #[.int i s₁.toks, v] } → h'.objs.size = s₁.heap.objs.size + 1 →
        (∀ b o, b ≠ e → s₁.heap.get? b = some o → h'.get? b = some o) → Q (some (.ref s₁.heap.objs.size)) { s₁.setGen g gs' with heap := h', toks := tk })
    (hP : ∀ s₁, F n (s.setGen g .running) s₁ → ∀ h', (∀ b o, s₁.heap.get? b = some o → h'.get? b = some o) → Q none { s₁.setGen g .finished with heap := h' }) :
    wpAny (model P w) A (pyNext (.ref e)) Q E s := by
  have hT : s.TypeIs (.ref e) "enumerate" := ⟨_, he, rfl⟩
  unfold pyNext
  refine wpAny_bind (wpAny_attempt (wpAny_callSpecial?_slot (name := Str.ofString "__next__") hT PySem.F.slot_enumerate_next
    (wpAny_call_entry PySem.F.slot_enumerate_next hT PySem.F.entry_enumerate_next ?_ (PySem.F.args_enumerate_next_1 _))))
  show wpAny _ _ (field (.ref e) 2 >>= _) _ _ _
  refine wpAny_bind (wpAny_field he rfl (x := .ref a) rfl ?_)
  refine wpAny_bind (nextOf_genG (A := A.in1) (F := F) (Y := Y) hh hl hroom hg hgs hgo (fun v s₁ gs' hb hv => ?_) fun s₁ hf h' ex o k1 ho hc => ?_)
  · obtain ⟨he₁, fin⟩ := hY v s₁ gs' hb hv
    have hel : e < s₁.heap.objs.size := Heap.lt_size he₁
    obtain ⟨hp, gg, d, tk, os⟩ := s₁
    have he₁ : IsEnum hp e a i old := he₁
    have hel : e < hp.objs.size := hel
    show wpAny _ _ (field (.ref e) 3 >>= _) _ _ (Shared.setGen ⟨hp, gg, d, tk, os⟩ g gs')
    generalize hgen : (Shared.setGen ⟨hp, gg, d, tk, os⟩ g gs').gens = gens'
    have eS : Shared.setGen ⟨hp, gg, d, tk, os⟩ g gs' = ⟨hp, gens', d, tk, os⟩ := by rw [← hgen]; rfl
    rw [eS]
    refine wpAny_bind (wpAny_field he₁ rfl (x := rawInt i) rfl (wpAny_bind (wpAny_field he₁ rfl (x := .none) rfl ?_)))
    show wpAny _ _ (mkInt i >>= _) _ _ ⟨hp, gens', d, tk, os⟩
    refine wpAny_bind (wpAny_mkInt (wpAny_bind (wpAny_setField_rec he₁ (by simp) fun h2 he2 sb2 => ?_)))
    have sb2 : Heap.SameBut e hp h2 := sb2
    have he2 : IsEnum h2 e a ((i : Int) + 1) old := he2
    refine wpAny_bind (wpAny_setField_rec he2 (by simp) fun h3 he3 sb3 => ?_)
    have sb3 : Heap.SameBut e h2 h3 := sb3
    have he3 : IsEnum h3 e a ((i : Int) + 1) old := he3
    show wpAny _ _ (newTuple [.int i tk, v] >>= _) _ _ ⟨h3, gens', d, tk + 1, os⟩
    refine wpAny_bind (wpAny_newTuple ?_)
    have sz3 : h3.objs.size = hp.objs.size := by rw [sb3.1, sb2.1]
    have he4 : IsEnum (h3.push { cls := .type "tuple", data := .seq #[.int i tk, v] }) e a ((i : Int) + 1) old := Heap.get?_push_of_some _ he3
    have tup4 : (h3.push { cls := .type "tuple", data := .seq #[.int i tk, v] }).get? hp.objs.size = some { cls := .type "tuple", data := .seq #[.int i tk, v] } := by rw [← sz3]; exact Heap.get?_push_size _ rfl
    have size4 : (h3.push { cls := .type "tuple", data := .seq #[.int i tk, v] }).objs.size = hp.objs.size + 1 := by rw [Heap.size_push, sz3]
    have keep4 : ∀ b o, b ≠ e → hp.get? b = some o → (h3.push { cls := .type "tuple", data := .seq #[.int i tk, v] }).get? b = some o := fun b o nb z => Heap.get?_push_of_some _ ((sb3.2 b nb).trans ((sb2.2 b nb).trans z))
    show wpAny _ _ (Builtin.SmallTypes.ownedTupleIsFree (.ref e) >>= _) _ _ ⟨h3.push { cls := .type "tuple", data := .seq #[.int i tk, v] }, gens', d, tk + 1, os⟩
    rw [sz3]
    generalize h3.push { cls := .type "tuple", data := .seq #[.int i tk, v] } = h4 at he4 tup4 size4 keep4
    refine wpAny_bind ?_
    unfold Builtin.SmallTypes.ownedTupleIsFree
    refine wpAny_bind (wpAny_field he4 rfl (x := .none) rfl (wpAny_pure ?_))
    simp only [if_true]
    refine wpAny_bind (wpAny_rule (wpAny_bind (wpAny_field he4 rfl (x := old) rfl (wpAny_bind (wpAny_setField_rec he4 (by simp) fun h5 he5 sb5 => ?_)))))
    have sb5 : Heap.SameBut e h4 h5 := sb5
    have he5 : IsEnum h5 e a ((i : Int) + 1) v := he5
    show wpAny _ _ (Builtin.SmallTypes.ownedTupleHandOut (.ref e) (.ref hp.objs.size) >>= _) _ _ ⟨h5, gens', d, tk + 1, os⟩
    refine wpAny_bind ?_
    unfold Builtin.SmallTypes.ownedTupleHandOut
    refine wpAny_bind (wpAny_setField_rec he5 (by simp) fun h6 he6 sb6 => ?_)
    have sb6 : Heap.SameBut e h5 h6 := sb6
    have he6 : IsEnumOut h6 e a ((i : Int) + 1) v hp.objs.size := he6
    refine wpAny_setField_rec he6 (by simp) fun h7 he7 sb7 => ?_
    have sb7 : Heap.SameBut e h6 h7 := sb7
    have ne : hp.objs.size ≠ e := Nat.ne_of_gt hel
    refine wpAny_bind (wpAny_letGo (wpAny_pure ⟨_, rfl, wpAny_pure ?_⟩))
    have q := fin h7 (tk + 1) he7 ((sb7.2 _ ne).trans ((sb6.2 _ ne).trans ((sb5.2 _ ne).trans tup4))) (by rw [sb7.1, sb6.1, sb5.1, size4]) fun b o nb z => (sb7.2 b nb).trans ((sb6.2 b nb).trans ((sb5.2 b nb).trans (keep4 b o nb z)))
    rw [eS] at q
    exact q
  · refine wpAny_bind (wpAny_isInstance (T := "StopIteration") (b := true) ⟨o, ho, hc⟩ isSubtype_stop ?_)
    exact wpAny_pure (hP s₁ hf h' k1)
end
end Gk
/-! for (i, x) in enumerate(f(..)): .., the generator going on turn by turn. -/
namespace Gk
open PySem PySem.Spec PyProof.Rows L2 GenW
section
variable {X : Cx} {k : Nat} {f : Addr} {fd : FuncData} {ps : List Str} {sp : SpY} {x : Str} {p pos fpos p2 epos tpos : Pos} {e : Expr} {es elts : List Expr} {kk0 : Nat} {t : TA} {g : TG} {tb : TS} {body : List Stmt}
/-- the index stands at the head of what the caller keeps -/
def tForYE (sp : SpY) (t : TA) (g : TG) (tb : TS) : TS := fun D σ H => t σ H fun vs H1 => ∃ n, sp vs H1 n (some (.int 0) :: σ) (fun γ H2 => D.nx γ.tail H2)
  (fun γ v H2 k => ∃ i : Nat, γ.head? = some (some (.int (i : Int))) ∧ ∀ T, H2 T = none → g (.ref T) γ.tail (upd H2 T (.tup [.int (i : Int), v])) fun σ3 H3 => tb { D with nx := fun σ4 H4 => k (some (.int ((i : Int) + 1)) :: σ4) H4, ct := fun σ4 H4 => k (some (.int ((i : Int) + 1)) :: σ4) H4, bk := D.nx } σ3 H3)
theorem ps_forYE (F : GenYd X.prog X.w X.K X.mg X.base k f fd ps sp) (hr : Room (k + 4) X.A) (hx : Gl X x) (hm : X.mg x = some (.ref f)) (hk : PySem.W.keepIn X.K (.ref f) = true) (hbn : Binds X.K fd ps []) (hge : Gl X "enumerate") (hme : X.mg "enumerate" = none)
    (ha : PA X (e :: es) t) (hp : PassesOwn (model X.prog X.w) X.A X.env X.xe) (hc : X.calm = true) (hg : PGg X (.Tuple elts kk0 tpos) g) (hb : PSsg X body tb)
    (hdb : (x == ("__debug__" : Str)) = false := by decide) (he : starEach (e :: es) X.env = (false, eval e X.env) :: starEach es X.env := by rfl) (hpl : (backTo pos (starEach es X.env)).any (·.1) = false := by rfl)
    (na : starEach [.Call (.Name x p) (e :: es) [] pos] X.env = (false, eval (.Call (.Name x p) (e :: es) [] pos) X.env) :: starEach [] X.env := by rfl)
    (hs : ∀ v, foldedSetIterable (.Call (.Name "enumerate" p2) [.Call (.Name x p) (e :: es) [] pos] [] epos) X.env v = pure v := by intro _; rfl) :
    PS X (.For (.Tuple elts kk0 tpos) (.Call (.Name "enumerate" p2) [.Call (.Name x p) (e :: es) [] pos] [] epos) body [] fpos) (tForYE sp t g tb) := by
  refine ⟨fun pins s σ H D I h => ?_⟩
  refine wpAny_For ?_ hs
  refine Call_ (ld_blt I hge hme boot_enumerate (PyProof.Rows.callWith_type1 (args_cons ?_ na) na))
  refine wpAny_Call_Name_kw (ld_glob I hx hm ?_ hdb)
  refine PySem.W.callWith_K (h₀ := X.base) I.ok.mod.kin hk (thn (ha.run pos pins s σ H _ I h) fun us s1 ⟨vs, H1, I1, r1, n, q1⟩ => ⟨I1.kIn, ?_⟩) he hpl
  have hl : (us ++ []).length = ps.length := by rw [List.append_nil, ← r1.length]; exact F.len _ _ _ _ _ _ q1
  have b := hbn s1 us I1.kIn hl
  rw [List.append_nil] at b
  refine wpAny_call (codeAny_mono (F.run X.A X.stack s1 H1 ⟨us, []⟩ us vs n (some (.int 0) :: σ) _ _ (hr.mono (by omega)) I1.env0 b r1 q1) fun res s2 hq => ?_)
  cases res with
  | error er => exact False.elim hq
  | ok fl =>
    cases fl with
    | brk => exact False.elim hq
    | cont => exact False.elim hq
    | next => exact False.elim hq
    | ret u =>
      obtain ⟨a, gi, c, go, rfl, ha1, hgo, hgc, ⟨nm, qn, hgd⟩, hgs, hfr, hos, hbare, hlim, hkp, wake⟩ := hq
      have isg : ∀ h : Heap, h.get? a = some go → h.IsGen a gi := fun h e => ⟨go, nm, qn, e, hgc, hgd, hgs⟩
      refine args_nil (call_enumerate_gen (isg _ hgo) fun h5 hen hsz hk5 => ?_)
      refine wpAny_pyIter_enum hen ?_
      generalize hS : s2.heap.objs.size = en at hen hsz
      have hea : a < en := by rw [← hS]; exact Heap.lt_size hgo
      have rm : Room k X.A.in1.in1 := ⟨hr.hd, by have := hr.dp; show X.A.depth + 3 * k + 5 < _; omega, by have := hr.un; show X.A.units + 1 + 1 + 16 * k + 200 < _; omega⟩
      have dep : X.A.depth < recursionLimit := by have := hr.dp; omega
      obtain ⟨X', gx, seg⟩ := wake X.A.in1.in1 rm I1.ok.frames
      have hlow : X.env.locals < s1.heap.objs.size := I1.lt
      have hcells : ∀ y c, X.env.cells.lookup y = some c → c < s1.heap.objs.size := fun y c e => by
        obtain ⟨v, z⟩ := I1.cell y c e
        exact z.lt
      have hpins : ∀ q ∈ X.pn ++ pins, q.1 < s1.heap.objs.size := fun q hq => Heap.lt_size (I1.pin q hq).1
      have hfsl : ∀ z ∈ X.fs, z < s1.heap.objs.size := fun z hz => by
        obtain ⟨_, o, ho, _⟩ := I1.ok.funs.mem hz
        exact Nat.lt_of_lt_of_le (Heap.lt_size ho) I1.sz
      have hfs' : X'.fs = frs X.stack := by
        show frs X'.outer = _
        rw [gx.outer]
      have hstk : ∀ z ∈ frs X.stack, z < s1.heap.objs.size := fun z hz => by
        rcases List.mem_cons.mp (I1.stkSub z hz) with q | q
        · rw [q]; exact hlow
        · exact hfsl z q
      have nocell : ∀ v, go.data ≠ .cell v := fun v z => by rw [hgd] at z; cases z
      have na1 : H1 a = none := I1.hok.fresh (Nat.le_of_lt ha1)
      have nen : s1.heap.objs.size ≤ en := Nat.le_of_lt (Nat.lt_trans ha1 hea)
      have ne1 : H1 en = none := I1.hok.fresh nen
      have hgo5 : h5.get? a = some go := hk5 _ _ hgo
      have I2 : Inv X pins σ H1 { s2 with heap := h5 } := I1.call' (ch := []) hos (Un.kept fun b o z => hk5 _ _ (hkp b o z)) (I1.hok.kept fun b o z => hk5 _ _ (hkp b o z)) hbare fun b z => by cases z
      have eno : ∀ {h : Heap} {i : Int} {old : Value}, IsEnum h en a i old → ∃ eo, h.get? en = some eo ∧ ∀ v, eo.data ≠ .cell v := fun z => ⟨_, z, fun v y => by cases y⟩
      have peOk : ∀ {H' : Hp} {s' : Shared} {eo : Obj}, s'.heap.get? a = some go → H' a = none → s'.heap.get? en = some eo → (∀ v, eo.data ≠ .cell v) → H' en = none → PeOk X' [a, en] [(a, go), (en, eo)] H' s' := fun {H' s' eo} e n e2 d2 n2 => ⟨rfl, fun q hq => by
        rcases List.mem_cons.mp hq with rfl | hq
        · refine ⟨e, n, ?_, ?_, nocell⟩
          · rw [gx.loc]
            exact Nat.ne_of_gt ha1
          · rw [hfs']
            exact fun z => absurd (hstk a z) (Nat.not_lt.mpr (Nat.le_of_lt ha1))
        · rw [List.mem_singleton.mp hq]
          refine ⟨e2, n2, ?_, ?_, d2⟩
          · rw [gx.loc]
            exact Nat.ne_of_gt (Nat.lt_trans ha1 hea)
          · rw [hfs']
            exact fun z => absurd (hstk en z) (Nat.not_lt.mpr nen)⟩
      refine codeAny_forLoop_any (fun m s' => ∃ (i : Nat) (γ : L2.St) (H' : Hp) (gs : GenState) (old : Value), Inv X pins γ H' s' ∧ s'.heap.get? a = some go ∧ H' a = none ∧ IsEnum s'.heap en a (i : Int) old ∧ H' en = none ∧ s'.gens[gi]? = some gs ∧
        gs.Goes (model X.prog X.w) X.A.in1.in1 (YRE X' (fun γ H s pe => ∃ (i : Nat) (γ' : L2.St) (old : Value) (eo : Obj), γ = some (.int (i : Int)) :: γ' ∧ Inv X pins γ' H s ∧ IsEnum s.heap en a (i : Int) old ∧ s.heap.get? en = some eo ∧ pe = [(a, go), (en, eo)]) (fun γ H2 => D.nx γ.tail H2))
          (YP X' (fun γ H s pe => ∃ (i : Nat) (γ' : L2.St) (old : Value) (eo : Obj), γ = some (.int (i : Int)) :: γ' ∧ Inv X pins γ' H s ∧ IsEnum s.heap en a (i : Int) old ∧ s.heap.get? en = some eo ∧ pe = [(a, go), (en, eo)]) [a, en]
            (fun γ v H2 k => ∃ i : Nat, γ.head? = some (some (.int (i : Int))) ∧ ∀ T, H2 T = none → g (.ref T) γ.tail (upd H2 T (.tup [.int (i : Int), v])) fun σ3 H3 => tb { D with nx := fun σ4 H4 => k (some (.int ((i : Int) + 1)) :: σ4) H4, ct := fun σ4 H4 => k (some (.int ((i : Int) + 1)) :: σ4) H4, bk := D.nx } σ3 H3)) m (.send .none) (s'.setGen gi .running)) ?_ n ?_
      · rintro m s3 ⟨i, γ, H3, gs, old, I3, hgo3, na3, hen3, nen3, hg3, goes⟩
        have hgl : gi < s3.gens.size := (Array.getElem?_eq_some_iff.mp hg3).1
        refine wpAny_passesOwn hp (wpAny_gsz (n := gi + 1) hgl (next_enumG (F := fun _ s₀ s₁ => ∃ γ H₀ pe H, (∃ (i : Nat) (γ' : L2.St) (old : Value) (eo : Obj), γ = some (.int (i : Int)) :: γ' ∧ Inv X pins γ' H₀ s₀ ∧ IsEnum s₀.heap en a (i : Int) old ∧ s₀.heap.get? en = some eo ∧ pe = [(a, go), (en, eo)]) ∧ Went X' pe H₀ s₀ H s₁ ∧ D.nx γ.tail H)
          (I3.ok.hd hc) hen3 I3.nolimit dep (isg _ hgo3) hg3 goes (fun v s₁ gs' hbg hv => ?_) (fun s₁ hf h' hk' => ?_)))
        · obtain ⟨γ1, H₀, H4, pe, hl, y, kk, ⟨i1, γ', old1, eo, eγ, J0, hen0, heo0, epe⟩, rv, W, hhl, ⟨i2, hi2, q⟩, kap⟩ := hv
          subst epe eγ
          have hen0 : IsEnum s3.heap en a (i1 : Int) old1 := hen0
          have heo0 : s3.heap.get? en = some eo := heo0
          have e1 : (i1 : Int) = (i : Int) := by
            have z := Option.some.inj (hen0.symm.trans hen3)
            simp [rawInt] at z
            omega
          have e2 : (i2 : Int) = (i1 : Int) := by
            have z := Option.some.inj (Option.some.inj hi2)
            injection z with z
            exact z.symm
          have e3 : i2 = i := by omega
          subst e3
          obtain ⟨hgo4, na4⟩ := W.pe (a, go) List.mem_cons_self
          obtain ⟨hen4, nen4⟩ := W.pe (en, eo) (List.mem_cons_of_mem _ List.mem_cons_self)
          have hen₁ : IsEnum s₁.heap en a (i2 : Int) old := by
            rw [show eo = _ from Option.some.inj (heo0.symm.trans hen3)] at hen4
            exact hen4
          have J : Inv X pins γ' H4 (s₁.setGen gi gs') := turn_back J0 gx hlow hcells hpins W rfl rfl (allBare_setGen W.bare hbg)
          refine ⟨hen₁, fun h6 tk6 hout htup hsz6 hk6 hszg => ?_⟩
          have hgi : gi < s₁.gens.size := by
            have q : (s₁.setGen gi gs').gens.size = s₁.gens.size := setGen_size _ _ _
            have : gi + 1 ≤ (s₁.setGen gi gs').gens.size := hszg
            omega
          refine wpAny_letOwnedTupleGo_enum (s := { s₁.setGen gi gs' with heap := h6, toks := tk6 }) hout fun h7 hen7 sb7 => ?_
          have neT : s₁.heap.objs.size ≠ en := Nat.ne_of_gt (Heap.lt_size hen4)
          have htup7 : h7.get? s₁.heap.objs.size = some { cls := .type "tuple", data := .seq #[.int (i2 : Int) s₁.toks, v] } := (sb7.2 _ neT).trans htup
          have k17 : ∀ b o, b ∉ [en] → s₁.heap.get? b = some o → h7.get? b = some o := fun b o nb z => by
            have nb : b ≠ en := fun w => nb (by rw [w]; exact List.mem_singleton.mpr rfl)
            exact (sb7.2 b nb).trans (hk6 b o nb z)
          have big : ∀ {z : Addr}, s1.heap.objs.size ≤ z → z ≠ X.env.locals ∧ z ∉ X.fs := fun {z} hz => ⟨fun w => absurd hlow (Nat.not_lt.mpr (by rw [← w]; exact hz)), fun w => absurd (hfsl _ w) (Nat.not_lt.mpr hz)⟩
          have fen : FpOk X pins H4 en := by
            refine ⟨nen4, (big nen).1, (big nen).2, .inr (Nat.le_trans I1.sz nen), fun y c0 e0 w0 => ?_, fun q0 hq0 w0 => ?_⟩
            · have := hcells y c0 e0
              rw [w0] at this
              exact absurd this (Nat.not_lt.mpr nen)
            · have := hpins q0 hq0
              rw [w0] at this
              exact absurd this (Nat.not_lt.mpr nen)
          have nT : H4 s₁.heap.objs.size = none := J.hok.fresh (Nat.le_refl _)
          have J5 : Inv X pins γ' (upd H4 s₁.heap.objs.size (.tup [.int (i2 : Int), y])) { s₁.setGen gi gs' with heap := h7, toks := tk6 } :=
            Inv.turnedNew (t' := tk6) (T := s₁.heap.objs.size) (ob := .tup [.int (i2 : Int), y]) (ch := [en]) J k17 (fun b hb => by rw [List.mem_singleton.mp hb]; exact fen) (Nat.le_refl _)
              ⟨by show 2 ≤ sizeLine; decide, [.int (i2 : Int) s₁.toks, v], .cons ⟨_, rfl⟩ (.cons rv .nil), ⟨_, htup7, rfl, _, rfl⟩⟩
          have qT := q s₁.heap.objs.size nT
          have hgo7 : h7.get? a = some go := k17 _ _ (fun z => Nat.ne_of_lt hea (List.mem_singleton.mp z)) hgo4
          have upT : ∀ {b : Addr} {ob : Obj}, s₁.heap.get? b = some ob → H4 b = none → (upd H4 s₁.heap.objs.size (.tup [.int (i2 : Int), y])) b = none := fun {b ob} z n => by
            rw [upd_ne (Nat.ne_of_lt (Heap.lt_size z))]
            exact n
          obtain ⟨eo7, heo7, hed7⟩ := eno hen7
          have enIs : ∀ {h : Heap}, h.get? en = some eo7 → IsEnum h en a ((i2 : Int) + 1) v := fun {h} z => z.trans (heo7.symm.trans hen7)
          have pinsOk : ∀ q ∈ pins ++ ((a, go) :: (en, eo7) :: hl), h7.get? q.1 = some q.2 ∧ (upd H4 s₁.heap.objs.size (.tup [.int (i2 : Int), y])) q.1 = none ∧ q.1 ≠ X.env.locals ∧ q.1 ∉ X.fs ∧ ∀ v, q.2.data ≠ .cell v := fun q hq => by
            rcases List.mem_append.mp hq with hq | hq
            · exact J5.pin q (List.mem_append_right _ hq)
            · rcases List.mem_cons.mp hq with rfl | hq
              · exact ⟨hgo7, upT hgo4 na4, (big (Nat.le_of_lt ha1)).1, (big (Nat.le_of_lt ha1)).2, nocell⟩
              · rcases List.mem_cons.mp hq with rfl | hq
                · exact ⟨heo7, upT hen4 nen4, (big nen).1, (big nen).2, hed7⟩
                · obtain ⟨h1, h2, h3, hA, h4⟩ := hhl q hq
                  rw [gx.loc] at h3
                  exact ⟨k17 _ _ (fun z => hA (by rw [List.mem_singleton.mp z]; exact List.mem_cons_of_mem _ List.mem_cons_self)) h1, upT h1 h2, (big h3).1, (big h3).2, h4⟩
          have J' : Inv X (pins ++ ((a, go) :: (en, eo7) :: hl)) γ' (upd H4 s₁.heap.objs.size (.tup [.int (i2 : Int), y])) { s₁.setGen gi gs' with heap := h7, toks := tk6 } := J5.pins_of pinsOk
          refine wpAny_passesOwn hp (thn (hg.run _ _ γ' _ (.ref s₁.heap.objs.size) (.ref s₁.heap.objs.size) _ J' rfl qT) fun _ s6 ⟨⟨σ6, H6, I6, q6⟩, g6⟩ => ?_)
          refine wpAny_passesOwn hp (thn (hb.run _ s6 σ6 H6 _ I6 q6) fun f s7 ⟨q7, g7⟩ => ?_)
          have eg : s7.gens[gi]? = some gs' := by
            rw [g7, g6]
            exact setGen_at hgi
          have unp : ∀ {σ' : L2.St} {H' : Hp}, Inv X (pins ++ ((a, go) :: (en, eo7) :: hl)) σ' H' s7 → Inv X pins σ' H' s7 := fun {σ' H'} K7 => K7.pins_of fun q hq => K7.pin q (List.mem_append_right _ (List.mem_append_left _ hq))
          have again : ∀ {σ' : L2.St} {H' : Hp}, Inv X (pins ++ ((a, go) :: (en, eo7) :: hl)) σ' H' s7 → kk (some (.int ((i2 : Int) + 1)) :: σ') H' → ∃ m', m' < m ∧ ∃ (i : Nat) (γ : L2.St) (H' : Hp) (gs : GenState) (old : Value), Inv X pins γ H' s7 ∧ s7.heap.get? a = some go ∧ H' a = none ∧ IsEnum s7.heap en a (i : Int) old ∧ H' en = none ∧ s7.gens[gi]? = some gs ∧
              gs.Goes (model X.prog X.w) X.A.in1.in1 (YRE X' (fun γ H s pe => ∃ (i : Nat) (γ' : L2.St) (old : Value) (eo : Obj), γ = some (.int (i : Int)) :: γ' ∧ Inv X pins γ' H s ∧ IsEnum s.heap en a (i : Int) old ∧ s.heap.get? en = some eo ∧ pe = [(a, go), (en, eo)]) (fun γ H2 => D.nx γ.tail H2))
                  (YP X' (fun γ H s pe => ∃ (i : Nat) (γ' : L2.St) (old : Value) (eo : Obj), γ = some (.int (i : Int)) :: γ' ∧ Inv X pins γ' H s ∧ IsEnum s.heap en a (i : Int) old ∧ s.heap.get? en = some eo ∧ pe = [(a, go), (en, eo)]) [a, en]
                    (fun γ v H2 k => ∃ i : Nat, γ.head? = some (some (.int (i : Int))) ∧ ∀ T, H2 T = none → g (.ref T) γ.tail (upd H2 T (.tup [.int (i : Int), v])) fun σ3 H3 => tb { D with nx := fun σ4 H4 => k (some (.int ((i : Int) + 1)) :: σ4) H4, ct := fun σ4 H4 => k (some (.int ((i : Int) + 1)) :: σ4) H4, bk := D.nx } σ3 H3)) m' (.send .none) (s7.setGen gi .running) := fun {σ' H'} K7 hkk => by
            obtain ⟨b1, b2, _⟩ := K7.pin (a, go) (List.mem_append_right _ (List.mem_append_right _ List.mem_cons_self))
            obtain ⟨d1, d2, _⟩ := K7.pin (en, eo7) (List.mem_append_right _ (List.mem_append_right _ (List.mem_cons_of_mem _ List.mem_cons_self)))
            have K8 : Inv X pins σ' H' (s7.setGen gi .running) := inv_gens (unp K7) rfl rfl (allBare_setGen K7.bare rfl)
            have z := kap (some (.int ((i2 : Int) + 1)) :: σ') H' (s7.setGen gi .running) [(a, go), (en, eo7)] hkk ⟨i2 + 1, σ', v, eo7, rfl, K8, enIs d1, d1, rfl⟩ (on_of K8 gx) (peOk b1 b2 d1 hed7 d2) fun q hq => by
              obtain ⟨c1, c2, _⟩ := K7.pin q (List.mem_append_right _ (List.mem_append_right _ (List.mem_cons_of_mem _ (List.mem_cons_of_mem _ hq))))
              exact ⟨c1, c2⟩
            cases m with
            | zero => exact z.elim
            | succ m => exact ⟨m, Nat.lt_succ_self m, i2 + 1, σ', H', gs', v, unp K7, b1, b2, enIs d1, d2, eg, z⟩
          cases f with
          | next => obtain ⟨σ', H', K7, z⟩ := q7; exact again K7 z
          | cont => obtain ⟨σ', H', K7, z⟩ := q7; exact again K7 z
          | brk => obtain ⟨σ', H', K7, z⟩ := q7; exact ⟨σ', H', unp K7, z⟩
          | ret v => obtain ⟨v', σ', H', K7, rv', z⟩ := q7; exact ⟨v', σ', H', unp K7, rv', z⟩
        · intro _
          obtain ⟨γ1, H₀, pe, H4, ⟨i1, γ', old1, eo, eγ, J0, hen0, heo0, epe⟩, W, q⟩ := hf
          subst eγ
          have J1 : Inv X pins γ' H4 (s₁.setGen gi .finished) := turn_back J0 gx hlow hcells hpins W rfl rfl (allBare_setGen W.bare rfl)
          have J : Inv X pins γ' H4 { s₁.setGen gi .finished with heap := h' } := J1.kept (t' := s₁.toks) hk'
          exact wpAny_execs_nil ⟨γ', H4, J, q⟩
      · obtain ⟨eo, heo, hed⟩ := eno hen
        have I3 : Inv X pins σ H1 (Shared.setGen { s2 with heap := h5 } gi .running) := inv_gens I2 rfl rfl (allBare_setGen hbare rfl)
        exact ⟨0, σ, H1, _, .none, I2, hgo5, na1, hen, ne1, hfr, rfl, seg _ [a, en] (Shared.setGen { s2 with heap := h5 } gi .running) [(a, go), (en, eo)] (fun b o z => hk5 b o z) ⟨0, σ, .none, eo, rfl, I3, hen, heo, rfl⟩ (on_of I3 gx) (peOk hgo5 na1 heo hed ne1)⟩
theorem ps_forYED (D : Dgy X.prog X.w X.K X.mg X.base k x ps sp) (hr : Room (k + 4) X.A) (hx : Gl X x) (hge : Gl X "enumerate") (hme : X.mg "enumerate" = none)
    (ha : PA X (e :: es) t) (hp : PassesOwn (model X.prog X.w) X.A X.env X.xe) (hc : X.calm = true) (hg : PGg X (.Tuple elts kk0 tpos) g) (hb : PSsg X body tb)
    (hdb : (x == ("__debug__" : Str)) = false := by decide) (he : starEach (e :: es) X.env = (false, eval e X.env) :: starEach es X.env := by rfl) (hpl : (backTo pos (starEach es X.env)).any (·.1) = false := by rfl)
    (na : starEach [.Call (.Name x p) (e :: es) [] pos] X.env = (false, eval (.Call (.Name x p) (e :: es) [] pos) X.env) :: starEach [] X.env := by rfl)
    (hs : ∀ v, foldedSetIterable (.Call (.Name "enumerate" p2) [.Call (.Name x p) (e :: es) [] pos] [] epos) X.env v = pure v := by intro _; rfl) :
    PS X (.For (.Tuple elts kk0 tpos) (.Call (.Name "enumerate" p2) [.Call (.Name x p) (e :: es) [] pos] [] epos) body [] fpos) (tForYE sp t g tb) := by
  obtain ⟨f, fd, F, hm, hk, hbn⟩ := D.ex
  exact ps_forYE F hr hx hm hk hbn hge hme ha hp hc hg hb hdb he hpl na hs
end
end Gk
/-! Dicts whose keys are cells: whole numbers, texts, or tuples of those. -/
namespace Gk
open PySem PySem.Spec PyProof.Rows L2
/-- two rules of one expression -/
theorem pe_either {X : Cx} {e : Expr} {t t' : TE} (a : PE X e t) (b : PE X e t') : PE X e (fun σ H Q => t σ H Q ∨ t' σ H Q) :=
  ⟨fun pins s σ H Q I h => h.elim (a.run pins s σ H Q I) (b.run pins s σ H Q I)⟩
/-- two rules of one function -/
theorem CallR.either {X : Cx} {v : Value} {r r' : List V → Hp → VK → Prop} (a : CallR X v r) (b : CallR X v r') : CallR X v (fun xs H Q => r xs H Q ∨ r' xs H Q) := by
  intro pins s σ H xs us Q I rs h
  rcases h with h | h
  · exact a pins s σ H xs us Q I rs h
  · exact b pins s σ H xs us Q I rs h
/-- two rules of one method -/
theorem MtR.either {X : Cx} {id : String} {r r' : V → List V → Hp → VK → Prop} (a : MtR X id r) (b : MtR X id r') : MtR X id (fun x xs H Q => r x xs H Q ∨ r' x xs H Q) := by
  intro pins s σ H x xs v us Q I rx rxs h
  rcases h with h | h
  · exact a pins s σ H x xs v us Q I rx rxs h
  · exact b pins s σ H x xs v us Q I rx rxs h
def rSetdK : V → List V → Hp → VK → Prop := fun x xs H Q => ∃ (a : Addr) (kvs : List (L2.Key × V)) (k : L2.Key) (d : V), x = .ref a ∧ xs = [kV k, d] ∧ H a = some (.dK kvs) ∧ kvs.length < sizeLine ∧
  (∀ v, valV kvs k = some v → Q v H) ∧ (valV kvs k = none → Q d (upd H a (.dK (putK kvs k d))))
theorem mt_setdK {X : Cx} : MtR X "dict.setdefault" rSetdK := by
  intro pins s σ H x xs v us Q I rx rxs h
  obtain ⟨a, kvs, k, d, rfl, rfl, ha, hl, q1, q2⟩ := h
  cases rx
  obtain ⟨u1, u2, rfl, r1, r2⟩ := vals2 rxs
  exact d_setd I ha r1 r2 hl (fun v hv w' s4 I4 rw' => ⟨v, _, I4, rw', q1 v hv⟩) fun hn w' s4 I4 rw' => ⟨d, _, I4, rw', q2 hn⟩
def rSetdT : V → List V → Hp → VK → Prop := fun x xs H Q => ∃ (a : Addr) (kvs : List (List L2.Key × V)) (k : List L2.Key) (b : Addr) (d : V), x = .ref a ∧ xs = [.ref b, d] ∧ H a = some (.dT kvs) ∧ H b = some (.tup (k.map kV)) ∧ kvs.length < sizeLine ∧
  (∀ v, valV kvs k = some v → Q v H) ∧ (valV kvs k = none → Q d (upd H a (.dT (putK kvs k d))))
theorem mt_setdT {X : Cx} (hu : X.A.units + 1 < cLine) : MtR X "dict.setdefault" rSetdT := by
  intro pins s σ H x xs v us Q I rx rxs h
  obtain ⟨a, kvs, k, b, d, rfl, rfl, ha, hb, hl, q1, q2⟩ := h
  cases rx
  obtain ⟨u1, u2, rfl, r1, r2⟩ := vals2 rxs
  cases r1
  obtain ⟨z, hd, ys, rel, dd⟩ := dt_of I.hok ha
  have val := rel.val k
  refine call_setdefault_heap (knd := tupleKind (mixKind X.prog X.w)) (k := k) (tupleKind_room_in1 hu) (key_of I.hok hb) hd dd (fun p hp => ?_) (fun hn h' dd' hs => ?_) (by rw [← Paired.length rel]; exact z)
  · rw [hp] at val
    obtain ⟨w0, ev, rv⟩ : ∃ w0, valV kvs k = some w0 ∧ RelV w0 p.2 := by
      rcases ev : valV kvs k with _ | w0
      · rw [ev] at val
        exact False.elim val
      · rw [ev] at val
        exact ⟨w0, rfl, val⟩
    exact ⟨w0, H, I.tok _, rv, q1 w0 ev⟩
  · rw [hn] at val
    have ev : valV kvs k = none := by
      rcases ev : valV kvs k with _ | w0
      · rfl
      · rw [ev] at val
        exact False.elim val
    have n2 : (putK kvs k d).length ≤ sizeLine := by
      have := length_putK kvs k d
      omega
    obtain ⟨o, es, ep, e1, e2⟩ := dd'
    have keep : ∀ c ts, H c = some (.tup ts) → (upd H a (.dT (putK kvs k d))) c = some (.tup ts) := fun c ts e => by
      rw [upd_ne (fun w => by rw [w, ha] at e; cases e)]
      exact e
    have new : ObjOk X.prog X.w (upd H a (.dT (putK kvs k d))) h' a (.dT (putK kvs k d)) := ⟨n2, hd, _, (rel.put k hb r2).keeps keep, o, es, ep, e1, e2.1, e2.2.1, e2.2.2.1, e2.2.2.2.2⟩
    exact ⟨d, _, d_write I (by rw [ha]; exact True.intro) hs ⟨o, e1⟩ new, r2, q2 ev⟩
end Gk
/-! Dicts whose keys are None or whole numbers. -/
namespace Gk
open PySem PySem.Spec PyProof.Rows L2
def ownIs : Option Int → Value → Bool
  | none, v => v == .none
  | some i, v => keyIs (.inl i) v
def oKey : Option Int → V
  | none => .non
  | some i => .int i
def ownH (w : World) : Option Int → Int
  | none => reduceHash 0xFCA86420
  | some i => hashInt i
theorem ownIs_shape : ∀ {k : Option Int} {v : Value}, ownIs k v = true → (k = none ∧ v = .none) ∨ ∃ i t, k = some i ∧ v = Value.int i t
  | none, v, h => .inl ⟨rfl, by cases v <;> first | rfl | exact absurd h Bool.false_ne_true⟩
  | some i, v, h => by
    rcases keyIs_shape (k := .inl i) h with ⟨j, t, e, rfl⟩ | ⟨x, t, e, _⟩
    · obtain rfl := Sum.inl.inj e
      exact .inr ⟨i, t, rfl, rfl⟩
    · cases e
theorem hash_none {prog : Program} {w : World} {A : Around} {E : Value → Shared → Prop} {s : Shared} {Q : Int → Shared → Prop} (h : Q (reduceHash 0xFCA86420) { s with toks := s.toks + 1 }) : wpAny (model prog w) A (PySem.pyHash .none) Q E s :=
  PySem.W.pyHash_slot (T := "NoneType") rfl PySem.F.slot_NoneType_hash PySem.F.entry_NoneType_hash (PySem.F.args_NoneType_hash_1 _) (by rfl) (.inl rfl) (wpAny_bind (wpAny_pure (wpAny_bind (wpAny_mkInt (wpAny_pure ⟨_, _, rfl, h⟩)))))
def ownKind (prog : Program) (w : World) : PySem.KeyKind prog w (Option Int) where
  is := ownIs
  hash := ownH w
  inj := fun v a b ha hb => by
    rcases ownIs_shape ha with ⟨rfl, rfl⟩ | ⟨i, t, rfl, rfl⟩
    · rcases ownIs_shape hb with ⟨rfl, _⟩ | ⟨i, t, rfl, e⟩
      · rfl
      · cases e
    · rcases ownIs_shape hb with ⟨rfl, e⟩ | ⟨j, u, rfl, e⟩
      · cases e
      · injection e with e1 _
        rw [e1]
  byValue := fun k v h => by
    rcases ownIs_shape h with ⟨rfl, rfl⟩ | ⟨i, t, rfl, rfl⟩ <;> rfl
  pyHash := fun hv h => by
    rcases ownIs_shape hv with ⟨rfl, rfl⟩ | ⟨i, t, rfl, rfl⟩
    · exact hash_none h
    · exact wpAny_pyHash_int h
  eqBool := fun hu hv h => by
    rcases ownIs_shape hu with ⟨rfl, rfl⟩ | ⟨i, t, rfl, rfl⟩
    · rcases ownIs_shape hv with ⟨rfl, rfl⟩ | ⟨j, u, rfl, rfl⟩
      · exact SeqAt.EqAt.same _ _ _ _ _ (by simpa using h)
      · exact SeqAt.EqAt.none_int j u _ _ _ _ (by simpa using h)
    · rcases ownIs_shape hv with ⟨rfl, rfl⟩ | ⟨j, u, rfl, rfl⟩
      · exact SeqAt.EqAt.int_none i t _ _ _ _ (by simpa using h)
      · refine wpAny_eqBool_int ?_
        have e : (i == j) = decide (some i = some j) := by
          rw [Bool.eq_iff_iff]
          simp
        rw [e]
        exact h
  «strs» := fun k x t v h => by
    rcases ownIs_shape h with ⟨rfl, e⟩ | ⟨i, u, rfl, e⟩ <;> cases e
end Gk
namespace Gk
open PySem PySem.Spec PyProof.Rows L2
/-- a dict whose keys are None or whole numbers -/
def dN (P : Program) (w : World) (a : Addr) (kvs : List (Option Int × V)) : HO := .ext fun h => kvs.length ≤ sizeLine ∧ (a == sysModules) = false ∧ ∃ vs, KV kvs vs ∧ h.DictOf (ownKind P w) a vs
section
variable {P : Program} {w : World} {H : Hp} {h : Heap} {a : Addr} {kvs : List (Option Int × V)}
theorem dn_ok {vs : List (Option Int × Value)} (z : kvs.length ≤ sizeLine) (hd : (a == sysModules) = false) (rel : KV kvs vs) (dd : h.DictOf (ownKind P w) a vs) : ObjOk P w H h a (dN P w a kvs) := by
  refine ⟨⟨z, hd, vs, rel, dd⟩, ?_, ?_⟩
  · obtain ⟨o, _, _, e, _⟩ := dd
    exact ⟨o, e⟩
  · rintro h1 h2 ⟨z1, hd1, vs1, rel1, o, es, ep, e, r⟩ k
    exact ⟨z1, hd1, vs1, rel1, o, es, ep, k _ e, r⟩
theorem dn_at (ok : HOk P w H h) (e : H a = some (dN P w a kvs)) : kvs.length ≤ sizeLine ∧ (a == sysModules) = false ∧ ∃ vs, KV kvs vs ∧ h.DictOf (ownKind P w) a vs := by
  obtain ⟨x, _, _⟩ := (show ObjOk P w H h a (dN P w a kvs) from ok a _ e)
  exact x
theorem oKey_is {k : Option Int} {u : Value} (r : RelV (oKey k) u) : (ownKind P w).is k u = true := by
  cases k with
  | none => cases r; rfl
  | some i => obtain ⟨t, rfl⟩ := r; exact keyIs_int i t
end
section
variable {X : Cx} {pins : List (Addr × Obj)} {σ : L2.St} {H : Hp} {s : Shared} {a : Addr} {kvs : List (Option Int × V)} {k : Option Int} {d y v : V} {u r : Value} {A : Around} {E : Value → Shared → Prop}
theorem n_get2 {Q : Value → Shared → Prop} (I : Inv X pins σ H s) (e : H a = some (dN X.prog X.w a kvs)) (ry : RelV (oKey k) u) (rd : RelV d r) (h : ∀ w' s', Inv X pins σ H s' → RelV ((valV kvs k).getD d) w' → Q w' s') :
    wpAny (model X.prog X.w) A (call (.builtin "dict.get") [.ref a, u, r]) Q E s := by
  obtain ⟨z, hd, vs, rel, dd⟩ := dn_at I.hok e
  exact call_meetsIn PySem.F.slot_dict_get dd.typeIs PySem.F.entry_dict_get (PySem.F.args_dict_get_3 _ _ _) (meets_dict_get_default (ownKind X.prog X.w) a (oKey_is ry) hd r) ⟨_, dd.mapOf, h _ _ (I.tok _) ((rel.val k).getD rd)⟩
theorem n_set {Q : Unit → Shared → Prop} (I : Inv X pins σ H s) (e : H a = some (dN X.prog X.w a kvs)) (hl : kvs.length < sizeLine) (ry : RelV (oKey k) u) (rv : RelV v r) (h : ∀ s', Inv X pins σ (upd H a (dN X.prog X.w a (putK kvs k v))) s' → Q () s') :
    wpAny (model X.prog X.w) A (setItem (.ref a) u r) Q E s := by
  obtain ⟨z, hd, vs, rel, dd⟩ := dn_at I.hok e
  have hz : vs.length ≤ sizeLine := by rw [← rel.length]; exact z
  have hl : (putK kvs k v).length ≤ sizeLine := by have := length_putK kvs k v; omega
  refine wpAny_setItem_pairs (hsz := hz) (oKey_is ry) dd fun h' dd' hs => h _ ?_
  have he : ∃ q, h'.get? a = some q := let ⟨q, _, _, hq, _⟩ := dd'; ⟨q, hq⟩
  exact d_write I (by rw [e]; exact True.intro) hs he (dn_ok hl hd (rel.put k rv) dd')
end
section
variable {X : Cx} {o e f : Expr} {apos cpos pos : Pos} {td ty tx : TE}
/-- d.get(y, x) -/
def tNGet (P : Program) (w : World) (td ty tx : TE) : TE := fun σ H Q => td σ H fun x H1 => ∃ a, x = .ref a ∧ (∃ kvs, H1 a = some (dN P w a kvs)) ∧ ty σ H1 fun y H2 => tx σ H2 fun z H3 => ∃ kvs k, H3 a = some (dN P w a kvs) ∧ y = oKey k ∧ Q ((valV kvs k).getD z) H3
theorem pe_nget (ho : PE X o td) (he : PE X e ty) (hf : PE X f tx) (m : M2 X o "get" apos e f cpos) : PE X (.Call (.Attribute o "get" apos) [e, f] [] cpos) (tNGet X.prog X.w td ty tx) := by
  refine ⟨fun pins s σ H Q I h => ?_⟩
  refine wpAny_Call_method m.base m.few m.line PySem.F.plainAttrs_dict PySem.F.slot_dict_get PySem.F.type_dict_get (thn (ho.run pins s σ H _ I h) fun u s1 ⟨x, H1, I1, rx, a, ex, ⟨kv1, d1⟩, q1⟩ => ?_)
  subst ex
  obtain rfl : u = Value.ref a := rx
  obtain ⟨z, hd, vs, rel, dd⟩ := dn_at I1.hok d1
  refine ⟨dd.typeIs, fun b q => ?_, ?_⟩
  · cases q
    obtain ⟨ob, _, _, h1, h2, _⟩ := dd
    exact ⟨ob, h1, h2.2.1⟩
  rw [m.trees]
  refine Calls.callWith_builtin rfl (Calls.evalArgs_plain (Calls.spliced_cons (thn (he.run pins s1 σ H1 _ I1 q1) fun iv s2 ⟨y, H2, I2, ry, q2⟩ =>
    Calls.spliced_cons (thn (hf.run pins s2 σ H2 _ I2 q2) fun fv s3 ⟨z, H3, I3, rz, kvs, k, e3, ey, q3⟩ => Calls.spliced_nil ?_))))
  subst ey
  exact n_get2 I3 e3 ry rz fun w' s4 I4 rw' => ⟨_, H3, I4, rw', q3⟩
end
end Gk
namespace Gk
open PySem PySem.Spec PyProof.Rows L2
section
variable {X : Cx} {o e f : Expr} {apos cpos pos : Pos} {td ty tx : TE}
/-- {}, to be such a dict -/
def tNNew (P : Program) (w : World) : TE := fun _ H Q => ∀ p, H p = none → Q (.ref p) (upd H p (dN P w p []))
theorem pe_dnewN (P : Program) (w : World) (h1 : X.prog = P := by rfl) (h2 : X.w = w := by rfl) : PE X (.Dict [] [] pos) (tNNew P w) := by
  subst h1 h2
  exact ⟨fun pins s σ H Q I h => wpAny_Dict_empty ⟨.ref s.heap.objs.size, _, I.laid (a := s.heap.objs.size) (o := dN X.prog X.w s.heap.objs.size []) (t' := s.toks) (fun _ _ q => Heap.get?_push_of_some _ q) (Nat.le_refl _)
    (dn_ok (Nat.zero_le _) (not_modules I) .nil (Heap.DictOf.new s.heap)), rfl, h _ (I.hok.fresh (Nat.le_refl _))⟩⟩
theorem pe_ngetP (P : Program) (w : World) (ho : PE X o td) (he : PE X e ty) (hf : PE X f tx) (m : M2 X o "get" apos e f cpos) (h1 : X.prog = P := by rfl) (h2 : X.w = w := by rfl) : PE X (.Call (.Attribute o "get" apos) [e, f] [] cpos) (tNGet P w td ty tx) := by
  subst h1 h2
  exact pe_nget ho he hf m
/-- d[k] = v -/
def rSetN (P : Program) (w : World) : TSet := fun o i v H Q => ∃ a kvs k, o = .ref a ∧ i = oKey k ∧ H a = some (dN P w a kvs) ∧ kvs.length < sizeLine ∧ Q (upd H a (dN P w a (putK kvs k v)))
theorem set_dN (P : Program) (w : World) (h1 : X.prog = P := by rfl) (h2 : X.w = w := by rfl) : PSet X (rSetN P w) := by
  subst h1 h2
  intro pins s σ H o i v ov iv u Q I ro ri rv h
  obtain ⟨a, kvs, k, rfl, rfl, e, hl, q⟩ := h
  cases (show ov = Value.ref a from ro)
  exact n_set I e hl ri rv fun s' I' => ⟨_, I', q⟩
/-- {}, to be a dict of cells: of whole numbers or texts, or of tuples of those -/
theorem pe_dnewC : PE X (.Dict [] [] pos) (fun σ H Q => tDNewK σ H Q ∨ tDNewT σ H Q) := pe_either pe_dnewK pe_dnewT
end
end Gk
namespace Gk
open PySem PySem.Spec PyProof.Rows L2 HT
/-! ### a tuple from behind -/
section
variable {prog : Program} {w : World} {A : Around} {E : Value → Shared → Prop} {s : Shared}
theorem adjust_rev (n : Nat) : Builtin.Slice.sliceAdjust none none (-1) (n : Int) = ((n : Int) - 1, -1) := by
  have h1 : ((-1 : Int) < 0) := by decide
  unfold Builtin.Slice.sliceAdjust
  simp only [h1, if_true]
theorem places_rev (n : Nat) : Builtin.Slice.slicePlaces ((n : Int) - 1) (-1) (-1) = n := by
  unfold Builtin.Slice.slicePlaces
  have h1 : ¬ ((-1 : Int) > 0) := by decide
  have h2 : (-(-1) : Int) = 1 := by decide
  simp only [h1, if_false, h2, Int.ediv_one]
  split <;> omega
theorem applied_rev {sl : Addr} {vs : Value} {n : Nat} {Q : Int × Int × Nat → Shared → Prop} (hs : s.heap.IsSliceOf sl .none .none vs) (ps : IsPart vs (some (-1)))
    (h : Q ((n : Int) - 1, -1, n) s) : wpAny (model prog w) A (Builtin.Slice.sliceApplied (.ref sl) (pure (n : Int))) Q E s := by
  obtain ⟨os, hos, hcs, hds⟩ := id hs
  unfold Builtin.Slice.sliceApplied Builtin.Slice.sliceFields
  refine wpAny_bind (wpAny_bind (wpAny_field hos hds (x := .none) rfl (wpAny_bind (wpAny_field hos hds (x := .none) rfl (wpAny_bind (wpAny_field hos hds (x := vs) rfl (wpAny_pure ?_)))))))
  refine wpAny_bind (slicePart_ ps ?_)
  show wpAny _ _ (if ((-1 : Int) == 0) = true then _ else _) _ _ s
  rw [if_neg (by decide)]
  refine wpAny_bind (slicePart_none (wpAny_bind (slicePart_none (wpAny_bind (wpAny_pure ?_)))))
  show wpAny _ _ (match Builtin.Slice.sliceAdjust none none (-1) (n : Int) with | (lo, hi) => pure (lo, (-1 : Int), Builtin.Slice.slicePlaces lo hi (-1))) _ _ s
  rw [adjust_rev n]
  show wpAny _ _ (pure ((n : Int) - 1, (-1 : Int), Builtin.Slice.slicePlaces ((n : Int) - 1) (-1) (-1))) _ _ s
  rw [places_rev]
  exact wpAny_pure h
theorem fm_congr {α β : Type} {f g : α → Option β} : ∀ l : List α, (∀ m ∈ l, f m = g m) → l.filterMap f = l.filterMap g
  | [], _ => rfl
  | a :: l, h => by
    rw [List.filterMap_cons, List.filterMap_cons, h a List.mem_cons_self, fm_congr l fun m hm => h m (List.mem_cons_of_mem _ hm)]
theorem pick_rev (xs : Array Value) : ((List.range xs.size).filterMap fun (m : Nat) => xs[(((xs.size : Int) - 1) + (m : Int) * (-1)).toNat]?).toArray = xs.toList.reverse.toArray := by
  have e : ((List.range xs.size).filterMap fun (m : Nat) => xs[(((xs.size : Int) - 1) + (m : Int) * (-1)).toNat]?) = ((List.range xs.size).map fun k => xs.size - 1 - k).filterMap (xs[·]?) := by
    rw [List.filterMap_map]
    refine fm_congr _ fun m hm => ?_
    have hm := List.mem_range.mp hm
    show xs[(((xs.size : Int) - 1) + (m : Int) * (-1)).toNat]? = xs[xs.size - 1 - m]?
    have : (((xs.size : Int) - 1) + (m : Int) * (-1)).toNat = xs.size - 1 - m := by omega
    rw [this]
  rw [e, PySem.W.krv_range, List.filterMap_reverse, PySem.W.krv_all]
theorem getItem_tuple_rev {t sl : Addr} {items : Array Value} {vs : Value} {Q : Value → Shared → Prop} (ht : IsTup s.heap t items) (hs : s.heap.IsSliceOf sl .none .none vs) (ps : IsPart vs (some (-1)))
    (h : Q (.ref s.heap.objs.size) { s with heap := s.heap.push { cls := .type "tuple", data := .seq items.toList.reverse.toArray } })
    (hsz : items.size ≤ sizeLine) : wpAny (model prog w) A (getItem (.ref t) (.ref sl)) Q E s := by
  have htake : sizeOk (.seq items.toList.reverse.toArray) := by
    show items.toList.reverse.toArray.size ≤ sizeLine
    rw [List.size_toArray, List.length_reverse, Array.length_toList]
    exact hsz
  obtain ⟨os, hos, hcs, hds⟩ := id hs
  have hTs : s.TypeIs (.ref sl) "slice" := ⟨os, hos, hcs⟩
  unfold getItem
  try with_reducible refine wpAny_holding ?_
  first | refine wpAny_bind (wpAny_pure ?_) | skip
  refine wpAny_bind (wpAny_sequenceKey ht.typeIs (by decide) ?_)
  refine wpAny_bind (wpAny_callSpecial?_slot (name := Str.ofString "__getitem__") ht.typeIs PyProof.Rows.slot_tuple_getitem
    (wpAny_call_entry PyProof.Rows.slot_tuple_getitem ht.typeIs entry_tuple_getitem ?_ (args_tuple_getitem _ _)))
  show wpAny _ _ (Builtin.Tuple.tupleItemsOf (.ref t) >>= _) _ _ s
  refine wpAny_bind (tupleItemsOf_ ht ?_)
  refine wpAny_bind (wpAny_typeOf hTs ?_)
  rw [if_pos (by decide)]
  refine wpAny_bind (applied_rev hs ps ?_)
  have hno : ¬ (((((items.size : Int) - 1) : Int) == 0 && (-1 : Int) == 1 && items.size == items.size) = true) := by simp
  show wpAny _ _ (if ((((items.size : Int) - 1) : Int) == 0 && (-1 : Int) == 1 && items.size == items.size) = true then _ else _) _ _ s
  rw [if_neg hno, pick_rev]
  first
    | exact wpAny_bind (m := Builtin.Tuple.tupleExact _) (wpAny_newObj_type (wpAny_pure ⟨_, rfl, wpAny_pure h⟩) htake)
    | exact wpAny_bind (m := Builtin.Tuple.tupleExact _) (wpAny_newObj_type (wpAny_bind (wpAny_pure (wpAny_pure ⟨_, rfl, wpAny_pure h⟩))) htake)
    | exact wpAny_bind (wpAny_bind (m := Builtin.Tuple.tupleExact _) (wpAny_newObj_type (wpAny_pure (wpAny_pure ⟨_, rfl, wpAny_pure h⟩)) htake))
    | exact wpAny_bind (wpAny_bind (m := Builtin.Tuple.tupleExact _) (wpAny_newObj_type (wpAny_pure ⟨_, rfl, wpAny_pure h⟩) htake))
end
def tRevU (K : PySem.W.Frag) (te : TE) : TE := fun σ H Q => te σ H fun x H1 => ∃ a xs, x = .ref a ∧ SqT K H1 a xs ∧ ∀ p, H1 p = none → Q (.ref p) (upd H1 p (.tup xs.reverse))
theorem pe_revU {X : Cx} {e : Expr} {te : TE} {k : Nat} {p1 p2 p3 pos : Pos} (he : PE X e te) : PE X (.Subscript e (.Slice none none (some (.UnaryOp .USub (.Constant (.int 1) k p1) p2)) p3) pos) (tRevU X.K te) := by
  refine ⟨fun pins s σ H Q I h => ?_⟩
  refine Subscript_ (thn (he.run pins s σ H _ I h) fun v s1 ⟨x, H1, I1, r1, q1⟩ => ?_)
  obtain ⟨a, xs, ex, hx, q⟩ := q1
  subst ex
  cases r1
  have hst : PO X (some (.UnaryOp .USub (.Constant (.int 1) k p1) p2)) (tPart (tUn (rU fun i => .int (-i)) (tC (.int 1)))) := po_some (pe_un un_neg pe_int)
  refine wpAny_Slice (thn (po_none.run pins s1 σ H1 (fun o H2 => o = none ∧ H2 = H1) I1 ⟨rfl, rfl⟩) fun vl s2 ⟨l, H2, I2, pl, el, e2⟩ => ?_)
  subst el e2
  refine thn (po_none.run pins s2 σ H2 (fun o H3 => o = none ∧ H3 = H2) I2 ⟨rfl, rfl⟩) fun vu s3 ⟨u, H3, I3, pu, eu, e3⟩ => ?_
  subst eu e3
  refine thn (hst.run pins s3 σ H3 (fun o H4 => o = some (-1) ∧ H4 = H3) I3 ⟨1, rfl, -1, rfl, rfl, rfl⟩) fun vs s4 ⟨o, H4, I4, ps, eo, e4⟩ => ?_
  subst eo e4
  cases pl
  cases pu
  have I5 : Inv X pins σ H4 { s4 with heap := s4.heap.push { cls := .type "slice", data := .fields #[.none, .none, vs] } } := I4.kept (t' := s4.toks) fun b ob q => Heap.get?_push_of_some _ q
  obtain ⟨its, r, ht, hz⟩ := I5.tuple hx
  have hlen := r.length
  refine tail_any (ops := [.ref a, .ref s4.heap.objs.size]) ht.typeIs (PyProof.Rows.slot_tuple_getitem.lookup) ?_ (by with_unfolding_all rfl)
  refine getItem_tuple_rev ht (Heap.IsSliceOf.new _ .none .none vs) ps ?_ (by rw [List.size_toArray]; omega)
  refine ⟨.ref _, _, I5.laid (t' := s4.toks) (o := .tup xs.reverse) (fun b ob q => Heap.get?_push_of_some _ q) (Nat.le_refl _) ?_, rfl, q _ (I5.hok.fresh (Nat.le_refl _))⟩
  exact ⟨by rw [List.length_reverse]; exact hz, _, r.reverse, IsTup.new _ _⟩
/-! ### whether a tuple is not () -/
def rNe0 (K : PySem.W.Frag) : R2 := fun x y H Q => ∃ a b xs, x = .ref a ∧ y = .ref b ∧ SqT K H a xs ∧ SqT K H b [] ∧ Q (.bl (!decide (xs = []))) H
theorem op_ne0 {X : Cx} (hu : X.A.units < cLine) : OpR X (compareOp .NotEq) (rNe0 X.K) := by
  intro pins s σ H x y v u Q I rx ry h
  obtain ⟨a, b, xs, rfl, rfl, ha, hb, q⟩ := h
  cases rx
  cases ry
  obtain ⟨its, r1, p1, _⟩ := I.tuple ha
  obtain ⟨its2, r2, p2, _⟩ := I.tuple hb
  cases r2
  have t1 : s.heap.IsTuple a its.toArray := by
    obtain ⟨o, ho, hc, n, hd⟩ := p1
    exact ⟨o, ho, hc, n, hd⟩
  have t2 : s.heap.IsTuple b ([] : List Value).toArray := by
    obtain ⟨o, ho, hc, n, hd⟩ := p2
    exact ⟨o, ho, hc, n, hd⟩
  refine SeqAt.RcNeAt.tuples (e := fun _ => true) t1 t2 hu (fun j h1 h2 => absurd h2 (Nat.not_lt_zero _)) X.prog X.w X.xe (EP X pins σ Q) ⟨.bl _, H, I, ?_, q⟩
  have hl := r1.length
  show Value.bool _ = Value.bool _
  congr 1
  cases xs with
  | nil =>
    cases r1
    rfl
  | cons x xs =>
    cases r1
    simp
end Gk
namespace Gk
open PySem PySem.Spec PyProof.Rows L2
/-! ### math.lcm; small things for any law -/
def rLcm : List V → Hp → VK → Prop := fun vs H Q => ∃ a b : Int, vs = [.int a, .int b] ∧ a.natAbs < 2 ^ 64 ∧ b.natAbs < 2 ^ 64 ∧ Q (.int ((a.natAbs.lcm b.natAbs : Nat) : Int)) H
theorem cr_lcm {X : Cx} : CallR X (.builtin "math.lcm") rLcm := by
  intro pins s σ H vs us Q I r h
  obtain ⟨a, b, rfl, ha, hb, q⟩ := h
  obtain ⟨t, u, rfl⟩ := Vals.int2 r
  exact PySem.W.mc_lcm ha hb fun _ => ⟨.int _, H, I.tok _, ⟨_, rfl⟩, q⟩
theorem Same.seqLL {K : PySem.W.Frag} {H H' : Hp} {a : Addr} {xs : List V} (e : Same H H') (h : SqL K H a xs) : SqL K H' a xs := by
  rcases h with (h | ⟨o, h⟩) | h
  · exact .inl (.inl (e _ _ h))
  · exact .inl (.inr ⟨o, e _ _ h⟩)
  · exact .inr h
theorem tame2 {a b : Int} (ha : a.natAbs < 10 ^ 20) (hb : b.natAbs < 10 ^ 20) : Gk.tame (.tuple [.int a, .int b]) = true := by
  simp only [Gk.tame, tameAll, ha, hb, decide_true, Bool.and_self]
theorem depth2 {a b : Int} : (PyData.tuple [.int a, .int b]).depth ≤ 40 := by
  simp only [PyData.depth, PyData.depthAll]
  omega
theorem fine2 {a b : Int} (ha : a.natAbs < 10 ^ 20) (hb : b.natAbs < 10 ^ 20) : Fine (.tuple [.int a, .int b]) :=
  Fine.tame (tame2 ha hb) depth2 (by simp only [Gk.cost, costAll]; omega)
theorem dp2 {K : PySem.W.Frag} {H : Hp} {p : Addr} {a b : Int} (h : SqT K H p [.int a, .int b]) : Dp K H (.ref p) (.tuple [.int a, .int b]) := .tup h (.cons (.int a) (.cons (.int b) .nil))
theorem flatLen {α : Type} (n : Nat) (l : List α) : ((List.replicate n l).flatten).length = n * l.length := by
  induction n with
  | zero => simp
  | succ n ih => rw [List.replicate_succ, List.flatten_cons, List.length_append, ih, Nat.succ_mul, Nat.add_comm]
theorem pairs_sq {K : PySem.W.Frag} {H : Hp} {p : Addr} {l : List (Int × Int)} (h : PairsAt K H p l) : ∃ xs, SqT K H p xs ∧ xs.length = l.length ∧ DpAll K H xs (l.map pd) := by
  cases h with
  | tup h1 h2 => exact ⟨_, h1, lc_len h2, h2⟩
theorem keepSeqL {K : PySem.W.Frag} {H1 H' : Hp} {a b : Addr} {o : HO} {xs : List V} (hS : SqL K H1 a xs) (nb : H1 b = none) (e : But b (upd H1 b o) H') : SqL K H' a xs := by
  rcases hS with (h | ⟨u, h⟩) | h
  · exact .inl (.inl (e _ _ (ne_of_none h nb) (same_new nb _ _ h)))
  · exact .inl (.inr ⟨u, e _ _ (ne_of_none h nb) (same_new nb _ _ h)⟩)
  · exact .inr h
theorem butLocal {b D : Addr} {H H1 H2 : Hp} (nD : H D = none) (h : But b H H1) (g : ∀ a o, a ≠ b → a ≠ D → H1 a = some o → H2 a = some o) : But b H H2 := fun a o n e => g a o n (fun z => by rw [z, nD] at e; cases e) (h a o n e)
theorem pt_mid {X : Cx} {e : Expr} {t : TT} (h : PT X e t) : PT X e (tMidT t) :=
  ⟨fun pins s σ H Q I ⟨M, h1, h2⟩ => thn (h.run pins s σ H M I h1) fun b s1 ⟨H1, I1, q⟩ => ⟨H1, I1, h2 b H1 q⟩⟩
end Gk
namespace Gk
open PySem PySem.Spec PyProof.Rows L2 RZ
/-! ### texts of signs 0 and 1 -/
def sgn (b : Bool) : Nat := if b then 49 else 48
def txt (l : List Bool) : Str := ⟨(l.map sgn).toArray⟩
theorem txt_size (l : List Bool) : (txt l).cps.size = l.length := by
  show (l.map sgn).toArray.size = _
  rw [List.size_toArray, List.length_map]
theorem txt_at {l : List Bool} {i c : Nat} (h : (txt l).cps[i]? = some c) : ∃ b, l[i]? = some b ∧ c = sgn b := by
  have h' : (l.map sgn).toArray[i]? = some c := h
  rw [List.getElem?_toArray, List.getElem?_map] at h'
  cases e : l[i]? with
  | none => rw [e] at h'; cases h'
  | some b => rw [e] at h'; exact ⟨b, rfl, (Option.some.inj h').symm⟩
theorem txt_app (a b : List Bool) : txt a ++ txt b = txt (a ++ b) := by
  show (⟨(a.map sgn).toArray ++ (b.map sgn).toArray⟩ : Str) = ⟨((a ++ b).map sgn).toArray⟩
  rw [List.map_append]
  simp
theorem txt_length (l : List Bool) : (txt l).length = l.length := txt_size l
theorem fold_rep (l : List Nat) : ∀ (n : Nat) (acc : List Nat), (List.replicate n l.toArray).foldl (· ++ ·) acc.toArray = (acc ++ (List.replicate n l).flatten).toArray
  | 0, acc => by simp
  | n + 1, acc => by
    rw [List.replicate_succ, List.foldl_cons, show acc.toArray ++ l.toArray = (acc ++ l).toArray by simp, fold_rep l n, List.replicate_succ, List.flatten_cons, List.append_assoc]
theorem txt_mul (l : List Bool) (n : Nat) : Txt.mul (txt l) (n : Int) = txt (List.replicate n l).flatten := by
  unfold Txt.mul
  by_cases h0 : (n : Int) < 1
  · have : n = 0 := by omega
    subst this
    rw [if_pos h0]
    rfl
  · rw [if_neg h0]
    by_cases h1 : n = 1
    · subst h1
      rw [if_pos (by simp)]
      simp
    · by_cases h2 : l = []
      · subst h2
        rw [if_pos (by rw [txt_length]; simp)]
        have : (List.replicate n ([] : List Bool)).flatten = [] := by
          rw [List.flatten_eq_nil_iff]
          intro x hx
          exact (List.mem_replicate.mp hx).2
        rw [this]
      · have h3 : ¬ (((n : Int) == 1 || (txt l).length == 0) = true) := by
          rw [txt_length]
          simp only [Bool.or_eq_true, beq_iff_eq, not_or]
          exact ⟨by omega, fun z => h2 (List.length_eq_zero_iff.mp z)⟩
        rw [if_neg h3]
        have := fold_rep (l.map sgn) n []
        show (⟨(List.replicate (n : Int).toNat (l.map sgn).toArray).foldl (· ++ ·) #[]⟩ : Str) = _
        rw [Int.toNat_natCast]
        refine congrArg Str.mk (this.trans ?_)
        rw [List.nil_append]
        congr 1
        rw [List.map_flatten, List.map_replicate]
theorem mulOk_txt {l : List Bool} {n : Nat} (hl : l.length ≤ 100) (hn : n ≤ 1000) : MulOk (txt l) (n : Int) := by
  refine ⟨by simp; omega, fun h0 _ => ?_, fun _ _ => ?_⟩
  · rw [txt_length]
    have h1 : (0 : Int) < n := by omega
    have : (1000 : Int) ≤ (2 ^ 63 - 1) / n := by
      refine Int.le_ediv_of_mul_le h1 ?_
      omega
    omega
  · rw [txt_length]
    show decide (_ > sizeLine) = false
    refine decide_eq_false ?_
    rw [sizeLine_eq, Int.toNat_natCast]
    have := Nat.mul_le_mul hl hn
    omega
theorem txt_cut (l : List Bool) (a b : Nat) (h : a ≤ b) (hb : b ≤ l.length) : cutS (txt l) (some (a : Int)) (some (b : Int)) = txt ((l.drop a).take (b - a)) := by
  unfold cutS
  rw [HT.sIx_nat, HT.sIx_nat, txt_length, Nat.min_eq_left (show a ≤ l.length by omega), Nat.min_eq_left (show b ≤ l.length from hb)]
  show (⟨((((l.map sgn).toArray).toList.drop a).take (b - a)).toArray⟩ : Str) = ⟨(((l.drop a).take (b - a)).map sgn).toArray⟩
  rw [List.map_take, List.map_drop]
theorem glue_txt : ∀ (bs acc : List Bool), (bs.map fun b => txt [b]).foldl (fun (z : Array Nat) (p : Str) => z ++ (Str.empty).cps ++ p.cps) (txt acc).cps = (txt (acc ++ bs)).cps
  | [], acc => by simp
  | b :: bs, acc => by
    rw [List.map_cons, List.foldl_cons]
    have : (txt acc).cps ++ (Str.empty).cps ++ (txt [b]).cps = (txt (acc ++ [b])).cps := by
      have := congrArg Str.cps (txt_app acc [b])
      rw [← this]
      show (txt acc).cps ++ #[] ++ (txt [b]).cps = (txt acc).cps ++ (txt [b]).cps
      simp
    rw [this, glue_txt bs (acc ++ [b]), List.append_assoc]
    rfl
theorem join_txt (bs : List Bool) : Txt.join ("" : Str) (bs.map fun b => txt [b]) = txt bs := by
  show Builtin.Str.glued ("" : Str) (bs.map fun b => txt [b]) = _
  unfold Builtin.Str.glued
  cases bs with
  | nil => rfl
  | cons b bs =>
    have := glue_txt bs [b]
    exact congrArg Str.mk this
theorem str_bit (b : Bool) : (Str.ofString (toString (if b then (1 : Int) else 0))) = txt [b] := by cases b <;> decide +kernel
theorem int_at {os : List Int} {i : Nat} {x : V} (hx : (os.map V.int)[i]? = some x) : ∃ o, os[i]? = some o ∧ x = .int o := by
  rw [List.getElem?_map] at hx
  cases e : os[i]? with
  | none => rw [e] at hx; cases hx
  | some o =>
    rw [e] at hx
    exact ⟨o, rfl, (Option.some.inj hx).symm⟩
/-- outcomes as digits -/
def bo (os : List Int) : List Bool := os.map fun o => decide (o = 1)
theorem bo_len (os : List Int) : (bo os).length = os.length := List.length_map ..
/-- so many digits from a place on, round and round -/
def run (bs : List Bool) (a k : Nat) : List Bool := (List.range k).map fun j => bs.getD ((a + j) % bs.length) false
/-- the last digits of so many that passed, zeros ahead -/
def past (bs : List Bool) (p L : Nat) : List Bool := List.replicate (L - min p L) false ++ run bs (p - min p L) (min p L)
theorem run_len (bs : List Bool) (a k : Nat) : (run bs a k).length = k := by
  unfold run
  rw [List.length_map, List.length_range]
theorem past_len (bs : List Bool) (p L : Nat) : (past bs p L).length = L := by
  unfold past
  rw [List.length_append, List.length_replicate, run_len]
  omega
theorem rep_at {α : Type} (l : List α) (h : 0 < l.length) : ∀ (m i : Nat), i < m * l.length → ((List.replicate m l).flatten)[i]? = l[i % l.length]?
  | 0, i, hi => by simp at hi
  | m + 1, i, hi => by
    rw [List.replicate_succ, List.flatten_cons]
    by_cases g : i < l.length
    · rw [List.getElem?_append_left g, Nat.mod_eq_of_lt g]
    · rw [List.getElem?_append_right (by omega), rep_at l h m (i - l.length) (by rw [Nat.succ_mul] at hi; omega)]
      congr 1
      exact (Nat.mod_eq_sub_mod (by omega)).symm
theorem run_cut {bs : List Bool} (h : 0 < bs.length) (a k m : Nat) (hm : a % bs.length + k ≤ m * bs.length) : (((List.replicate m bs).flatten).drop (a % bs.length)).take k = run bs a k := by
  refine List.ext_getElem? fun i => ?_
  by_cases hi : i < k
  · rw [List.getElem?_take_of_lt hi, List.getElem?_drop, rep_at bs h m _ (by omega)]
    unfold run
    rw [List.getElem?_map, List.getElem?_range hi]
    have hlt : (a + i) % bs.length < bs.length := Nat.mod_lt _ h
    have e : (a % bs.length + i) % bs.length = (a + i) % bs.length := by rw [Nat.mod_add_mod]
    rw [e, List.getElem?_eq_getElem hlt]
    show _ = some (bs.getD ((a + i) % bs.length) false)
    rw [List.getD_eq_getElem?_getD, List.getElem?_eq_getElem hlt]
    rfl
  · rw [List.getElem?_eq_none (by rw [List.length_take]; omega), List.getElem?_eq_none (by rw [run_len]; omega)]
theorem rep_length (n : Nat) (l : List Bool) : ((List.replicate n l).flatten).length = n * l.length := by
  induction n with
  | zero => simp
  | succ n ih => rw [List.replicate_succ, List.flatten_cons, List.length_append, ih, Nat.succ_mul, Nat.add_comm]
theorem enough (n k a : Nat) (h : 0 < n) : a % n + k ≤ (k / n + 2) * n := by
  have h1 := Nat.div_add_mod k n
  have h2 := Nat.mod_lt k h
  have h3 := Nat.mod_lt a h
  rw [Nat.add_mul, Nat.mul_comm (k / n) n]
  omega
theorem sgn_inj {a b : Bool} (h : sgn a = sgn b) : a = b := by
  revert h
  cases a <;> cases b <;> decide
theorem sgns_inj : ∀ {a b : List Bool}, a.map sgn = b.map sgn → a = b
  | [], [], _ => rfl
  | x :: xs, y :: ys, h => by
    rw [List.map_cons, List.map_cons] at h
    injection h with h1 h2
    rw [sgn_inj h1, sgns_inj h2]
  | [], _ :: _, h => by simp at h
  | _ :: _, [], h => by simp at h
theorem txt_inj {a b : List Bool} (h : txt a = txt b) : a = b := by
  have h1 : (a.map sgn).toArray = (b.map sgn).toArray := congrArg Str.cps h
  exact sgns_inj (by simpa using h1)
theorem txt_tail (l : List Bool) : cutS (txt l) (some 1) none = txt (l.drop 1) := by
  unfold cutS
  rw [show (some (1 : Int)) = some ((1 : Nat) : Int) from rfl, HT.sIx_none, HT.sIx_nat, txt_length]
  show (⟨((((l.map sgn).toArray).toList.drop (min 1 l.length)).take (l.length - min 1 l.length)).toArray⟩ : Str) = ⟨((l.drop 1).map sgn).toArray⟩
  congr 2
  rw [List.map_drop]
  cases l with
  | nil => rfl
  | cons b r =>
    rw [show min 1 (b :: r).length = 1 by rw [List.length_cons]; omega]
    refine List.take_of_length_le ?_
    rw [List.length_drop]
    simp
theorem walk_zipT {K : PySem.W.Frag} {a b : Addr} {xs ys : List V} (hl : xs.length = ys.length) : Walk (ItzT K a b) xs.length (fun H => SqT K H a xs ∧ SqT K H b ys) (fun i H v H' => ∃ T x y, v = .ref T ∧ H T = none ∧ xs[i]? = some x ∧ ys[i]? = some y ∧ H' = upd H T (.tup [x, y])) :=
  ⟨fun i _ hi q => ⟨xs, ys, xs[i], ys[i]'(by omega), q.1, q.2, List.getElem?_eq_getElem hi, List.getElem?_eq_getElem (by omega)⟩, fun _ q => ⟨xs, ys, q.1, q.2, .inl (Nat.le_refl _)⟩, fun i H v H' _ q y => by
    obtain ⟨T, x, z, h1, h2, h3, h4, h5⟩ := y
    exact ⟨T, x, z, h1, h2, h4 xs q.1, h5 ys q.2, h3⟩⟩

theorem bit_txt (b : Bool) : (.str (Str.ofString (toString (((if b then 1 else 0 : Nat) : Int)))) : V) = .str (txt [b]) := by
  cases b <;> decide +kernel
theorem op_inK {X : Cx} (K : PySem.W.Frag) (h : X.K = K := by rfl) : OpR X (compareOp .In) (rIn K false) := by
  subst h
  exact op_in_seq
/-! ### whether a tuple is () -/
def rEq0 (K : PySem.W.Frag) : R2 := fun x y H Q => ∃ a b xs, x = .ref a ∧ y = .ref b ∧ SqT K H a xs ∧ SqT K H b [] ∧ Q (.bl (decide (xs = []))) H
theorem op_eq0 {X : Cx} (hu : X.A.units < cLine) : OpR X (compareOp .Eq) (rEq0 X.K) := by
  intro pins s σ H x y v u Q I rx ry h
  obtain ⟨a, b, xs, rfl, rfl, ha, hb, q⟩ := h
  cases rx
  cases ry
  obtain ⟨its, r1, ⟨o1, e1, c1, n1, d1⟩, _⟩ := I.tuple ha
  obtain ⟨its2, r2, ⟨o2, e2, c2, n2, d2⟩, _⟩ := I.tuple hb
  cases r2
  refine SeqAt.RcAt.tuples (e := fun _ => true) (items := its.toArray) (items2 := ([] : List Value).toArray) ⟨o1, e1, c1, n1, d1⟩ ⟨o2, e2, c2, n2, d2⟩ hu (fun j h1 h2 => absurd h2 (Nat.not_lt_zero _)) X.prog X.w X.xe (EP X pins σ Q) ⟨.bl _, H, I, ?_, q⟩
  show Value.bool _ = Value.bool _
  congr 1
  cases xs with
  | nil => cases r1; rfl
  | cons x xs => cases r1; simp
theorem txt_init (l : List Bool) : cutS (txt l) none (some (-1)) = txt l.dropLast := by
  unfold cutS
  have e : HT.sIx (txt l).length (txt l).length (some (-1)) = l.length - 1 := by
    rw [txt_length]
    unfold HT.sIx
    first
      | (simp only []; omega)
      | (simp; omega)
      | (split <;> omega)
  rw [HT.sIx_none, e]
  show (⟨((((l.map sgn).toArray).toList.drop 0).take (l.length - 1 - 0)).toArray⟩ : Str) = ⟨(l.dropLast.map sgn).toArray⟩
  rw [List.drop_zero, Nat.sub_zero, List.dropLast_eq_take, List.map_take]
end Gk
namespace Gk
open PySem PySem.Spec PyProof.Rows L2
/-! ### a list from a tuple, its place told apart from the table of modules -/
def rLstN (K : PySem.W.Frag) : List V → Hp → VK → Prop := fun xs H Q => ∃ p ys, xs = [.ref p] ∧ SqT K H p ys ∧ ∀ l, H l = none → (l == sysModules) = false → Q (.ref l) (upd H l (.lst ys))
theorem call_listN {X : Cx} : CallR X (.type "list") (rLstN X.K) := by
  intro pins s σ H xs us Q I r h
  obtain ⟨p, ys, rfl, hq, q⟩ := h
  obtain ⟨u, rfl, rx⟩ := vals1 r
  cases rx
  obtain ⟨its, r', pl, hz⟩ := I.tuple hq
  have hlen := r'.length
  obtain ⟨o, ho, hc, n, hd⟩ := pl
  refine call_list_seq p (.inr rfl) ho hc hd (fun h' c' kp e => ?_) (by simp only [List.size_toArray] <;> omega)
  exact ⟨.ref s.heap.objs.size, _, I.laid (t' := s.toks) kp (Nat.le_refl _) (show ObjOk X.prog X.w _ h' _ (.lst ys) from ⟨hz, its, c', r', e⟩), rfl, q _ (I.hok.fresh (Nat.le_refl _)) (not_modules I)⟩
/-! ### readings, taken apart -/
theorem go_op {r : R2} {ta tb : TE} {σ : L2.St} {H : Hp} {Q : VK} (h : ta σ H fun x H1 => tb σ H1 fun y H2 => r x y H2 Q) : tOp r ta tb σ H Q := h
theorem go_ret {te : TE} {D : Ends} {σ : L2.St} {H : Hp} (h : te σ H D.rt) : tRet te D σ H := h
theorem go_asg {te : TE} {g : TG} {u : TS} {D : Ends} {σ : L2.St} {H : Hp} (h : te σ H fun v H' => g v σ H' (u D)) : tSeq (tAsg te g) u D σ H := h
theorem go_as {te : TE} {g : TG} {D : Ends} {σ : L2.St} {H : Hp} (h : te σ H fun v H' => g v σ H' D.nx) : tAsg te g D σ H := h
theorem go_name {i : Nat} {v : V} {σ : L2.St} {H : Hp} {Q : L2.St → Hp → Prop} (h : Q (σ.set i (some v)) H) : gName i v σ H Q := h
section
variable {M : Addr → Prop} {K : PySem.W.Frag} {σ : L2.St} {H H0 : Hp}
theorem tup_of {v : V} {ds : List PyData} (h : Dv M K H v (.tuple ds)) : ∃ a xs, v = .ref a ∧ SqT K H a xs ∧ (∀ H', Off M H H' → SqT K H' a xs) ∧ DvAll M K H xs ds := by
  cases h with
  | tup h n r => exact ⟨_, _, rfl, .inl h, fun H' k => .inl (k.rd n h), r⟩
  | tupK h r => exact ⟨_, _, rfl, .inr h, fun _ _ => .inr h, r⟩
theorem sq_tup {a : Addr} {xs : List V} (h : H a = some (.tup xs)) : SqT K H a xs := .inl (.inl h)
/-- a tuple that other rules made, as data -/
theorem dv_sq {a : Addr} {xs : List V} {ds : List PyData} (h : SqT K H a xs) (n : ¬ M a) (r : DvAll M K H xs ds) : Dv M K H (.ref a) (.tuple ds) := h.elim (fun h => .tup h n r) fun h => .tupK h r
/-- two tuples joined -/
theorem cat_go {x y : V} {ds es : List PyData} {Q : VK} (hx : Dv M K H x (.tuple ds)) (hy : Dv M K H y (.tuple es)) (l : ds.length + es.length ≤ 1000000) (z : Stands M H)
    (q : ∀ v H', Same H H' → Dv M K H' v (.tuple (ds ++ es)) → Q v H') : rCatA K x y H Q := by
  obtain ⟨a, xs, rfl, ha, na, da⟩ := tup_of hx
  obtain ⟨b, ys, rfl, hb, nb, db⟩ := tup_of hy
  have l1 := da.len
  have l2 := db.len
  refine ⟨a, b, xs, ys, rfl, rfl, ha, hb, by rw [sizeLine_eq]; omega, fun e => ?_, fun _ e => ?_, fun _ _ p n => q _ _ (same_new n) (.tup (.inl upd_same) (z.new n) ((da.app db).off (Off.same (same_new n))))⟩
  · subst e
    cases da
    exact q _ _ (Same.refl _) hy
  · subst e
    cases db
    rw [List.append_nil] at q
    exact q _ _ (Same.refl _) hx
theorem mk_cat {t u : TE} {ds es : List PyData} (h : Mk M K t σ H0 (.tuple ds)) (g : Mk M K u σ H0 (.tuple es)) (l : ds.length + es.length ≤ 1000000) : Mk M K (tOp (rCatA K) t u) σ H0 (.tuple (ds ++ es)) := fun H M' Q s u' w z q =>
  h H M' _ s u' w z fun v1 H1 s1 d1 => g H1 M' _ (s.trans s1) u' w (z.same s1) fun v2 H2 s2 d2 => cat_go (d1.off (Off.same s2)) d2 l ((z.same s1).same s2) fun v H' s3 d3 => q _ _ ((s1.trans s2).trans s3) d3
/-- a bound that is read -/
def Pt (tl : TO) (σ : L2.St) (o : Option Int) : Prop := ∀ H Q, Q o H → tl σ H Q
theorem pt_none : Pt tNoPart σ none := fun _ _ q => q
theorem pt_v {i : Nat} {n : Int} (e : σ[i]? = some (some (.int n))) : Pt (tPart (tVar i)) σ (some n) := fun _ _ q => ⟨_, e, n, rfl, q⟩
theorem pt_v1 {i : Nat} {n : Int} (e : σ[i]? = some (some (.int n))) : Pt (tPart (tOp (rI0 fun i j => .int (i + j)) (tVar i) (tC (.int 1)))) σ (some (n + 1)) := fun _ _ q => ⟨_, e, n, 1, rfl, rfl, _, rfl, q⟩
def cutD {α : Type} (xs : List α) (lo hi : Option Int) : List α := (xs.drop (HT.sIx xs.length 0 lo)).take (HT.sIx xs.length xs.length hi - HT.sIx xs.length 0 lo)
theorem cutD_to {α : Type} {xs : List α} (n : Nat) : cutD xs none (some (n : Int)) = xs.take n := by
  unfold cutD
  rw [HT.sIx_none, HT.sIx_nat]
  show ((xs.drop 0).take (min n xs.length - 0)) = _
  rw [List.drop_zero, Nat.sub_zero, Nat.min_comm, List.take_eq_take_iff]
  omega
theorem cutD_from {α : Type} {xs : List α} (n : Nat) : cutD xs (some (n : Int)) none = xs.drop n := by
  unfold cutD
  rw [HT.sIx_none, HT.sIx_nat]
  by_cases h : n ≤ xs.length
  · rw [Nat.min_eq_left h, List.take_of_length_le (by rw [List.length_drop]; exact Nat.le_refl _)]
  · rw [Nat.min_eq_right (by omega), List.drop_eq_nil_of_le (Nat.le_refl _), List.drop_eq_nil_of_le (by omega)]
    exact List.take_nil
theorem mk_cut {t : TE} {tl th : TO} {lo hi : Option Int} {ds : List PyData} (h : Mk M K t σ H0 (.tuple ds)) (pl : Pt tl σ lo) (ph : Pt th σ hi) : Mk M K (tSl (rSlA K) t tl th) σ H0 (.tuple (cutD ds lo hi)) := fun H M' Q s u w z q =>
  h H M' _ s u w z fun v1 H1 s1 d1 => pl _ _ (ph _ _ (by
    obtain ⟨a, xs, rfl, ha, na, da⟩ := tup_of d1
    have l1 := da.len
    refine ⟨a, xs, rfl, ha, fun e => ?_, fun _ p n => q _ _ (s1.trans (same_new n)) (.tup (.inl upd_same) ((z.same s1).new n) ?_)⟩
    · have : cutD ds lo hi = ds := by
        unfold cutD
        rw [← l1, e.1, e.2, List.drop_zero, Nat.sub_zero]
        exact List.take_of_length_le (Nat.le_of_eq l1.symm)
      rw [this] at q
      exact q _ _ s1 d1
    · refine DvAll.off ?_ (Off.same (same_new n))
      unfold cutV cutD
      rw [l1]
      exact (da.drop _).take _))
theorem mk_to {t : TE} {tl th : TO} {n : Nat} {ds : List PyData} (h : Mk M K t σ H0 (.tuple ds)) (pl : Pt tl σ none) (ph : Pt th σ (some (n : Int))) : Mk M K (tSl (rSlA K) t tl th) σ H0 (.tuple (ds.take n)) := by
  have := mk_cut h pl ph
  rwa [cutD_to] at this
theorem mk_from {t : TE} {tl th : TO} {n : Nat} {ds : List PyData} (h : Mk M K t σ H0 (.tuple ds)) (pl : Pt tl σ (some (n : Int))) (ph : Pt th σ none) : Mk M K (tSl (rSlA K) t tl th) σ H0 (.tuple (ds.drop n)) := by
  have := mk_cut h pl ph
  rwa [cutD_from] at this
theorem mk_rev {t : TE} {ds : List PyData} (h : Mk M K t σ H0 (.tuple ds)) : Mk M K (tRevU K t) σ H0 (.tuple ds.reverse) := fun H M' Q s u w z q =>
  h H M' _ s u w z fun v1 H1 s1 d1 => by
    obtain ⟨a, xs, rfl, ha, na, da⟩ := tup_of d1
    exact ⟨a, xs, rfl, ha, fun p n => q _ _ (s1.trans (same_new n)) (.tup (.inl upd_same) ((z.same s1).new n) (da.rev.off (Off.same (same_new n))))⟩
theorem mk_list {t : TE} {ds : List PyData} (h : Mk M K t σ H0 (.tuple ds)) : Mk M K (tCB (rLstN K) (tCons t tNil)) σ H0 (.list ds) := fun H M' Q s u w z q =>
  h H M' _ s u w z fun v1 H1 s1 d1 => by
    obtain ⟨a, xs, rfl, ha, na, da⟩ := tup_of d1
    exact ⟨a, xs, rfl, ha, fun p n y => q _ _ (s1.trans (same_new n)) (.lst upd_same ((z.same s1).new n) y (da.off (Off.same (same_new n))))⟩
/-- a plain value that is read -/
theorem mk_gv {t : TE} {v : V} {d : PyData} (g : ∀ H Q, Q v H → t σ H Q) (h : ∀ M H, Dv M K H v d) : Mk M K t σ H0 d := fun H M' Q s u w z q => g _ _ (q _ _ (Same.refl _) (h M' H))
end
/-! ### sizes -/
theorem int_cps (i : Int) : fin (.str (Str.ofString (toString i))) 0 = true := by
  simp only [fin, Array.all_eq_true', decide_eq_true_eq]
  intro c hc
  refine Nat.lt_of_not_le fun h => int_text_free' c ⟨by omega, .inr (by omega)⟩ i ?_
  exact Array.mem_toList_iff.mpr hc
mutual
theorem fin_mono {B C : Nat} (h : B ≤ C) : ∀ d : PyData, fin d B = true → fin d C = true
  | .none, _ => rfl
  | .bool _, _ => rfl
  | .int i, g => by
    simp only [fin, decide_eq_true_eq] at g ⊢
    omega
  | .str x, g => by simpa only [fin] using g
  | .list xs, g => by
    simp only [fin] at g ⊢
    exact fin_monoAll h xs g
  | .tuple xs, g => by
    simp only [fin] at g ⊢
    exact fin_monoAll h xs g
  | .dict kvs, g => by
    simp only [fin] at g ⊢
    exact fin_monoKv h kvs g
theorem fin_monoAll {B C : Nat} (h : B ≤ C) : ∀ ds : List PyData, finAll ds B = true → finAll ds C = true
  | [], _ => rfl
  | x :: xs, g => by
    simp only [finAll, Bool.and_eq_true] at g ⊢
    exact ⟨fin_mono h x g.1, fin_monoAll h xs g.2⟩
theorem fin_monoKv {B C : Nat} (h : B ≤ C) : ∀ kvs : List (PyData × PyData), finKv kvs B = true → finKv kvs C = true
  | [], _ => rfl
  | (k, v) :: r, g => by
    simp only [finKv, Bool.and_eq_true] at g ⊢
    exact ⟨⟨fin_mono h k g.1.1, fin_mono h v g.1.2⟩, fin_monoKv h r g.2⟩
end
theorem finAll_iff {B : Nat} : ∀ {ds : List PyData}, finAll ds B = true ↔ ∀ d ∈ ds, fin d B = true
  | [] => by simp [finAll]
  | x :: xs => by
    simp only [finAll, Bool.and_eq_true, List.mem_cons, forall_eq_or_imp]
    rw [finAll_iff]
theorem bigAll_app : ∀ ds es : List PyData, bigAll (ds ++ es) + 1 = bigAll ds + bigAll es
  | [], es => by simp only [List.nil_append, bigAll]; omega
  | d :: ds, es => by
    have := bigAll_app ds es
    simp only [List.cons_append, bigAll]
    omega
theorem bigAll_rev : ∀ ds : List PyData, bigAll ds.reverse = bigAll ds
  | [] => rfl
  | d :: ds => by
    have := bigAll_app ds.reverse [d]
    have h := bigAll_rev ds
    rw [List.reverse_cons]
    simp only [bigAll] at this ⊢
    omega
theorem bigAll_len : ∀ ds : List PyData, ds.length + 1 ≤ bigAll ds
  | [] => Nat.le_refl _
  | d :: ds => by
    have := bigAll_len ds
    simp only [List.length_cons, bigAll]
    omega
theorem bigAll_split (ds : List PyData) (n : Nat) : bigAll (ds.take n) + bigAll (ds.drop n) = bigAll ds + 1 := by
  have := bigAll_app (ds.take n) (ds.drop n)
  rw [List.take_append_drop] at this
  omega
theorem depthAll_iff {n : Nat} : ∀ {ds : List PyData}, PyData.depthAll ds ≤ n ↔ ∀ d ∈ ds, d.depth ≤ n
  | [] => by simp [PyData.depthAll]
  | x :: xs => by
    simp only [PyData.depthAll, List.mem_cons, forall_eq_or_imp]
    rw [← depthAll_iff (ds := xs)]
    omega
end Gk
namespace Pf
open PySem PySem.Spec PyProof.Rows L2 Gk Fold
abbrev sOwner : Stmt := topS 7
theorem scOwner : FnScope ["scheme", "branch"] ["scheme", "branch"] (defScope sOwner) := ⟨rfl, rfl, rfl, by decide +kernel, rfl, by decide +kernel, by decide +kernel⟩
abbrev sPushed : Stmt := topS 8
theorem scPushed : FnScope ["history", "outcome"] ["history", "outcome"] (defScope sPushed) := ⟨rfl, rfl, rfl, by decide +kernel, rfl, by decide +kernel, by decide +kernel⟩
theorem txt_gk (l : List Bool) : txt l = Gk.txt l := rfl
theorem str_of_bit {o : Int} (h : o = 0 ∨ o = 1) : (Str.ofString (toString o)) = Gk.txt [decide (o = 1)] := by
  rcases h with rfl | rfl <;> decide +kernel
abbrev sPreds : Stmt := topS 13
abbrev nPreds : List Str := ["trace", "scheme", "counter", "rounds", "bits", "first", "histories", "values", "moment", "branch", "outcome", "owner", "history", "cell", "value"]
theorem gcPreds : GScope nPreds ["trace", "scheme", "counter", "rounds"] (defScope sPreds) := ⟨rfl, rfl, rfl, by decide +kernel, rfl, by decide +kernel, by decide +kernel⟩
section
variable {P : Program} {w : World} {K : PySem.W.Frag} {mg : Str → Option Value} {base : Heap}
def spOwner (K : PySem.W.Frag) : Sp := fun vs H Q _ => ∃ (c : Addr) (k : Str) (z : Int) (x : Option Int) (b : Int), vs = [.ref c, .int b] ∧ SqT K H c (planV k z x) ∧ Q (oKey (ownO k b)) H
theorem ok_owner {f : Addr} {fd : FuncData} {k : Nat} (F : L2.Fun K "owner_of" "owner_of" sOwner f fd) : FnOk P w K mg base L2.CX0 (k + 1) f fd ["scheme", "branch"] (spOwner K) := by
  refine F.ok scOwner (fun vs H Q E h => ?_) (fun cdv A outer s H vs Q E hr h => ?_)
  · obtain ⟨c, k, z, x, b, rfl, _⟩ := h
    rfl
  · obtain ⟨c, k, z, x, b, rfl, hc, q⟩ := h
    refine ⟨_, pss_one (ps_ret (pe_ifExp (pt_cmpR op_eq (pe_ix ix_tup (pv 0) pe_int (fun _ _ => rfl)) pe_str (nomark _)) (pv 1) pe_non)), ?_⟩
    refine ⟨.ref c, rfl, c, _, 0, .str k, rfl, rfl, hc, planV0 _ _ _, rfl, _, rfl, ite2 (fun e => ?_) (fun e => ?_)⟩
    · have e1 : V.str k = V.str "own" := of_decide_eq_true e
      injection e1 with e1
      unfold ownO at q
      rw [if_pos e1] at q
      exact ⟨.int b, rfl, q⟩
    · have ne : k ≠ "own" := fun z => e (decide_eq_true (by rw [z]))
      unfold ownO at q
      rw [if_neg ne] at q
      exact q
/-- an outcome pushed onto a history -/
def spPushed : Sp := fun vs H Q _ => ∃ (h : List Bool) (o : Int), vs = [.str (txt h), .int o] ∧ (o = 0 ∨ o = 1) ∧ h.length ≤ 1000 ∧ Q (.str (txt ((h ++ [decide (o = 1)]).drop 1))) H
theorem ok_pushed {f : Addr} {fd : FuncData} {k : Nat} (ms : mg "str" = none) (F : L2.Fun K "pushed" "pushed" sPushed f fd) : FnOk P w K mg base L2.CX0 (k + 1) f fd ["history", "outcome"] spPushed := by
  refine F.ok scPushed (fun vs H Q E h => ?_) (fun cdv A outer s H vs Q E hr h => ?_)
  · obtain ⟨h, o, rfl, _⟩ := h
    rfl
  · obtain ⟨h, o, rfl, ho, h2, q⟩ := h
    refine ⟨_, pss_one (ps_ret (pe_slice sl_str (pe_op op_add_str (pv 0) (pe_callTy call_str_int (by rfl) ms (by decide +kernel) (pa_cons (pv 1) pa_nil))) (po_some pe_int) po_none)), ?_⟩
    have es := str_of_bit ho
    refine ⟨_, rfl, .int o, rfl, o, rfl, ?_, _, _, rfl, rfl, ?_, 1, rfl, _, rfl, ?_, ?_⟩
    · rcases ho with rfl | rfl <;> decide
    · rw [es, txt_gk, Gk.txt_length, Gk.txt_length, sizeLine_eq]
      show h.length + 1 ≤ 16777216
      omega
    · rw [es, txt_gk, Gk.txt_app, Gk.txt_length, List.length_append, sizeLine_eq]
      show h.length + 1 ≤ 16777216
      omega
    · rw [es, txt_gk, Gk.txt_app, Gk.txt_tail]
      exact q
/-- all that is told of so many rounds, the caller going on between the triples -/
theorem new_cells {k : Str} {σ : L2.St} {H : Hp} {Q : VK} (h : ∀ vd, H vd = none → ∀ H', (∀ z, z ≠ vd → H' z = H z) → VD H' vd k (fun _ => none) 0 → Q (.ref vd) H') : tDNewK σ H Q ∨ tDNewT σ H Q := by
  cases t : tupK k with
  | false => exact .inl fun vd n => h vd n _ (fun z hz => upd_ne hz) (.inl ⟨t, [], upd_same, Nat.le_refl _, fun _ => rfl⟩)
  | true => exact .inr fun vd n => h vd n _ (fun z hz => upd_ne hz) (.inr ⟨t, [], upd_same, Nat.le_refl _, fun _ => rfl⟩)
theorem VD.same {H H' : Hp} {a : Addr} {k : Str} {f : CK → Option V} {n : Nat} (d : VD H a k f n) (e : ∀ o, H a = some o → H' a = some o) : VD H' a k f n := by
  rcases d with ⟨t, kvs, h, r⟩ | ⟨t, kvs, h, r⟩
  · exact .inl ⟨t, kvs, e _ h, r⟩
  · exact .inr ⟨t, kvs, e _ h, r⟩
theorem VD.isD {H : Hp} {a : Addr} {k : Str} {f : CK → Option V} {n : Nat} (d : VD H a k f n) : IsD H a := by
  rcases d with ⟨t, kvs, h, r⟩ | ⟨t, kvs, h, r⟩
  · exact .inl ⟨kvs, .inl h⟩
  · exact .inr ⟨kvs, .inl h⟩
theorem getD_int (o : Option Int) (d : Int) : (o.map V.int).getD (.int d) = .int (o.getD d) := by cases o <;> rfl
theorem keep_but {K : PySem.W.Frag} {H H' : Hp} {v : Addr} {o : HO} (e : H v = some o) (n1 : ∀ ts, o ≠ .tup ts) (n2 : ∀ a u, o ≠ .frz a u) (ne : ∀ z, z ≠ v → H' z = H z) : Keep K H H' := fun a xs h => by
  rcases h with (h | ⟨u, h⟩) | h
  · exact .inl (.inl (by rw [ne a (fun z => by rw [z, e] at h; exact n1 _ (Option.some.inj h))]; exact h))
  · exact .inl (.inr ⟨u, by rw [ne a (fun z => by rw [z, e] at h; exact n2 _ _ (Option.some.inj h))]; exact h⟩)
  · exact .inr h
theorem VD.keep {K : PySem.W.Frag} {H H' : Hp} {a : Addr} {k : Str} {f : CK → Option V} {n : Nat} (d : VD H a k f n) (ne : ∀ z, z ≠ a → H' z = H z) : Keep K H H' := by
  rcases d with ⟨t, kvs, h, r⟩ | ⟨t, kvs, h, r⟩
  · exact keep_but h (fun ts z => by cases z) (fun _ _ z => by cases z) ne
  · exact keep_but h (fun ts z => by cases z) (fun _ _ z => by cases z) ne
theorem VD.there {H : Hp} {a : Addr} {k : Str} {f : CK → Option V} {n : Nat} (d : VD H a k f n) : ∃ o, H a = some o ∧ ∀ ts, o ≠ .tup ts := by
  rcases d with ⟨t, kvs, h, r⟩ | ⟨t, kvs, h, r⟩
  · exact ⟨_, h, fun ts z => by cases z⟩
  · exact ⟨_, h, fun ts z => by cases z⟩
theorem pg_tupK {X : Cx} {es : List Expr} {k n : Nat} {t : TGs} {pos : Pos} (K : PySem.W.Frag) (hc : X.calm = true) (h : PGs X es t) (hK : X.K = K := by rfl)
    (hn : (assignEach es X.env).length = n := by rfl) (hst : (assignEach es X.env).findIdx? (·.1) = none := by rfl) : PG X (.Tuple es k pos) (gTup K n t) := by
  subst hK
  exact pg_tup hc h hn hst
def spPredsY (K : PySem.W.Frag) : SpY := fun vs H n γ dn yl => ∃ (t c g : Addr) (l : List (Int × Int)) (k : Str) (z : Int) (x : Option Int) (w v0 : Int) (r : Nat) (J : Nat → L2.St → Hp → Prop), vs = [.ref t, .ref c, .ref g, .int (r : Int)] ∧ PairsAt K H t l ∧ Fair l ∧ 1 ≤ l.length ∧ l.length ≤ 64 ∧ SqT K H c (planV k z x) ∧ PlanOk k z x ∧
  SqT K H g [.int w, .int v0] ∧ 1 ≤ w ∧ w ≤ 64 ∧ 0 ≤ v0 ∧ v0 ≤ top w ∧ r ≤ 1000 ∧ n = r * l.length ∧ J 0 γ H ∧
  (∀ i γ H1 H2, J i γ H1 → (∀ b o' o, H b = some o' → H1 b = some o → H2 b = some o) → Keep K H1 H2 → J i γ H2) ∧
  (∀ i γ H1 T kk, i < r * l.length → J i γ H1 → SqT K H1 T [.int (brAt l i), .int (pM l k x z.toNat w v0 i), .int (outM l i)] → (∀ γ' H2, J (i + 1) γ' H2 → (∀ b o, H b = none → H1 b = some o → H2 b = some o) → (∀ b ts, H1 b = some (.tup ts) → H2 b = some (.tup ts)) → Keep K H1 H2 → kk γ' H2) → yl γ (.ref T) H1 kk) ∧
  ∀ γ H1, J (r * l.length) γ H1 → dn γ H1
theorem gy_preds {f : Addr} {fd : FuncData} (DO : Dfn P w K mg base 1 "owner_of" ["scheme", "branch"] (spOwner K)) (DC : Dfn P w K mg base 3 "cell_of" ["scheme", "branch", "history"] (spCellC K)) (DPr : Dfn P w K mg base 2 "predicted" ["bits", "value"] spPred)
    (DA : Dfn P w K mg base 2 "value_after" ["bits", "value", "outcome"] spAft) (DPu : Dfn P w K mg base 1 "pushed" ["history", "outcome"] spPushed) (ml : mg "len" = none) (mr : mg "range" = none)
    (F : L2.Fun K "predictions" "predictions" sPreds f fd) : GenYd P w K mg base 5 f fd ["trace", "scheme", "counter", "rounds"] (spPredsY K) := by
  refine gY_ok F gcPreds (fun m x => ?_) (fun vs H n γ dn yl h => ?_) (fun cdv A outer s H vs n γ dn yl hr h => ?_)
  · rfl
  · obtain ⟨t, c, g, l, k, z, x, w, v0, r, J, rfl, _⟩ := h
    rfl
  · obtain ⟨t, c, g, l, k, z, x, wd, v0, r, J, rfl, hl, fair, l1, l64, hc, ok, hg, w1, w64, v1, v2, r1, rfl, j0, mono, step, fin⟩ := h
    have hu : (A.deeper (envOfC "predictions" (defScope sPreds) s.heap.objs.size f cdv)).units + 1 < cLine := Nat.lt_of_le_of_lt (Nat.add_le_add_left (by decide : 1 ≤ 64) _) hr.units
    refine ⟨_, yss_cons (ys_ps fun _ _ => ps_asg (pv 2) (pg_tupK (n := 2) K (by rfl) (pgs_cons (pg_name (i := 4) gcPreds.nd rfl (.inl rfl)) (pgs_cons (pg_name (i := 5) gcPreds.nd rfl (.inl rfl)) pgs_nil))))
      (yss_cons (ys_ps fun _ _ => ps_set (i := 6) gcPreds.nd rfl (.inl rfl) (pe_dnewN P w))
      (yss_cons (ys_ps fun _ _ => ps_set (i := 7) gcPreds.nd rfl (.inl rfl) pe_dnewC)
      (yss_one (ys_for (fun _ _ => pi_range1 rfl mr (pa_cons (pe_op op_mul (pv 3) (pe_callB (call_lenK K) (by rfl) ml PySem.boot_len (pa_cons (pv 0) pa_nil))) pa_nil)) (fun _ _ => pg_name (i := 8) gcPreds.nd rfl (.inl rfl))
        (yss_cons (ys_ps fun _ _ => ps_asg (pe_ix (ix_tupK K) (pv 0) (pe_op op_mod (pv 8) (pe_callB (call_lenK K) (by rfl) ml PySem.boot_len (pa_cons (pv 0) pa_nil))) (fun _ _ => rfl)) (pg_tupK (n := 2) K (by rfl) (pgs_cons (pg_name (i := 9) gcPreds.nd rfl (.inl rfl)) (pgs_cons (pg_name (i := 10) gcPreds.nd rfl (.inl rfl)) pgs_nil))))
        (yss_cons (ys_ps fun _ _ => ps_set (i := 11) gcPreds.nd rfl (.inl rfl) (pe_d DO hr (by decide) (by rfl) (pa_cons (pv 1) (pa_cons (pv 9) pa_nil))))
        (yss_cons (ys_ps fun _ _ => ps_set (i := 12) gcPreds.nd rfl (.inl rfl) (pe_ngetP P w (pv 6) (pv 11) (pe_op op_mulS pe_str (pe_ix (ix_tupK K) (pv 1) pe_int (fun _ _ => rfl))) ⟨by rfl, by rfl, by rfl, by rfl⟩))
        (yss_cons (ys_ps fun _ _ => ps_set (i := 13) gcPreds.nd rfl (.inl rfl) (pe_d DC hr (by decide) (by rfl) (pa_cons (pv 1) (pa_cons (pv 9) (pa_cons (pv 12) pa_nil)))))
        (yss_cons (ys_ps fun _ _ => ps_set (i := 14) gcPreds.nd rfl (.inl rfl) (pe_dget2 hu (pv 7) (pv 13) (pv 5) ⟨by rfl, by rfl, by rfl, by rfl⟩))
        (yss_cons (ys_yield fun _ _ => pe_tup (pa_cons (pv 9) (pa_cons (pe_d DPr hr (by decide) (by rfl) (pa_cons (pv 4) (pa_cons (pv 14) pa_nil))) (pa_cons (pv 10) pa_nil))))
        (yss_cons (ys_ps fun _ _ => ps_asg (pe_d DA hr (by decide) (by rfl) (pa_cons (pv 4) (pa_cons (pv 14) (pa_cons (pv 10) pa_nil)))) (pg_sub (pv 7) (pv 13) (set_dict hu)))
        (yss_one (ys_ps fun _ _ => ps_asg (pe_d DPu hr (by decide) (by rfl) (pa_cons (pv 12) (pa_cons (pv 10) pa_nil))) (pg_sub (pv 6) (pv 11) (set_dN P w))))))))))))))), ?_⟩
    obtain ⟨xst, sqt, hAt, lt⟩ := PairsAt.out hl
    refine ⟨.ref g, rfl, g, _, rfl, hg, rfl, _, _, rfl, _, _, rfl, rfl, ?_⟩
    refine fun hd nhd => go_name ?_
    have s1 : Same H (upd H hd (dN P w hd [])) := same_new nhd
    have hd1 : (upd H hd (dN P w hd [])) hd = some (dN P w hd []) := upd_same
    refine new_cells (k := k) fun vd nvd H2 ke vd2 => go_name ?_
    have s2 : Same (upd H hd (dN P w hd [])) H2 := fun b o e => by rw [ke b (ne_of_none e nvd)]; exact e
    have s12 := s1.trans s2
    have hd2 := s2 _ _ hd1
    have nvh : vd ≠ hd := (ne_of_none hd1 nvd).symm
    have nvH : H vd = none := by
      cases e : H vd with
      | none => rfl
      | some o => rw [s1 _ _ e] at nvd; cases nvd
    have eM : (r : Int) * (xst.length : Nat) = ((r * l.length : Nat) : Int) := by rw [lt, Int.natCast_mul]
    have few : r * l.length ≤ 1000 * 64 := Nat.mul_le_mul r1 l64
    refine ⟨.int (r : Int), rfl, .ref t, rfl, t, _, rfl, .inr (Same.seqT s12 sqt), _, _, rfl, rfl, .inl ⟨by omega, by omega⟩, _, rfl, by omega, by omega, ?_⟩
    rw [eM]
    have nhH : ∀ {b : Addr} {o : HO}, H b = some o → b ≠ hd ∧ b ≠ vd := fun {b o} e => ⟨ne_of_none e nhd, ne_of_none e nvH⟩
    refine for_rangeY (lo := 0) (n := ((r * l.length : Nat) : Int).toNat)
      (fun i m γ σ H' => (∃ y8 y9 y10 y11 y12 y13 y14, σ = [some (.ref t), some (.ref c), some (.ref g), some (.int (r : Int)), some (.int wd), some (.int v0), some (.ref hd), some (.ref vd), y8, y9, y10, y11, y12, y13, y14]) ∧ Keep K H H' ∧
        (∃ kvs, H' hd = some (dN P w hd kvs) ∧ kvs.length ≤ i ∧ ∀ o, (valV kvs o).getD (.str (txt (List.replicate z.toNat false))) = .str (txt (hM l k z.toNat i o))) ∧ VD H' vd k (fun q => (vM l k x z.toNat wd v0 i q).map V.int) i ∧ J i γ H' ∧ m + i = r * l.length)
      ⟨⟨_, _, _, _, _, _, _, rfl⟩, Same.keep s12, ⟨[], hd2, Nat.le_refl _, fun o => rfl⟩, vd2, mono _ _ _ _ j0 (fun b o' o _ e => s12 _ _ e) (Same.keep s12), by omega⟩ (fun i m γ σ H4 hi hp => ?_) (fun m γ σ H4 hp => ?_)
    · obtain ⟨⟨y8, y9, y10, y11, y12, y13, y14, rfl⟩, kp, ⟨kvs, hh, hkl, hhv⟩, hv, jj, cnt⟩ := hp
      have hil : i < r * l.length := by omega
      generalize hw : (0 : Int) + (i : Nat) = u
      obtain rfl : u = ((i : Nat) : Int) := by omega
      have sq4 := kp _ _ sqt
      have hA4 := pairs_keep hAt kp
      have hc4 := kp _ _ hc
      have lpos : (0 : Int) < (xst.length : Nat) := by omega
      have hpm : i % l.length < l.length := Nat.mod_lt _ (by omega)
      have gx : xst[i % l.length]? = some (xst[i % l.length]'(by omega)) := List.getElem?_eq_getElem (by omega)
      obtain ⟨y, ya, hy, ey, sa⟩ := pd_at hA4 gx
      have eyl : y = l.getD (i % l.length) (0, 0) := Option.some.inj (hy.symm.trans (at_mod l1 i))
      have e1 : y.1 = brAt l i := by rw [eyl]; rfl
      have e2 : y.2 = outM l i := by rw [eyl]; rfl
      have gat : atI xst (((i : Nat) : Int) % (xst.length : Nat)) = some (.ref ya) := by
        rw [lt, show (((i : Nat) : Int) % ((l.length : Nat) : Int)) = ((i % l.length : Nat) : Int) from rfl, atI_nat gx, ey]
      rw [e1, e2] at sa
      refine ⟨.ref t, rfl, .int ((i : Nat) : Int), rfl, .ref t, rfl, t, xst, rfl, .inr sq4, _, _, rfl, rfl, lpos, t, xst, _, .ref ya, rfl, rfl, sq4, gat, ya, _, rfl, sa, rfl, _, _, rfl, _, _, rfl, rfl, ?_⟩
      refine ⟨.ref c, rfl, .int (brAt l i), rfl, c, k, z, x, brAt l i, rfl, hc4, go_name ?_⟩
      have bigL : 1000 * 64 < sizeLine := by decide
      have z0 := ok.1
      have z64 := ok.2.1
      have ez : ((z.toNat : Nat) : Int) = z := Int.toNat_of_nonneg z0
      have e0 : ("0" : Str) = Gk.txt [false] := by decide +kernel
      have em : Txt.mul "0" z = txt (List.replicate z.toNat false) := by
        rw [e0, ← ez, Gk.txt_mul, Int.toNat_natCast, txt_gk]
        congr 1
        generalize z.toNat = n
        induction n with
        | zero => rfl
        | succ n ih => rw [List.replicate_succ, List.replicate_succ, List.flatten_cons, ih]; rfl
      have mo : MulOk "0" z := by
        rw [e0, ← ez]
        exact Gk.mulOk_txt (by decide) (by omega)
      refine ⟨.ref hd, rfl, hd, rfl, ⟨kvs, hh⟩, oKey (ownO k (brAt l i)), rfl, .ref c, rfl, c, _, 1, .int z, rfl, rfl, hc4, planV1 _ _ _, _, _, rfl, rfl, mo, kvs, ownO k (brAt l i), hh, rfl, go_name ?_⟩
      rw [em, hhv]
      have hb := brAt_small fair l1 i
      have hbit := outM_bit fair l1 i
      have lenh : (hM l k z.toNat i (ownO k (brAt l i))).length = z.toNat := hM_len _ _ _ _ _
      have eb : (((brAt l i).toNat : Nat) : Int) = brAt l i := Int.toNat_of_nonneg hb.1
      refine ⟨.ref c, rfl, .int (brAt l i), rfl, .str _, rfl, c, k, z, x, (brAt l i).toNat, hM l k z.toNat i (ownO k (brAt l i)), by rw [eb]; rfl, hc4, ok, by omega, by omega, fun H5 cv s5 ck => go_name ?_⟩
      have hv5 := hv.same (s5 vd)
      refine ⟨.ref vd, rfl, vd, rfl, hv5.isD, cv, rfl, .int v0, rfl, _, hv5.get ck, go_name ?_⟩
      rw [getD_int]
      have hval := valM_in (l := l) (k := k) (x := x) (L := z.toNat) w1 v1 v2 i
      obtain ⟨m', rfl⟩ : ∃ m', m = m' + 1 := ⟨m - 1, by omega⟩
      refine ⟨m', rfl, .int (brAt l i), rfl, .int wd, rfl, .int (valM l k x z.toNat wd v0 i), rfl, wd, valM l k x z.toNat wd v0 i, rfl, w1, w64, .int (outM l i), rfl, by show 3 ≤ sizeLine; decide, fun T nT => ?_⟩
      have sT : Same H5 (upd H5 T (.tup [.int (brAt l i), .int (prd wd (valM l k x z.toNat wd v0 i)), .int (outM l i)])) := same_new nT
      have s4T := s5.trans sT
      refine step i γ _ T _ hil (mono _ _ _ _ jj (fun b o' o _ e => s4T _ _ e) (Same.keep s4T)) (.inl (.inl upd_same)) fun γ' H6 j6 kpt tk6 kp6 => ?_
      have hv6 : VD H6 vd k (fun q => (vM l k x z.toNat wd v0 i q).map V.int) i := hv.same fun o e => kpt _ _ nvH (s4T _ _ e)
      have hh6 : H6 hd = some (dN P w hd kvs) := kpt _ _ nhd (s4T _ _ hh)
      have ck6 : Ck K H6 cv (cellD k x (brAt l i).toNat (hM l k z.toNat i (ownO k (brAt l i)))) := by
        refine ⟨Dp.keep ((Same.keep sT).trans kp6) _ _ ?_ ck.1, ck.2.same fun b ts e => tk6 _ _ (sT _ _ e)⟩
        unfold cellD
        split
        · rfl
        · split <;> rfl
      obtain ⟨H7, put7, vd7, ne7⟩ := hv6.put (y := .int (aft wd (valM l k x z.toNat wd v0 i) (outM l i))) ck6 (by omega)
      refine ⟨.int wd, rfl, .int (valM l k x z.toNat wd v0 i), rfl, .int (outM l i), rfl, wd, valM l k x z.toNat wd v0 i, outM l i, rfl, w1, w64, .ref vd, rfl, cv, rfl, vd, H7, rfl, put7, ?_⟩
      have hh7 : H7 hd = some (dN P w hd kvs) := by rw [ne7 hd (Ne.symm nvh)]; exact hh6
      refine ⟨.str _, rfl, .int (outM l i), rfl, _, outM l i, rfl, hbit, by omega, .ref hd, rfl, oKey (ownO k (brAt l i)), rfl, hd, kvs, ownO k (brAt l i), rfl, rfl, hh7, by omega, ?_⟩
      generalize hN : dN P w hd (putK kvs (ownO k (brAt l i)) (.str (txt ((hM l k z.toNat i (ownO k (brAt l i)) ++ [decide (outM l i = 1)]).drop 1)))) = ob
      have ne8 : ∀ b, b ≠ hd → (upd H7 hd ob) b = H7 b := fun b nb => upd_ne nb
      refine ⟨⟨_, _, _, _, _, _, _, rfl⟩, (((kp.trans (Same.keep s4T)).trans kp6).trans (hv6.keep ne7)).trans (keep_but hh7 (fun ts z => by cases z) (fun _ _ z => by cases z) ne8), ⟨_, by rw [← hN]; exact upd_same, ?_, fun o => ?_⟩, ?_, mono _ _ _ _ j6 (fun b o' o e e6 => ?_) ((hv6.keep ne7).trans (keep_but hh7 (fun ts z => by cases z) (fun _ _ z => by cases z) ne8)), by omega⟩
      · have := length_putK kvs (ownO k (brAt l i)) (.str (txt ((hM l k z.toNat i (ownO k (brAt l i)) ++ [decide (outM l i = 1)]).drop 1)))
        omega
      · rw [valV_put, hM]
        by_cases eo : o = ownO k (brAt l i)
        · rw [if_pos eo, if_pos eo, eo]
          rfl
        · rw [if_neg eo, if_neg eo]
          exact hhv o
      · have ef : (fun q => (vM l k x z.toNat wd v0 (i + 1) q).map V.int) = fun q => if q = cK k x (brAt l i).toNat (hM l k z.toNat i (ownO k (brAt l i))) then some (.int (aft wd (valM l k x z.toNat wd v0 i) (outM l i))) else (vM l k x z.toNat wd v0 i q).map V.int := by
          funext q
          rw [vM]
          by_cases eq : q = cM l k x z.toNat i
          · rw [if_pos eq, if_pos (show q = cK k x (brAt l i).toNat (hM l k z.toNat i (ownO k (brAt l i))) from eq), eq]
            rfl
          · rw [if_neg eq, if_neg (show ¬ q = cK k x (brAt l i).toNat (hM l k z.toNat i (ownO k (brAt l i))) from eq)]
        rw [ef]
        exact vd7.same fun o e => by rw [ne8 vd nvh]; exact e
      · rw [ne8 b (nhH e).1, ne7 b (nhH e).2]
        exact e6
    · obtain ⟨_, _, _, _, jj, _⟩ := hp
      rw [Int.toNat_natCast] at jj
      exact fin _ _ jj
end
end Pf
namespace Pf
open PySem PySem.Spec PyProof.Rows L2 Gk Fold
abbrev sWrong : Stmt := topS 14
abbrev nWrong : List Str := ["trace", "scheme", "counter", "rounds", "told", "moment", "branch", "prediction", "outcome"]
theorem scWrong : FnScope nWrong ["trace", "scheme", "counter", "rounds"] (defScope sWrong) := ⟨rfl, rfl, rfl, by decide +kernel, rfl, by decide +kernel, by decide +kernel⟩
/-- the moments of the errors among the first M -/
def wrongM (l : List (Int × Int)) (k : Str) (x : Option Int) (L : Nat) (w v0 : Int) (M : Nat) : List Nat := (List.range M).filter fun m => !decide (pM l k x L w v0 m = outM l m)
theorem wrongM_succ (l : List (Int × Int)) (k : Str) (x : Option Int) (L : Nat) (w v0 : Int) (M : Nat) : wrongM l k x L w v0 (M + 1) = wrongM l k x L w v0 M ++ if pM l k x L w v0 M = outM l M then [] else [M] := by
  unfold wrongM
  rw [List.range_succ, List.filter_append]
  by_cases c : pM l k x L w v0 M = outM l M
  · simp [c]
  · simp [c]
theorem wrongM_len (l : List (Int × Int)) (k : Str) (x : Option Int) (L : Nat) (w v0 : Int) (M : Nat) : (wrongM l k x L w v0 M).length ≤ M := by
  have := List.length_filter_le (fun m => !decide (pM l k x L w v0 m = outM l m)) (List.range M)
  rw [List.length_range] at this
  exact this
section
variable {P : Program} {w : World} {K : PySem.W.Frag} {mg : Str → Option Value} {base : Heap}
def spWrong (K : PySem.W.Frag) : Sp := fun vs H Q _ => ∃ (t c g : Addr) (l : List (Int × Int)) (k : Str) (z : Int) (x : Option Int) (w v0 : Int) (r : Nat), vs = [.ref t, .ref c, .ref g, .int (r : Int)] ∧ PairsAt K H t l ∧ Fair l ∧ 1 ≤ l.length ∧ l.length ≤ 64 ∧ SqT K H c (planV k z x) ∧ PlanOk k z x ∧
  SqT K H g [.int w, .int v0] ∧ 1 ≤ w ∧ w ≤ 64 ∧ 0 ≤ v0 ∧ v0 ≤ top w ∧ r ≤ 1000 ∧ ∀ H' p, Same H H' → H p = none → H' p = some (.lst ((wrongM l k x z.toNat w v0 (r * l.length)).map fun m : Nat => V.int (m : Int))) → Q (.ref p) H'
theorem ok_wrong {f : Addr} {fd : FuncData} (DY : Dgy P w K mg base 5 "predictions" ["trace", "scheme", "counter", "rounds"] (spPredsY K)) (me : mg "enumerate" = none) (F : L2.Fun K "wrong_moments" "wrong_moments" sWrong f fd) : FnOk P w K mg base L2.CX0 10 f fd ["trace", "scheme", "counter", "rounds"] (spWrong K) := by
  refine F.ok scWrong (fun vs H Q E h => ?_) (fun cdv A outer s H vs Q E hr h => ?_)
  · obtain ⟨t, c, g, l, k, z, x, w, v0, r, rfl, _⟩ := h
    rfl
  · obtain ⟨t, c, g, l, k, z, x, wd, v0, r, rfl, hl, fair, l1, l64, hc, ok, hg, w1, w64, v1, v2, r1, q⟩ := h
    refine ⟨_, pss_cons (ps_set (i := 4) scWrong.nd rfl (.inl rfl) (pe_lst pa_nil))
      (pss_cons (ps_forYED DY hr (by rfl) (by rfl) me (pa_cons (pv 0) (pa_cons (pv 1) (pa_cons (pv 2) (pa_cons (pv 3) pa_nil)))) PassesOwn.never rfl
          (pgg_tup (n := 2) (by rfl) (pgsg_cons (pgg_name (i := 5) scWrong.nd rfl rfl) (pgsg_cons (pgg_tup (n := 3) (by rfl) (pgsg_cons (pgg_name (i := 6) scWrong.nd rfl rfl) (pgsg_cons (pgg_name (i := 7) scWrong.nd rfl rfl) (pgsg_cons (pgg_name (i := 8) scWrong.nd rfl rfl) pgsg_nil)))) pgsg_nil)))
        (pssg_cons (psg_if (ptg_ne (peg_var (i := 7) rfl rfl) (peg_var (i := 8) rfl rfl) (by rfl)) (pssg_cons (psg_append (peg_var (i := 4) rfl rfl) (peg_var (i := 5) rfl rfl)) pssg_nil) pssg_nil) pssg_nil))
      (pss_one (ps_ret (pv 4)))), ?_⟩
    refine ⟨Nat.zero_le _, fun D nD => go_name ?_⟩
    have s1 : Same H (upd H D (.lst [])) := same_new nD
    have few : r * l.length ≤ 1000 * 64 := Nat.mul_le_mul r1 l64
    refine ⟨.ref t, rfl, .ref c, rfl, .ref g, rfl, .int (r : Int), rfl, r * l.length, t, c, g, l, k, z, x, wd, v0, r, fun i γ H1 => (∃ y5 y6 y7 y8, γ = some (.int (i : Int)) :: [some (.ref t), some (.ref c), some (.ref g), some (.int (r : Int)), some (.ref D), y5, y6, y7, y8]) ∧ (∀ b o, b ≠ D → H b = some o → H1 b = some o) ∧
      H1 D = some (.lst ((wrongM l k x z.toNat wd v0 i).map fun m : Nat => V.int (m : Int))), rfl, hl.keep (Same.keep s1), fair, l1, l64, Same.seqT s1 hc, ok, Same.seqT s1 hg, w1, w64, v1, v2, r1, rfl, ?_, ?_, ?_, ?_⟩
    · exact ⟨⟨_, _, _, _, rfl⟩, fun b o _ h => s1 _ _ h, upd_same⟩
    · rintro i γ H1 H2 ⟨e, old, hD⟩ sm _
      exact ⟨e, fun b o nb h => sm b _ o (s1 _ _ h) (old b o nb h), sm D _ _ upd_same hD⟩
    · rintro i γ H1 T kk hi ⟨⟨y5, y6, y7, y8, rfl⟩, old, hD⟩ hT hk
      refine ⟨i, rfl, fun T2 nT2 => ?_⟩
      have s2 : Same H1 (upd H1 T2 (.tup [.int (i : Int), .ref T])) := same_new nT2
      have hT2 : SqT K (upd H1 T2 (.tup [.int (i : Int), .ref T])) T2 [.int (i : Int), .ref T] := .inl (.inl upd_same)
      have hT' := Same.seqT s2 hT
      have hD2 := s2 _ _ hD
      generalize upd H1 T2 (.tup [.int (i : Int), .ref T]) = H2 at s2 hT2 hT' hD2
      have bigL : 1000 * 64 < sizeLine := by decide
      have wl := wrongM_len l k x z.toNat wd v0 i
      refine ⟨T2, _, rfl, hT2, rfl, _, _, rfl, _, _, rfl, T, _, rfl, hT', rfl, _, _, rfl, _, _, rfl, _, _, rfl, rfl, rfl, ?_⟩
      refine ⟨.int (pM l k x z.toNat wd v0 i), rfl, .int (outM l i), rfl, _, _, rfl, rfl, ite2 (fun e => ?_) (fun e => ?_)⟩
      · have ne : pM l k x z.toNat wd v0 i ≠ outM l i := fun z => by rw [z] at e; simp at e
        refine ⟨.ref D, rfl, D, _, rfl, hD2, .int (i : Int), rfl, _, hD2, by rw [List.length_map]; omega, ?_⟩
        refine hk _ _ ⟨⟨_, _, _, _, rfl⟩, fun b o nb h => ?_, ?_⟩ (fun b o n h => ?_) (fun b ts h => ?_) ((Same.keep s2).trans (keep_wr hD2))
        · rw [upd_ne nb]
          exact s2 _ _ (old b o nb h)
        · rw [upd_same, wrongM_succ, if_neg ne, List.map_append]
          rfl
        · rw [upd_ne (fun z => by rw [z, upd_same] at n; cases n)]
          exact s2 _ _ h
        · rw [upd_ne (fun z => by rw [z, hD] at h; cases h)]
          exact s2 _ _ h
      · have eq : pM l k x z.toNat wd v0 i = outM l i := by
          cases Int.decEq (pM l k x z.toNat wd v0 i) (outM l i) with
          | isTrue h => exact h
          | isFalse h => exact absurd (bne_iff_ne.mpr h) e
        refine hk _ _ ⟨⟨_, _, _, _, rfl⟩, fun b o nb h => s2 _ _ (old b o nb h), ?_⟩ (fun b o n h => s2 _ _ h) (fun b ts h => s2 _ _ h) (Same.keep s2)
        rw [wrongM_succ, if_pos eq, List.append_nil]
        exact hD2
    · rintro γ H1 ⟨⟨y5, y6, y7, y8, rfl⟩, old, hD⟩
      exact ⟨.ref D, rfl, q _ D (fun b o h => old b o (ne_of_none h nD) h) nD hD⟩
end
end Pf
namespace Pf
open PySem PySem.Spec PyProof.Rows L2 Gk Fold
/-! ### late rounds: histories stand, then the values of cells, then the predictions -/
theorem brAt_per (l : List (Int × Int)) (m : Nat) : brAt l (m + l.length) = brAt l m := by
  unfold brAt
  rw [Nat.add_mod_right]
theorem outM_per (l : List (Int × Int)) (m : Nat) : outM l (m + l.length) = outM l m := by
  unfold outM
  rw [Nat.add_mod_right]
theorem brAt_at {l : List (Int × Int)} (m : Nat) : brAt l (m % l.length) = brAt l m := by
  unfold brAt
  rw [Nat.mod_mod]
theorem hM_push {l : List (Int × Int)} {k : Str} {L m : Nat} {o : Option Int} (h : o = ownO k (brAt l m)) : hM l k L (m + 1) o = (hM l k L m o ++ [decide (outM l m = 1)]).drop 1 := by
  rw [hM, if_pos h]
theorem hM_stay {l : List (Int × Int)} {k : Str} {L m : Nat} {o : Option Int} (h : ¬ o = ownO k (brAt l m)) : hM l k L (m + 1) o = hM l k L m o := by
  rw [hM, if_neg h]
theorem drop_push {h : List Bool} {b : Bool} {L d : Nat} (hl : h.length = L) (hd : d + 1 ≤ L) : ((h ++ [b]).drop 1).drop (L - (d + 1)) = h.drop (L - d) ++ [b] := by
  rw [List.drop_drop, show 1 + (L - (d + 1)) = L - d by omega, List.drop_append_of_le_length (by omega)]
theorem seen_in {l : List (Int × Int)} {k : Str} {o : Option Int} (h1 : 1 ≤ l.length) {j m : Nat} (hj : o = ownO k (brAt l j)) (hm : l.length ≤ m) : ∃ q, q < m ∧ m ≤ q + l.length ∧ o = ownO k (brAt l q) := by
  have hr : j % l.length < l.length := Nat.mod_lt _ h1
  refine ⟨l.length * ((m - 1 - j % l.length) / l.length) + j % l.length, ?_, ?_, ?_⟩
  · have := Nat.mul_div_le (m - 1 - j % l.length) l.length
    omega
  · have := Nat.lt_mul_div_succ (m - 1 - j % l.length) h1
    rw [Nat.mul_add] at this
    omega
  · rw [hj, ← brAt_at (l := l) (l.length * _ + _), Nat.mul_add_mod, Nat.mod_mod, brAt_at]
theorem hist_same {l : List (Int × Int)} {k : Str} {L : Nat} (h1 : 1 ≤ l.length) : ∀ d, d ≤ L → ∀ m, d * l.length ≤ m → ∀ o j, o = ownO k (brAt l j) → (hM l k L m o).drop (L - d) = (hM l k L (m + l.length) o).drop (L - d)
  | 0, _ => fun m _ o j _ => by
    rw [List.drop_eq_nil_of_le (by rw [hM_len]; omega), List.drop_eq_nil_of_le (by rw [hM_len]; omega)]
  | d + 1, hd => fun m hm o j hj => by
    have ih := hist_same (l := l) (k := k) (L := L) h1 d (by omega)
    rw [Nat.succ_mul] at hm
    have push : ∀ q, d * l.length ≤ q → o = ownO k (brAt l q) → (hM l k L (q + 1) o).drop (L - (d + 1)) = (hM l k L (q + 1 + l.length) o).drop (L - (d + 1)) := fun q hq e => by
      have e2 : o = ownO k (brAt l (q + l.length)) := by rw [brAt_per]; exact e
      rw [hM_push e, show q + 1 + l.length = q + l.length + 1 by omega, hM_push e2, outM_per, drop_push (hM_len _ _ _ _ _) hd, drop_push (hM_len _ _ _ _ _) hd, ih q hq o j hj]
    obtain ⟨q, q1, q2, q3⟩ := seen_in h1 hj (show l.length ≤ m by omega)
    have on : ∀ i, (hM l k L (q + 1 + i) o).drop (L - (d + 1)) = (hM l k L (q + 1 + i + l.length) o).drop (L - (d + 1)) := fun i => by
      induction i with
      | zero => exact push q (by omega) q3
      | succ i hi =>
        by_cases c : o = ownO k (brAt l (q + 1 + i))
        · exact push (q + 1 + i) (by omega) c
        · have c2 : ¬ o = ownO k (brAt l (q + 1 + i + l.length)) := by rw [brAt_per]; exact c
          rw [show q + 1 + (i + 1) = q + 1 + i + 1 by omega, hM_stay c, show q + 1 + i + 1 + l.length = q + 1 + i + l.length + 1 by omega, hM_stay c2]
          exact hi
    have := on (m - (q + 1))
    rwa [show q + 1 + (m - (q + 1)) = m by omega] at this
theorem cM_per {l : List (Int × Int)} {k : Str} {x : Option Int} {L m : Nat} (h1 : 1 ≤ l.length) (hm : L * l.length ≤ m) : cM l k x L (m + l.length) = cM l k x L m := by
  have := hist_same (l := l) (k := k) (L := L) h1 L (Nat.le_refl _) m hm (ownO k (brAt l m)) m rfl
  rw [Nat.sub_self, List.drop_zero, List.drop_zero] at this
  unfold cM hAtM
  rw [brAt_per, ← this]
/-- the value of a cell -/
def uM (l : List (Int × Int)) (k : Str) (x : Option Int) (L : Nat) (w v0 : Int) (m : Nat) (c : CK) : Int := (vM l k x L w v0 m c).getD v0
theorem uM_succ (l : List (Int × Int)) (k : Str) (x : Option Int) (L : Nat) (w v0 : Int) (m : Nat) (c : CK) : uM l k x L w v0 (m + 1) c = if c = cM l k x L m then aft w (uM l k x L w v0 m c) (outM l m) else uM l k x L w v0 m c := by
  unfold uM
  rw [vM]
  split <;> rfl
theorem valM_u (l : List (Int × Int)) (k : Str) (x : Option Int) (L : Nat) (w v0 : Int) (m : Nat) : valM l k x L w v0 m = uM l k x L w v0 m (cM l k x L m) := rfl
/-- what i moments from m on make of the value of a cell -/
def gM (l : List (Int × Int)) (k : Str) (x : Option Int) (L : Nat) (w : Int) (c : CK) (m : Nat) : Nat → Int → Int
  | 0, v => v
  | i + 1, v => if c = cM l k x L (m + i) then aft w (gM l k x L w c m i v) (outM l (m + i)) else gM l k x L w c m i v
theorem uM_g (l : List (Int × Int)) (k : Str) (x : Option Int) (L : Nat) (w v0 : Int) (m : Nat) (c : CK) : ∀ i, uM l k x L w v0 (m + i) c = gM l k x L w c m i (uM l k x L w v0 m c)
  | 0 => rfl
  | i + 1 => by
    rw [show m + (i + 1) = m + i + 1 by omega, uM_succ, uM_g l k x L w v0 m c i, gM]
theorem gM_per {l : List (Int × Int)} {k : Str} {x : Option Int} {L m : Nat} {w : Int} {c : CK} (h1 : 1 ≤ l.length) (hm : L * l.length ≤ m) : ∀ i v, gM l k x L w c (m + l.length) i v = gM l k x L w c m i v
  | 0, _ => rfl
  | i + 1, v => by
    rw [gM, gM, gM_per h1 hm i v, show m + l.length + i = m + i + l.length by omega, cM_per h1 (by omega), outM_per]
theorem gM_pers {l : List (Int × Int)} {k : Str} {x : Option Int} {L m : Nat} {w : Int} {c : CK} (h1 : 1 ≤ l.length) (hm : L * l.length ≤ m) (i : Nat) (v : Int) : ∀ t, gM l k x L w c (m + t * l.length) i v = gM l k x L w c m i v
  | 0 => by rw [Nat.zero_mul, Nat.add_zero]
  | t + 1 => by
    rw [Nat.succ_mul, ← Nat.add_assoc, gM_per h1 (by omega), gM_pers h1 hm i v t]
theorem aft_mono' {n v u : Int} (o : Int) (h : v ≤ u) : aft n v o ≤ aft n u o := by
  unfold aft
  repeat' split
  all_goals omega
theorem gM_mono {l : List (Int × Int)} {k : Str} {x : Option Int} {L m : Nat} {w : Int} {c : CK} : ∀ i v u, v ≤ u → gM l k x L w c m i v ≤ gM l k x L w c m i u
  | 0, _, _, h => h
  | i + 1, v, u, h => by
    rw [gM, gM]
    split
    · exact aft_mono' _ (gM_mono i v u h)
    · exact gM_mono i v u h
/-- a rising map within bounds stands after so many steps -/
theorem chain {f : Int → Int} (mono : ∀ v u, v ≤ u → f v ≤ f u) {a : Nat → Int} (st : ∀ t, a (t + 1) = f (a t)) {T : Int} (lo : ∀ t, 0 ≤ a t) (hi : ∀ t, a t ≤ T) : a (T.toNat + 1) = a T.toNat := by
  have stay : ∀ t, a (t + 1) = a t → ∀ j, a (t + j + 1) = a (t + j) := fun t e j => by
    induction j with
    | zero => exact e
    | succ j ih => rw [show t + (j + 1) = t + j + 1 by omega, st (t + j + 1), ih, ← st]; exact ih
  rcases Int.le_total (a 0) (a 1) with d | d
  · have up : ∀ t, a t ≤ a (t + 1) := fun t => by
      induction t with
      | zero => exact d
      | succ t ih =>
        have := mono _ _ ih
        rw [← st, ← st] at this
        exact this
    by_cases c : a (T.toNat + 1) = a T.toNat
    · exact c
    · have far : ∀ t, t ≤ T.toNat + 1 → a 0 + (t : Int) ≤ a t := fun t => by
        induction t with
        | zero => intro _; omega
        | succ t ih =>
          intro ht
          have := ih (by omega)
          have u := up t
          have ne : a (t + 1) ≠ a t := fun e => c (by
            have := stay t e (T.toNat - t)
            rwa [show t + (T.toNat - t) = T.toNat by omega] at this)
          omega
      have h1 := far (T.toNat + 1) (Nat.le_refl _)
      have h2 := hi (T.toNat + 1)
      have h3 := lo 0
      have h4 := hi 0
      omega
  · have dn : ∀ t, a (t + 1) ≤ a t := fun t => by
      induction t with
      | zero => exact d
      | succ t ih =>
        have := mono _ _ ih
        rw [← st, ← st] at this
        exact this
    by_cases c : a (T.toNat + 1) = a T.toNat
    · exact c
    · have far : ∀ t, t ≤ T.toNat + 1 → a t + (t : Int) ≤ a 0 := fun t => by
        induction t with
        | zero => intro _; omega
        | succ t ih =>
          intro ht
          have := ih (by omega)
          have u := dn t
          have ne : a (t + 1) ≠ a t := fun e => c (by
            have := stay t e (T.toNat - t)
            rwa [show t + (T.toNat - t) = T.toNat by omega] at this)
          omega
      have h1 := far (T.toNat + 1) (Nat.le_refl _)
      have h2 := hi 0
      have h3 := lo (T.toNat + 1)
      have h4 := lo 0
      omega
theorem uM_late {l : List (Int × Int)} {k : Str} {x : Option Int} {L : Nat} {w v0 : Int} (hl : 1 ≤ l.length) (hw : 1 ≤ w) (h0 : 0 ≤ v0) (h1 : v0 ≤ top w) (c : CK) : ∀ j, uM l k x L w v0 ((L + (top w).toNat + j) * l.length) c = uM l k x L w v0 ((L + (top w).toNat) * l.length) c := by
  have inn := fun m => vM_in (l := l) (k := k) (x := x) (L := L) hw h0 h1 m c
  have st : ∀ t, uM l k x L w v0 ((L + (t + 1)) * l.length) c = gM l k x L w c (L * l.length) l.length (uM l k x L w v0 ((L + t) * l.length) c) := fun t => by
    rw [← gM_pers hl (Nat.le_refl _) l.length _ t, ← Nat.add_mul, ← uM_g]
    congr 1
    rw [← Nat.succ_mul]
    rfl
  have e := chain (f := gM l k x L w c (L * l.length) l.length) (a := fun t => uM l k x L w v0 ((L + t) * l.length) c) (gM_mono _) st (T := top w) (fun t => (inn _).1) (fun t => (inn _).2)
  intro j
  induction j with
  | zero => rfl
  | succ j ih =>
    have s1 := st ((top w).toNat + j)
    rw [show L + ((top w).toNat + j + 1) = L + (top w).toNat + (j + 1) by omega, show L + ((top w).toNat + j) = L + (top w).toNat + j by omega, ih] at s1
    rw [s1]
    have s2 := st (top w).toNat
    have e : uM l k x L w v0 ((L + ((top w).toNat + 1)) * l.length) c = uM l k x L w v0 ((L + (top w).toNat) * l.length) c := e
    rw [← s2, e]
theorem pM_per {l : List (Int × Int)} {k : Str} {x : Option Int} {L : Nat} {w v0 : Int} (hl : 1 ≤ l.length) (hw : 1 ≤ w) (h0 : 0 ≤ v0) (h1 : v0 ≤ top w) {m : Nat} (hm : (L + (top w).toNat) * l.length ≤ m) : pM l k x L w v0 (m + l.length) = pM l k x L w v0 m := by
  have hL : L * l.length ≤ m := Nat.le_trans (Nat.mul_le_mul_right _ (by omega)) hm
  have split : m = (m / l.length) * l.length + m % l.length := by
    rw [Nat.mul_comm]
    exact (Nat.div_add_mod m l.length).symm
  have hr : L + (top w).toNat ≤ m / l.length := (Nat.le_div_iff_mul_le hl).mpr hm
  obtain ⟨j, ej⟩ : ∃ j, m / l.length = L + (top w).toNat + j := ⟨m / l.length - (L + (top w).toNat), by omega⟩
  have same : ∀ c, uM l k x L w v0 (m + l.length) c = uM l k x L w v0 m c := fun c => by
    have a1 := uM_g l k x L w v0 ((m / l.length) * l.length) c (m % l.length)
    have a2 := uM_g l k x L w v0 ((m / l.length) * l.length + l.length) c (m % l.length)
    have hb : L * l.length ≤ (m / l.length) * l.length := Nat.mul_le_mul_right _ (by omega)
    rw [← split] at a1
    rw [show m / l.length * l.length + l.length + m % l.length = m + l.length by omega, gM_per hl hb, ← Nat.succ_mul, ej, show (L + (top w).toNat + j).succ = L + (top w).toNat + (j + 1) from rfl, uM_late hl hw h0 h1] at a2
    rw [ej, uM_late hl hw h0 h1] at a1
    rw [a1, a2]
  unfold pM
  rw [valM_u, valM_u, cM_per hl hL, same]
/-! ### errors round by round -/
def wrongAt (l : List (Int × Int)) (k : Str) (x : Option Int) (L : Nat) (w v0 : Int) (m : Nat) : Prop := pM l k x L w v0 m ≠ outM l m
instance (l : List (Int × Int)) (k : Str) (x : Option Int) (L : Nat) (w v0 : Int) (m : Nat) : Decidable (wrongAt l k x L w v0 m) := inferInstanceAs (Decidable (_ ≠ _))
/-- the errors of the round j among the first moments -/
def cR (l : List (Int × Int)) (k : Str) (x : Option Int) (L : Nat) (w v0 : Int) (j : Nat) : Nat → Nat
  | 0 => 0
  | m + 1 => cR l k x L w v0 j m + if m / l.length = j ∧ wrongAt l k x L w v0 m then 1 else 0
def bR (l : List (Int × Int)) (k : Str) (x : Option Int) (L : Nat) (w v0 : Int) (j : Nat) : Nat → Nat
  | 0 => 0
  | i + 1 => bR l k x L w v0 j i + if wrongAt l k x L w v0 (j * l.length + i) then 1 else 0
def eR (l : List (Int × Int)) (k : Str) (x : Option Int) (L : Nat) (w v0 : Int) (j : Nat) : Nat := bR l k x L w v0 j l.length
theorem cR_eq {l : List (Int × Int)} {k : Str} {x : Option Int} {L : Nat} {w v0 : Int} (hl : 1 ≤ l.length) (j : Nat) : ∀ M, cR l k x L w v0 j M = bR l k x L w v0 j (min l.length (M - j * l.length))
  | 0 => by
    rw [Nat.zero_sub, Nat.min_eq_right (Nat.zero_le _)]
    rfl
  | M + 1 => by
    rw [cR, cR_eq hl j M]
    rcases Nat.lt_or_ge M (j * l.length) with a | a
    · have : M / l.length < j := (Nat.div_lt_iff_lt_mul hl).mpr a
      rw [if_neg (fun z => by omega), show M - j * l.length = 0 by omega, show M + 1 - j * l.length = 0 by omega, Nat.add_zero]
    · rcases Nat.lt_or_ge M ((j + 1) * l.length) with b | b
      · have e : M / l.length = j := by
          have h1 : M / l.length < j + 1 := (Nat.div_lt_iff_lt_mul hl).mpr b
          have h2 : j ≤ M / l.length := (Nat.le_div_iff_mul_le hl).mpr a
          omega
        rw [Nat.succ_mul] at b
        rw [Nat.min_eq_right (by omega), Nat.min_eq_right (by omega), show M + 1 - j * l.length = (M - j * l.length) + 1 by omega, bR, show j * l.length + (M - j * l.length) = M by omega]
        by_cases c : wrongAt l k x L w v0 M
        · rw [if_pos ⟨e, c⟩, if_pos c]
        · rw [if_neg (fun z => c z.2), if_neg c]
      · have h2 : j + 1 ≤ M / l.length := (Nat.le_div_iff_mul_le hl).mpr b
        rw [Nat.succ_mul] at b
        rw [if_neg (fun z => by omega), Nat.min_eq_left (by omega), Nat.min_eq_left (by omega), Nat.add_zero]
theorem cR_full {l : List (Int × Int)} {k : Str} {x : Option Int} {L : Nat} {w v0 : Int} (hl : 1 ≤ l.length) {j r : Nat} (h : j < r) : cR l k x L w v0 j (r * l.length) = eR l k x L w v0 j := by
  have := Nat.mul_le_mul_right l.length (show j + 1 ≤ r from h)
  rw [Nat.succ_mul] at this
  rw [cR_eq hl, Nat.min_eq_left (by omega)]
  rfl
theorem eR_late {l : List (Int × Int)} {k : Str} {x : Option Int} {L : Nat} {w v0 : Int} (hl : 1 ≤ l.length) (hw : 1 ≤ w) (h0 : 0 ≤ v0) (h1 : v0 ≤ top w) : ∀ j, eR l k x L w v0 (L + (top w).toNat + j) = eR l k x L w v0 (L + (top w).toNat)
  | 0 => rfl
  | j + 1 => by
    rw [← eR_late hl hw h0 h1 j]
    unfold eR
    have : ∀ i, bR l k x L w v0 (L + (top w).toNat + (j + 1)) i = bR l k x L w v0 (L + (top w).toNat + j) i := fun i => by
      induction i with
      | zero => rfl
      | succ i ih =>
        have e : (L + (top w).toNat + (j + 1)) * l.length + i = ((L + (top w).toNat + j) * l.length + i) + l.length := by
          rw [show L + (top w).toNat + (j + 1) = (L + (top w).toNat + j) + 1 by omega, Nat.succ_mul]
          omega
        have hm : (L + (top w).toNat) * l.length ≤ (L + (top w).toNat + j) * l.length + i := Nat.le_trans (Nat.mul_le_mul_right _ (by omega)) (Nat.le_add_right _ _)
        have w1 : wrongAt l k x L w v0 ((L + (top w).toNat + (j + 1)) * l.length + i) ↔ wrongAt l k x L w v0 ((L + (top w).toNat + j) * l.length + i) := by
          unfold wrongAt
          rw [e, pM_per hl hw h0 h1 hm, outM_per]
        rw [bR, bR, ih]
        by_cases c : wrongAt l k x L w v0 ((L + (top w).toNat + j) * l.length + i)
        · rw [if_pos c, if_pos (w1.mpr c)]
        · rw [if_neg c, if_neg (fun z => c (w1.mp z))]
    exact this _
end Pf
/-! readings with the fragment given: within comprehensions, and comprehensions within them -/
namespace Gk
open PySem PySem.Spec PyProof.Rows L2
theorem mt_lcountK {X : Cx} (K : PySem.W.Frag) (h : X.K = K := by rfl) : MtR X "list.count" (rCntI K) := by
  subst h
  exact mt_lcount
theorem pi_listK {X : Cx} {tg l : Expr} {tl : TE} (K : PySem.W.Frag) (hl : PE X l tl) (h : X.K = K := by rfl) : PI X tg l (iList K tl) := by
  subst h
  exact pi_list hl
theorem pi_tupK {X : Cx} {tg l : Expr} {tl : TE} (K : PySem.W.Frag) (hl : PE X l tl) (h : X.K = K := by rfl) : PI X tg l (iTup K tl) := by
  subst h
  exact pi_tup hl
section
variable {X : Cx} {o e : Expr} {es : List Expr} {to : TE} {t : TA} {name : Str} {apos cpos : Pos} {T id : String} {r : V → List V → Hp → VK → Prop}
theorem pe_bmK (K : PySem.W.Frag) (pa : PlainAttrs T) (slot : Slot T name id) (hty : typeOf (.builtin id) = pure (.type "method_descriptor")) (hm : MtR X id r) (ho : PE X o to) (ha : PA X (e :: es) t) (h : X.K = K := by rfl)
    (hbase : attributeBase o name X.env (eval o X.env) = eval o X.env := by rfl)
    (hfew : ((backTo cpos (starEach (e :: es) X.env)).all (fun x => !x.1) && (backToKw cpos (keywordEach [] X.env)).all (fun x => x.1.isSome)
      && decide ((e :: es).length + ([] : List Keyword).length + (if ([] : List Keyword).isEmpty then 0 else 1) < 30)) = true := by rfl)
    (hline : (apos.endLine == cpos.line) = true := by rfl) (hs : starEach (e :: es) X.env = (false, eval e X.env) :: starEach es X.env := by rfl) (hplain : (backTo cpos (starEach es X.env)).any (·.1) = false := by rfl) :
    PE X (.Call (.Attribute o name apos) (e :: es) [] cpos) (tBM K T r to t) := by
  subst h
  exact pe_bm pa slot hty hm ho ha hbase hfew hline hs hplain
end
end Gk
/-! xs[i] += e, a list -/
namespace Gk
open PySem PySem.Spec PyProof.Rows L2
theorem get_list {X : Cx} : PGet X (rIxL X.K) := by
  intro pins s σ H x y v u Q I rx ry h
  obtain ⟨p, xs, i, z, rfl, rfl, hq, he, q⟩ := h
  cases rx
  obtain ⟨t, rfl⟩ := ry
  obtain ⟨its, r, pl, hz⟩ := I.list hq
  obtain ⟨j, h1, h2, h3, h4, h5⟩ := atI_get he
  obtain ⟨w, ew, rw'⟩ := r.get h2
  have hl := r.length
  have hn := line63
  have fin : EP X pins σ Q w s := ⟨z, H, I, rw', q⟩
  by_cases h0 : 0 ≤ i
  · have hj : i.toNat = j := by
      rw [seqIndex_of h0 h5] at h1
      exact Option.some.inj h1
    exact wpAny_getItem_list pl.isList h0 (by omega) (by rw [hj]; simpa using ew) fin
  · have hj : (i + (its.toArray.size : Int)).toNat = j := by
      rw [seqIndex_neg (by omega) h4] at h1
      rw [List.size_toArray, ← hl]
      exact Option.some.inj h1
    exact wpAny_getItem_list_neg pl.isList (by omega) (by rw [List.size_toArray] <;> omega) (by omega) (by rw [hj]; simpa using ew) fin
end Gk
namespace Pf
open PySem PySem.Spec PyProof.Rows L2 Gk Fold
theorem ixN_of {n j : Nat} (hj : j < n) : ixN n (j : Int) = some j := by
  unfold ixN
  rw [if_pos (by omega), if_pos (by omega)]
  simp
/-- a list told by what stands at each place -/
def rowV (r : Nat) (f : Nat → Nat) : List V := (List.range r).map fun j => V.int ((f j : Nat) : Int)
theorem rowV_len (r : Nat) (f : Nat → Nat) : (rowV r f).length = r := by
  unfold rowV
  rw [List.length_map, List.length_range]
theorem rowV_at {r j : Nat} {f : Nat → Nat} (h : j < r) : (rowV r f)[j]? = some (V.int ((f j : Nat) : Int)) := by
  unfold rowV
  rw [List.getElem?_map, List.getElem?_range h]
  rfl
theorem rowV_set {r j : Nat} {f : Nat → Nat} {n : Nat} : (rowV r f).set j (V.int (n : Int)) = rowV r fun q => if q = j then n else f q := by
  refine List.ext_getElem? fun q => ?_
  rw [List.getElem?_set]
  by_cases h : q < r
  · rw [rowV_at h, rowV_at h, rowV_len]
    by_cases e : j = q
    · rw [if_pos e, if_pos (by omega), if_pos e.symm]
    · rw [if_neg e, if_neg (fun z => e z.symm)]
  · have n1 : (rowV r fun q => if q = j then n else f q)[q]? = none := List.getElem?_eq_none (by rw [rowV_len]; omega)
    have n2 : (rowV r f)[q]? = none := List.getElem?_eq_none (by rw [rowV_len]; omega)
    rw [n1, n2]
    by_cases e : j = q
    · rw [if_pos e, if_neg (by rw [rowV_len]; omega)]
    · rw [if_neg e]
theorem rowV_congr {r : Nat} {f g : Nat → Nat} (h : ∀ j, j < r → f j = g j) : rowV r f = rowV r g := by
  unfold rowV
  refine List.map_congr_left fun j hj => ?_
  rw [h j (List.mem_range.mp hj)]
theorem rowV_zero (r : Nat) : (List.replicate r [V.int 0]).flatten = rowV r fun _ => 0 := by
  unfold rowV
  rw [List.map_const', List.length_range]
  induction r with
  | zero => rfl
  | succ r ih => rw [List.replicate_succ, List.flatten_cons, ih, List.replicate_succ]; rfl
theorem wrong_count (l : List (Int × Int)) (k : Str) (x : Option Int) (L : Nat) (w v0 : Int) (j : Nat) : ∀ M, ((wrongM l k x L w v0 M).map (· / l.length)).count j = cR l k x L w v0 j M
  | 0 => rfl
  | M + 1 => by
    rw [wrongM_succ, List.map_append, List.count_append, wrong_count l k x L w v0 j M, cR]
    by_cases c : pM l k x L w v0 M = outM l M
    · rw [if_pos c, if_neg (fun z => z.2 c)]
      rfl
    · rw [if_neg c]
      by_cases d : M / l.length = j
      · rw [if_pos ⟨d, c⟩, List.map_cons, List.map_nil, d, List.count_singleton_self]
      · rw [if_neg (fun z => d z.1), List.map_cons, List.map_nil, List.count_eq_zero_of_not_mem (by simpa using fun z => d z.symm)]
abbrev sEbr : Stmt := topS 12
abbrev nEbr : List Str := ["trace", "scheme", "counter", "rounds", "errors", "moment"]
theorem scEbr : FnScope nEbr ["trace", "scheme", "counter", "rounds"] (defScope sEbr) := ⟨rfl, rfl, rfl, by decide +kernel, rfl, by decide +kernel, by decide +kernel⟩
section
variable {P : Program} {w : World} {K : PySem.W.Frag} {mg : Str → Option Value} {base : Heap}
def spEbr (K : PySem.W.Frag) : Sp := fun vs H Q _ => ∃ (t c g : Addr) (l : List (Int × Int)) (k : Str) (z : Int) (x : Option Int) (w v0 : Int) (r : Nat), vs = [.ref t, .ref c, .ref g, .int (r : Int)] ∧ PairsAt K H t l ∧ Fair l ∧ 1 ≤ l.length ∧ l.length ≤ 64 ∧ SqT K H c (planV k z x) ∧ PlanOk k z x ∧
  SqT K H g [.int w, .int v0] ∧ 1 ≤ w ∧ w ≤ 64 ∧ 0 ≤ v0 ∧ v0 ≤ top w ∧ r ≤ 1000 ∧
  ∀ H' p, Same H H' → H p = none → H' p = some (.lst (rowV r fun j => eR l k x z.toNat w v0 j)) → Q (.ref p) H'
theorem ok_ebr {f : Addr} {fd : FuncData} (DW : Dfn P w K mg base 10 "wrong_moments" ["trace", "scheme", "counter", "rounds"] (spWrong K)) (ml : mg "len" = none)
    (F : L2.Fun K "errors_by_round" "errors_by_round" sEbr f fd) : FnOk P w K mg base L2.CX0 11 f fd ["trace", "scheme", "counter", "rounds"] (spEbr K) := by
  refine F.ok scEbr (fun vs H Q E h => ?_) (fun cdv A outer s H vs Q E hr h => ?_)
  · obtain ⟨t, c, g, l, k, z, x, w, v0, r, rfl, _⟩ := h
    rfl
  · obtain ⟨t, c, g, l, k, z, x, wd, v0, r, rfl, hl, fair, l1, l64, hc, ok, hg, w1, w64, v1, v2, r1, q⟩ := h
    obtain ⟨xst, sqt, hAt, lt⟩ := PairsAt.out hl
    refine ⟨_, pss_cons (ps_set (i := 4) scEbr.nd rfl (.inl rfl) (pe_op op_rep (pe_lst (pa_cons pe_int pa_nil)) (pv 3)))
      (pss_cons (ps_for PassesOwn.never rfl (pi_list (pe_d DW hr (by decide) (by rfl) (pa_cons (pv 0) (pa_cons (pv 1) (pa_cons (pv 2) (pa_cons (pv 3) pa_nil)))))) (pg_name (i := 5) scEbr.nd rfl (.inl rfl))
        (pss_one (ps_augS (pv 4) (pe_op op_fdiv (pv 5) (pe_callB call_len_seq (by rfl) ml PySem.boot_len (pa_cons (pv 0) pa_nil))) get_list pe_int (show PIp _ .Add rAdd from in_add) set_list)))
      (pss_one (ps_ret (pv 4)))), ?_⟩
    have few : r * l.length ≤ 1000 * 64 := Nat.mul_le_mul r1 l64
    refine ⟨by show 1 ≤ sizeLine; decide, fun a na => ⟨.int (r : Int), rfl, a, r, _, rfl, rfl, upd_same, by omega, by omega, ?_, fun E nE => ?_⟩⟩
    · rw [Int.toNat_natCast, sizeLine_eq]
      show 1 * r ≤ 16777216
      omega
    rw [Int.toNat_natCast, rowV_zero]
    have s1 := (same_new (o := .lst [.int 0]) na).trans (same_new (o := .lst (rowV r fun _ => 0)) nE)
    have hE1 : (upd (upd H a (.lst [.int 0])) E (.lst (rowV r fun _ => 0))) E = some (.lst (rowV r fun _ => 0)) := upd_same
    have nEH : H E = none := by
      cases e : H E with
      | none => rfl
      | some o => rw [same_new na _ _ e] at nE; cases nE
    generalize upd (upd H a (.lst [.int 0])) E (.lst (rowV r fun _ => 0)) = H1 at s1 hE1
    refine ⟨.ref t, rfl, .ref c, rfl, .ref g, rfl, .int (r : Int), rfl, t, c, g, l, k, z, x, wd, v0, r, rfl, hl.keep (Same.keep s1), fair, l1, l64, Same.seqT s1 hc, ok, Same.seqT s1 hg, w1, w64, v1, v2, r1, fun H2 W s2 nW hW => ⟨W, rfl, ⟨_, SqL.of hW⟩, ?_⟩⟩
    have nWE : W ≠ E := (ne_of_none hE1 nW).symm
    have nlen : (0 : Int) < (xst.length : Nat) := by omega
    refine for_list (K := K) (a := W) (xs := (wrongM l k x z.toNat wd v0 (r * l.length)).map fun m : Nat => V.int (m : Int))
      (fun i σ H' => (∃ y, σ = [some (.ref t), some (.ref c), some (.ref g), some (.int (r : Int)), some (.ref E), y]) ∧ (∀ b o, b ≠ E → H2 b = some o → H' b = some o) ∧ H' E = some (.lst (rowV r fun j => (((wrongM l k x z.toNat wd v0 (r * l.length)).take i).map (· / l.length)).count j)))
      ⟨⟨_, rfl⟩, fun b o _ h => h, s2 _ _ hE1⟩ (fun i σ H' _ hp => SqL.of (hp.2.1 _ _ nWE hW)) (fun i y σ H3 hy hp => ?_) (fun σ H3 hp => ?_)
    · obtain ⟨⟨y5, rfl⟩, old, hE⟩ := hp
      rw [List.getElem?_map] at hy
      cases em : (wrongM l k x z.toNat wd v0 (r * l.length))[i]? with
      | none => rw [em] at hy; cases hy
      | some m =>
        rw [em] at hy
        obtain rfl := Option.some.inj hy
        have hm : m < r * l.length := by
          have := List.mem_of_getElem? em
          unfold wrongM at this
          exact List.mem_range.mp (List.mem_filter.mp this).1
        have hj : m / l.length < r := (Nat.div_lt_iff_lt_mul l1).mpr hm
        have ediv : ((m : Nat) : Int) / ((xst.length : Nat) : Int) = ((m / l.length : Nat) : Int) := by rw [lt]; rfl
        have sqt3 : SqT K H3 t xst := by
          have old' : ∀ b o, H b = some o → H3 b = some o := fun b o h => old b o (ne_of_none h nEH) (s2 _ _ (s1 _ _ h))
          exact Same.seqT old' sqt
        have hat := rowV_at (f := fun j => (((wrongM l k x z.toNat wd v0 (r * l.length)).take i).map (· / l.length)).count j) hj
        refine ⟨.ref E, rfl, .int (m : Int), rfl, .ref t, rfl, t, xst, rfl, .inr sqt3, _, _, rfl, rfl, ⟨nlen, by omega⟩, E, _, _, _, rfl, rfl, SqL.of hE, by rw [ediv]; exact atI_nat hat, _, _, rfl, rfl, E, _, _, m / l.length, rfl, rfl, hE, by rw [ediv, rowV_len]; exact ixN_of hj, ?_⟩
        refine ⟨⟨_, rfl⟩, fun b o nb h => by rw [upd_ne nb]; exact old b o nb h, ?_⟩
        rw [upd_same, show ((((wrongM l k x z.toNat wd v0 (r * l.length)).take i).map (· / l.length)).count (m / l.length) : Int) + 1 = (((((wrongM l k x z.toNat wd v0 (r * l.length)).take i).map (· / l.length)).count (m / l.length) + 1 : Nat) : Int) from rfl, rowV_set]
        congr 2
        refine rowV_congr fun q hq => ?_
        rw [List.take_add_one, em, Option.toList_some, List.map_append, List.count_append, List.map_cons, List.map_nil]
        by_cases e : q = m / l.length
        · rw [if_pos e, e, List.count_singleton_self]
        · have z0 : [m / l.length].count q = 0 := List.count_eq_zero_of_not_mem (by simpa using e)
          rw [if_neg e, z0, Nat.add_zero]
    · obtain ⟨⟨y5, rfl⟩, old, hE⟩ := hp
      refine ⟨.ref E, rfl, q _ E (fun b o h => old b o (ne_of_none h nEH) (s2 _ _ (s1 _ _ h))) nEH ?_⟩
      rw [hE, List.length_map, List.take_length]
      congr 2
      refine rowV_congr fun j hj => ?_
      rw [wrong_count, cR_full l1 hj]
end
end Pf
namespace Pf
open PySem PySem.Spec PyProof.Rows L2 Gk Fold
abbrev sEarN : Stmt := topS 20
theorem scEarN : FnScope ["scheme", "counter"] ["scheme", "counter"] (defScope sEarN) := ⟨rfl, rfl, rfl, by decide +kernel, rfl, by decide +kernel, by decide +kernel⟩
/-- the number of the round from which all are alike -/
def farN (z : Nat) (w : Int) : Nat := z + (top w).toNat
theorem top_small {w : Int} (h1 : 1 ≤ w) (h8 : w ≤ 8) : 1 ≤ top w ∧ top w ≤ 255 := by
  have h2 := top_pos h1
  have hp : (2 : Nat) ^ w.toNat ≤ 2 ^ 8 := Nat.pow_le_pow_right (by decide) (by omega)
  have hp' : (2 : Int) ^ w.toNat ≤ 2 ^ 8 := by exact_mod_cast hp
  refine ⟨h2, ?_⟩
  unfold top
  omega
section
variable {P : Program} {w : World} {K : PySem.W.Frag} {mg : Str → Option Value} {base : Heap}
def spEarN (K : PySem.W.Frag) : Sp := fun vs H Q _ => ∃ (c g : Addr) (k : Str) (z : Int) (x : Option Int) (w v0 : Int), vs = [.ref c, .ref g] ∧ SqT K H c (planV k z x) ∧ PlanOk k z x ∧ SqT K H g [.int w, .int v0] ∧ 1 ≤ w ∧ w ≤ 8 ∧ Q (.int ((farN z.toNat w + 1 : Nat) : Int)) H
theorem ok_earN {f : Addr} {fd : FuncData} (DM : Dfn P w K mg base 1 "most_value" ["bits"] spMost) (mx : mg "max" = none) (F : L2.Fun K "_early_rounds" "_early_rounds" sEarN f fd) : FnOk P w K mg base L2.CX0 2 f fd ["scheme", "counter"] (spEarN K) := by
  refine F.ok scEarN (fun vs H Q E h => ?_) (fun cdv A outer s H vs Q E hr h => ?_)
  · obtain ⟨c, g, k, z, x, w, v0, rfl, _⟩ := h
    rfl
  · obtain ⟨c, g, k, z, x, wd, v0, rfl, hc, ok, hg, w1, w8, q⟩ := h
    refine ⟨_, pss_one (ps_ret (pe_mid (pe_op op_add (pe_op op_add (pe_callB (call_max2 rfl) (by rfl) mx (by decide +kernel) (pa_cons pe_int (pa_cons (pe_ix ix_tup (pv 0) pe_int (fun _ _ => rfl)) pa_nil))) (pe_d DM hr (by decide) (by rfl) (pa_cons (pe_ix ix_tup (pv 1) pe_int (fun _ _ => rfl)) pa_nil))) pe_int))), ?_⟩
    have z0 := ok.1
    have t1 := top_small w1 w8
    refine ⟨fun v H' => H' = H ∧ v = .int ((farN z.toNat wd + 1 : Nat) : Int), ⟨.ref c, rfl, c, _, 1, .int z, rfl, rfl, hc, planV1 _ _ _, _, _, rfl, .ref g, rfl, g, _, 0, .int wd, rfl, rfl, hg, rfl, wd, rfl, w1, by omega, _, _, rfl, rfl, _, _, rfl, rfl, rfl, ?_⟩, fun v H' hv => ?_⟩
    · unfold farN
      show V.int ((if z > 0 then z else 0) + top wd + 1) = _
      congr 1
      split <;> omega
    · obtain ⟨rfl, rfl⟩ := hv
      exact q
end
end Pf
namespace Pf
open PySem PySem.Spec PyProof.Rows L2 Gk Fold
abbrev sEarE : Stmt := topS 21
abbrev sSteE : Stmt := topS 16
abbrev sSett : Stmt := topS 17
abbrev nSett : List Str := ["trace", "scheme", "counter", "errors", "number"]
theorem scEarE : FnScope ["trace", "scheme", "counter"] ["trace", "scheme", "counter"] (defScope sEarE) := ⟨rfl, rfl, rfl, by decide +kernel, rfl, by decide +kernel, by decide +kernel⟩
theorem scSteE : FnScope ["trace", "scheme", "counter"] ["trace", "scheme", "counter"] (defScope sSteE) := ⟨rfl, rfl, rfl, by decide +kernel, rfl, by decide +kernel, by decide +kernel⟩
theorem scSett : FnScope nSett ["trace", "scheme", "counter"] (defScope sSett) := ⟨rfl, rfl, rfl, by decide +kernel, rfl, by decide +kernel, by decide +kernel⟩
theorem atI_lastV {r : Nat} {f : Nat → Nat} : atI (rowV (r + 1) f) (-1) = some (V.int ((f r : Nat) : Int)) := by
  have : ixN (rowV (r + 1) f).length (-1) = some r := by
    unfold ixN
    rw [rowV_len, if_neg (by decide), if_pos (by omega)]
    congr 1
    omega
  unfold atI
  rw [this]
  exact rowV_at (by omega)
section
variable {P : Program} {w : World} {K : PySem.W.Frag} {mg : Str → Option Value} {base : Heap}
def spEarE (K : PySem.W.Frag) (Qf : (List (Int × Int)) → Str → Option Int → Nat → Int → Int → Hp → VK → Prop) : Sp := fun vs H Q _ => ∃ (t c g : Addr) (l : List (Int × Int)) (k : Str) (z : Int) (x : Option Int) (w v0 : Int), vs = [.ref t, .ref c, .ref g] ∧ PairsAt K H t l ∧ Fair l ∧ 1 ≤ l.length ∧ l.length ≤ 64 ∧ SqT K H c (planV k z x) ∧ PlanOk k z x ∧
  SqT K H g [.int w, .int v0] ∧ 1 ≤ w ∧ w ≤ 8 ∧ 0 ≤ v0 ∧ v0 ≤ top w ∧ Qf l k x z.toNat w v0 H Q
/-- the early rounds' errors, a list -/
def qEarE : (List (Int × Int)) → Str → Option Int → Nat → Int → Int → Hp → VK → Prop := fun l k x L w v0 H Q => ∀ H' p, Same H H' → H p = none → H' p = some (.lst (rowV (farN L w + 1) fun j => eR l k x L w v0 j)) → Q (.ref p) H'
/-- the errors of a late round -/
def qSteE : (List (Int × Int)) → Str → Option Int → Nat → Int → Int → Hp → VK → Prop := fun l k x L w v0 H Q => ∀ H', Same H H' → Q (.int ((eR l k x L w v0 (farN L w) : Nat) : Int)) H'
/-- from when rounds are alike -/
def qSett : (List (Int × Int)) → Str → Option Int → Nat → Int → Int → Hp → VK → Prop := fun l k x L w v0 H Q => ∀ H' (s : Nat), Same H H' → s ≤ farN L w → (∀ j, s ≤ j → j ≤ farN L w → eR l k x L w v0 j = eR l k x L w v0 (farN L w)) → (s = 0 ∨ eR l k x L w v0 (s - 1) ≠ eR l k x L w v0 (farN L w)) → Q (.int (s : Int)) H'
theorem ok_earE {f : Addr} {fd : FuncData} (DE : Dfn P w K mg base 11 "errors_by_round" ["trace", "scheme", "counter", "rounds"] (spEbr K)) (DN : Dfn P w K mg base 2 "_early_rounds" ["scheme", "counter"] (spEarN K))
    (F : L2.Fun K "_early_errors" "_early_errors" sEarE f fd) : FnOk P w K mg base L2.CX0 12 f fd ["trace", "scheme", "counter"] (spEarE K qEarE) := by
  refine F.ok scEarE (fun vs H Q E h => ?_) (fun cdv A outer s H vs Q E hr h => ?_)
  · obtain ⟨t, c, g, l, k, z, x, w, v0, rfl, _⟩ := h
    rfl
  · obtain ⟨t, c, g, l, k, z, x, wd, v0, rfl, hl, fair, l1, l64, hc, ok, hg, w1, w8, v1, v2, q⟩ := h
    refine ⟨_, pss_one (ps_ret (pe_d DE hr (by decide) (by rfl) (pa_cons (pv 0) (pa_cons (pv 1) (pa_cons (pv 2) (pa_cons (pe_d DN hr (by decide) (by rfl) (pa_cons (pv 1) (pa_cons (pv 2) pa_nil))) pa_nil)))))), ?_⟩
    have t1 := top_small w1 w8
    have z64 := ok.2.1
    refine ⟨.ref t, rfl, .ref c, rfl, .ref g, rfl, .ref c, rfl, .ref g, rfl, c, g, k, z, x, wd, v0, rfl, hc, ok, hg, w1, w8, t, c, g, l, k, z, x, wd, v0, farN z.toNat wd + 1, rfl, hl, fair, l1, l64, hc, ok, hg, w1, by omega, v1, v2, ?_, fun H' p s np hp => q H' p s np hp⟩
    unfold farN
    omega
theorem ok_steE {f : Addr} {fd : FuncData} (DE : Dfn P w K mg base 12 "_early_errors" ["trace", "scheme", "counter"] (spEarE K qEarE)) (F : L2.Fun K "steady_errors" "steady_errors" sSteE f fd) : FnOk P w K mg base L2.CX0 13 f fd ["trace", "scheme", "counter"] (spEarE K qSteE) := by
  refine F.ok scSteE (fun vs H Q E h => ?_) (fun cdv A outer s H vs Q E hr h => ?_)
  · obtain ⟨t, c, g, l, k, z, x, w, v0, rfl, _⟩ := h
    rfl
  · obtain ⟨t, c, g, l, k, z, x, wd, v0, rfl, hl, fair, l1, l64, hc, ok, hg, w1, w8, v1, v2, q⟩ := h
    refine ⟨_, pss_one (ps_ret (pe_ix ix_list (pe_d DE hr (by decide) (by rfl) (pa_cons (pv 0) (pa_cons (pv 1) (pa_cons (pv 2) pa_nil)))) (pe_un un_neg pe_int) (fun _ _ => rfl))), ?_⟩
    refine ⟨.ref t, rfl, .ref c, rfl, .ref g, rfl, t, c, g, l, k, z, x, wd, v0, rfl, hl, fair, l1, l64, hc, ok, hg, w1, w8, v1, v2, fun H' p s np hp => ⟨_, rfl, p, _, _, _, rfl, rfl, SqL.of hp, atI_lastV, q H' s⟩⟩
theorem ok_sett {f : Addr} {fd : FuncData} (DE : Dfn P w K mg base 12 "_early_errors" ["trace", "scheme", "counter"] (spEarE K qEarE)) (ml : mg "len" = none) (F : L2.Fun K "settles" "settles" sSett f fd) : FnOk P w K mg base L2.CX0 13 f fd ["trace", "scheme", "counter"] (spEarE K qSett) := by
  refine F.ok scSett (fun vs H Q E h => ?_) (fun cdv A outer s H vs Q E hr h => ?_)
  · obtain ⟨t, c, g, l, k, z, x, w, v0, rfl, _⟩ := h
    rfl
  · obtain ⟨t, c, g, l, k, z, x, wd, v0, rfl, hl, fair, l1, l64, hc, ok, hg, w1, w8, v1, v2, q⟩ := h
    refine ⟨_, pss_cons (ps_set (i := 3) scSett.nd rfl (.inl rfl) (pe_d DE hr (by decide) (by rfl) (pa_cons (pv 0) (pa_cons (pv 1) (pa_cons (pv 2) pa_nil)))))
      (pss_cons (ps_set (i := 4) scSett.nd rfl (.inl rfl) (pe_op op_sub (pe_callB call_len_seq (by rfl) ml PySem.boot_len (pa_cons (pv 3) pa_nil)) pe_int))
      (pss_cons (ps_while PassesOwn.never (pt_mid (PW.pt (pw_and (pt_cmpR op_gt (pv 4) pe_int (nomark _)) (pw_and1 (pt_cmpR op_eq (pe_ix ix_list (pv 3) (pe_op op_sub (pv 4) pe_int) (fun _ _ => rfl)) (pe_ix ix_list (pv 3) (pe_un un_neg pe_int) (fun _ _ => rfl)) (nomark _))))))
        (pss_one (ps_aug (i := 4) scSett.nd rfl (.inl rfl) pe_int in_sub)))
      (pss_one (ps_ret (pv 4))))), ?_⟩
    refine ⟨.ref t, rfl, .ref c, rfl, .ref g, rfl, t, c, g, l, k, z, x, wd, v0, rfl, hl, fair, l1, l64, hc, ok, hg, w1, w8, v1, v2, fun H1 E s1 nE hE => go_name ?_⟩
    refine ⟨.ref E, rfl, E, _, rfl, .inl (SqL.of hE), _, _, rfl, rfl, go_name ?_⟩
    rw [rowV_len]
    refine while_by (fun σ H' => H' = H1 ∧ ∃ n : Nat, σ = [some (.ref t), some (.ref c), some (.ref g), some (.ref E), some (.int (n : Int))] ∧ n ≤ farN z.toNat wd ∧ ∀ j, n ≤ j → j ≤ farN z.toNat wd → eR l k x z.toNat wd v0 j = eR l k x z.toNat wd v0 (farN z.toNat wd))
      (fun σ _ => match σ[4]? with
        | some (some (V.int x)) => x.toNat
        | _ => 0) ⟨rfl, farN z.toNat wd, by show [some (V.ref t), some (V.ref c), some (V.ref g), some (V.ref E), some (V.int (((farN z.toNat wd + 1 : Nat) : Int) - 1))] = _; rw [show ((farN z.toNat wd + 1 : Nat) : Int) - 1 = (farN z.toNat wd : Nat) by omega], Nat.le_refl _, fun j h1 h2 => by rw [Nat.le_antisymm h2 h1]⟩ (fun σ H' hpv => ?_) (fun σ G Q1 Q2 hq ⟨Mid, h1, h2⟩ => ⟨Mid, h1, fun u G2 mm => hq _ _ (h2 u G2 mm)⟩)
    obtain ⟨rfl, n, rfl, hn, same⟩ := hpv
    refine ⟨fun u G2 => G2 = H' ∧ u = (decide (0 < n) && decide (eR l k x z.toNat wd v0 (n - 1) = eR l k x z.toNat wd v0 (farN z.toNat wd))), ?_, fun u G2 hu => ?_⟩
    · refine ⟨.int (n : Int), rfl, _, _, rfl, rfl, _, rfl, ite2 (fun e => ?_) (fun e => ?_)⟩
      · have n0 : (0 : Int) < n := of_decide_eq_true e
        refine ⟨.ref E, rfl, .int (n : Int), rfl, _, _, rfl, rfl, E, _, _, _, rfl, rfl, SqL.of hE, by rw [show (n : Int) - 1 = ((n - 1 : Nat) : Int) by omega]; exact atI_nat (rowV_at (by omega)), .ref E, rfl, _, rfl, E, _, _, _, rfl, rfl, SqL.of hE, atI_lastV, rfl, _, rfl, rfl, ?_⟩
        rw [decide_eq_true (show 0 < n by omega), Bool.true_and]
        refine decide_eq_decide.mpr ⟨fun h => ?_, fun h => by rw [h]⟩
        injection h with h
        exact Int.ofNat.inj h
      · have n0 : n = 0 := by
          have := mt decide_eq_true e
          omega
        subst n0
        exact ⟨rfl, rfl⟩
    · obtain ⟨rfl, rfl⟩ := hu
      by_cases on : (decide (0 < n) && decide (eR l k x z.toNat wd v0 (n - 1) = eR l k x z.toNat wd v0 (farN z.toNat wd))) = true
      · rw [on]
        simp only [Bool.and_eq_true, decide_eq_true_eq] at on
        refine ⟨_, rfl, _, _, rfl, rfl, ⟨rfl, n - 1, by show [some (V.ref t), some (V.ref c), some (V.ref g), some (V.ref E), some (V.int ((n : Int) - 1))] = _; rw [show (n : Int) - 1 = ((n - 1 : Nat) : Int) by omega], by omega, fun j h1 h2 => ?_⟩, ?_⟩
        · rcases Nat.lt_or_ge j n with a | a
          · rw [show j = n - 1 by omega]
            exact on.2
          · exact same j a h2
        · show ((n : Int) - 1).toNat < (n : Int).toNat
          omega
      · have on' : (decide (0 < n) && decide (eR l k x z.toNat wd v0 (n - 1) = eR l k x z.toNat wd v0 (farN z.toNat wd))) = false := by simpa using on
        rw [on']
        refine ⟨.int (n : Int), rfl, q _ n s1 hn same ?_⟩
        by_cases n0 : n = 0
        · exact .inl n0
        · refine .inr fun e => on ?_
          rw [decide_eq_true (show 0 < n by omega), decide_eq_true e]
          rfl
end
end Pf
namespace Pf
open PySem PySem.Spec PyProof.Rows L2 Gk Fold
/-! ### the errors of the first rounds, summed up -/
abbrev sTotE : Stmt := topS 18
abbrev nTotE : List Str := ["trace", "scheme", "counter", "rounds", "errors", "later"]
theorem scTotE : FnScope nTotE ["trace", "scheme", "counter", "rounds"] (defScope sTotE) := ⟨rfl, rfl, rfl, by decide +kernel, rfl, by decide +kernel, by decide +kernel⟩
section
variable {l : List (Int × Int)} {k : Str} {x : Option Int} {L : Nat} {w v0 : Int}
def totR (l : List (Int × Int)) (k : Str) (x : Option Int) (L : Nat) (w v0 : Int) : Nat → Nat
  | 0 => 0
  | n + 1 => totR l k x L w v0 n + eR l k x L w v0 n
theorem wrong_round (r : Nat) : ∀ i, i ≤ l.length → (wrongM l k x L w v0 (r * l.length + i)).length = (wrongM l k x L w v0 (r * l.length)).length + bR l k x L w v0 r i
  | 0, _ => rfl
  | i + 1, h => by
    rw [← Nat.add_assoc, wrongM_succ, List.length_append, wrong_round r i (by omega), bR]
    by_cases c : pM l k x L w v0 (r * l.length + i) = outM l (r * l.length + i)
    · rw [if_pos c, if_neg (show ¬ wrongAt l k x L w v0 (r * l.length + i) from fun z => z c)]
      rfl
    · rw [if_neg c, if_pos (show wrongAt l k x L w v0 (r * l.length + i) from c)]
      show _ + _ + 1 = _ + (_ + 1)
      omega
theorem wrong_tot : ∀ r, (wrongM l k x L w v0 (r * l.length)).length = totR l k x L w v0 r
  | 0 => by rw [Nat.zero_mul]; rfl
  | r + 1 => by
    rw [Nat.succ_mul, wrong_round r l.length (Nat.le_refl _), wrong_tot r]
    rfl
theorem tot_late (hl : 1 ≤ l.length) (hw : 1 ≤ w) (h0 : 0 ≤ v0) (h1 : v0 ≤ top w) : ∀ d, totR l k x L w v0 (farN L w + 1 + d) = totR l k x L w v0 (farN L w + 1) + d * eR l k x L w v0 (farN L w)
  | 0 => by rw [Nat.zero_mul]; rfl
  | d + 1 => by
    have e := eR_late (l := l) (k := k) (x := x) (L := L) hl hw h0 h1 (1 + d)
    rw [← Nat.add_assoc, totR, tot_late hl hw h0 h1 d, Nat.succ_mul, show farN L w + 1 + d = L + (top w).toNat + (1 + d) by unfold farN; omega, e]
    show _ + _ + eR l k x L w v0 (farN L w) = _
    omega
theorem eR_small (j : Nat) : eR l k x L w v0 j ≤ l.length := by
  have h : ∀ i, bR l k x L w v0 j i ≤ i := fun i => by
    induction i with
    | zero => exact Nat.le_refl _
    | succ i ih =>
      rw [bR]
      split <;> omega
  exact h _
theorem row_sum : ∀ n, (((List.range n).map fun j => ((eR l k x L w v0 j : Nat) : Int))).sum = ((totR l k x L w v0 n : Nat) : Int)
  | 0 => rfl
  | n + 1 => by
    rw [List.range_succ, List.map_append, List.sum_append, row_sum n]
    show _ + (((eR l k x L w v0 n : Nat) : Int) + 0) = ((totR l k x L w v0 n + eR l k x L w v0 n : Nat) : Int)
    omega
end
section
variable {P : Program} {w : World} {K : PySem.W.Frag} {mg : Str → Option Value} {base : Heap}
def spTotE (K : PySem.W.Frag) : Sp := fun vs H Q _ => ∃ (t c g : Addr) (l : List (Int × Int)) (k : Str) (z : Int) (x : Option Int) (w v0 : Int) (n : Nat), vs = [.ref t, .ref c, .ref g, .int (n : Int)] ∧ PairsAt K H t l ∧ Fair l ∧ 1 ≤ l.length ∧ l.length ≤ 64 ∧ SqT K H c (planV k z x) ∧ PlanOk k z x ∧
  SqT K H g [.int w, .int v0] ∧ 1 ≤ w ∧ w ≤ 8 ∧ 0 ≤ v0 ∧ v0 ≤ top w ∧ n ≤ 2000000000000000000 ∧ ∀ H', Same H H' → Q (.int ((totR l k x z.toNat w v0 n : Nat) : Int)) H'
theorem ok_totE {f : Addr} {fd : FuncData} (DE : Dfn P w K mg base 12 "_early_errors" ["trace", "scheme", "counter"] (spEarE K qEarE)) (ml : mg "len" = none) (mx : mg "max" = none) (ms : mg "sum" = none)
    (F : L2.Fun K "total_errors" "total_errors" sTotE f fd) : FnOk P w K mg base L2.CX0 13 f fd ["trace", "scheme", "counter", "rounds"] (spTotE K) := by
  refine F.ok scTotE (fun vs H Q E h => ?_) (fun cdv A outer s H vs Q E hr h => ?_)
  · obtain ⟨t, c, g, l, k, z, x, w, v0, n, rfl, _⟩ := h
    rfl
  · obtain ⟨t, c, g, l, k, z, x, wd, v0, n, rfl, hl, fair, l1, l64, hc, ok, hg, w1, w8, v1, v2, n1, q⟩ := h
    refine ⟨_, pss_cons (ps_set (i := 4) scTotE.nd rfl (.inl rfl) (pe_d DE hr (by decide) (by rfl) (pa_cons (pv 0) (pa_cons (pv 1) (pa_cons (pv 2) pa_nil)))))
      (pss_cons (ps_set (i := 5) scTotE.nd rfl (.inl rfl) (pe_callB (call_max2 rfl) (by rfl) mx (by decide +kernel) (pa_cons pe_int (pa_cons (pe_op op_sub (pv 3) (pe_callB call_len_seq (by rfl) ml PySem.boot_len (pa_cons (pv 4) pa_nil))) pa_nil))))
      (pss_one (ps_ret (pe_op op_add (pe_callB (cr_sum rfl) (by rfl) ms (by decide +kernel) (pa_cons (pe_slice sl_list (pv 4) po_none (po_some (pe_callB (call_max2 rfl) (by rfl) mx (by decide +kernel) (pa_cons pe_int (pa_cons (pv 3) pa_nil))))) pa_nil))
        (pe_op op_mul (pv 5) (pe_ix ix_list (pv 4) (pe_un un_neg pe_int) (fun _ _ => rfl))))))), ?_⟩
    refine ⟨.ref t, rfl, .ref c, rfl, .ref g, rfl, t, c, g, l, k, z, x, wd, v0, rfl, hl, fair, l1, l64, hc, ok, hg, w1, w8, v1, v2, fun H1 E s1 nE hE => go_name ?_⟩
    refine ⟨.int (n : Int), rfl, .ref E, rfl, E, _, rfl, .inl (SqL.of hE), _, _, rfl, rfl, _, _, rfl, go_name ?_⟩
    rw [rowV_len]
    have t1 := top_small w1 w8
    have z64 := ok.2.1
    have far : farN z.toNat wd ≤ 400 := by unfold farN; omega
    generalize hlat : (if ((n : Nat) : Int) - ((farN z.toNat wd + 1 : Nat) : Int) > 0 then ((n : Nat) : Int) - ((farN z.toNat wd + 1 : Nat) : Int) else 0) = lat
    have e0 : (if ((n : Nat) : Int) > 0 then ((n : Nat) : Int) else 0) = ((n : Nat) : Int) := by split <;> omega
    refine ⟨.ref E, rfl, .int (n : Int), rfl, _, _, rfl, _, rfl, E, _, rfl, SqL.of hE, fun S nS => ?_⟩
    rw [e0, cut_to]
    have hS : (upd H1 S (.lst ((rowV (farN z.toNat wd + 1) fun j => eR l k x z.toNat wd v0 j).take n))) S = some (.lst ((rowV (farN z.toNat wd + 1) fun j => eR l k x z.toNat wd v0 j).take n)) := upd_same
    have s12 : Same H1 (upd H1 S (.lst ((rowV (farN z.toNat wd + 1) fun j => eR l k x z.toNat wd v0 j).take n))) := same_new nS
    generalize upd H1 S (.lst ((rowV (farN z.toNat wd + 1) fun j => eR l k x z.toNat wd v0 j).take n)) = H2 at hS s12
    have erow : (rowV (farN z.toNat wd + 1) fun j => eR l k x z.toNat wd v0 j).take n = ((List.range (min n (farN z.toNat wd + 1))).map fun j => ((eR l k x z.toNat wd v0 j : Nat) : Int)).map V.int := by
      unfold rowV
      rw [← List.map_take, List.take_range, List.map_map]
      rfl
    rw [erow] at hS
    have le : eR l k x z.toNat wd v0 (farN z.toNat wd) ≤ l.length := eR_small _
    refine ⟨S, _, rfl, SqL.of hS, .int lat, rfl, .ref E, rfl, _, rfl, E, _, _, _, rfl, rfl, SqL.of (s12 _ _ hE), atI_lastV, _, _, rfl, rfl, ?_, _, _, rfl, rfl, ?_⟩
    · have p64 : (2 : Int) ^ 64 = 18446744073709551616 := by decide
      have hl0 : 0 ≤ lat ∧ lat ≤ 2000000000000000000 := by rw [← hlat]; split <;> omega
      exact .inl ⟨by rw [p64]; omega, by rw [p64]; omega⟩
    rw [row_sum]
    have fin := q H2 (s1.trans s12)
    have eq : ((totR l k x z.toNat wd v0 n : Nat) : Int) = ((totR l k x z.toNat wd v0 (min n (farN z.toNat wd + 1)) : Nat) : Int) + lat * ((eR l k x z.toNat wd v0 (farN z.toNat wd) : Nat) : Int) := by
      rcases Nat.lt_or_ge n (farN z.toNat wd + 1) with a | a
      · rw [Nat.min_eq_left (by omega), ← hlat, if_neg (by omega), Int.zero_mul, Int.add_zero]
      · obtain ⟨d, rfl⟩ : ∃ d, n = farN z.toNat wd + 1 + d := ⟨n - (farN z.toNat wd + 1), by omega⟩
        have el : lat = ((d : Nat) : Int) := by rw [← hlat]; split <;> omega
        rw [Nat.min_eq_right (by omega), el, tot_late l1 w1 v1 v2 d]
        rw [Int.natCast_add, Int.natCast_mul]
    show Q (.int (((totR l k x z.toNat wd v0 (min n (farN z.toNat wd + 1)) : Nat) : Int) + lat * ((eR l k x z.toNat wd v0 (farN z.toNat wd) : Nat) : Int))) H2
    rw [← eq]
    exact fin
end
end Pf
namespace Pf
open PySem PySem.Spec PyProof.Rows L2 Gk
abbrev sGau : Stmt := topS 29
abbrev nGau : List Str := ["_law_box_here", "_law_width", "_law_half"]
theorem scGau : FnScope nGau ["_law_box_here"] (defScope sGau) := ⟨rfl, rfl, rfl, by decide +kernel, rfl, by decide +kernel, by decide +kernel⟩
theorem pow2_up {a b : Nat} (h : a ≤ b) : (2 : Int) ^ a ≤ 2 ^ b := by
  have e := Nat.pow_le_pow_right (n := 2) (by decide) h
  exact_mod_cast e
section
variable {P : Program} {w : World} {K : PySem.W.Frag} {mg : Str → Option Value} {base : Heap}
def spGau : Sp := fun vs H Q _ => ∃ (b : Addr) (m : Nat), vs = [.ref b] ∧ Box m H b ∧ m ≤ 990000 ∧
  ∀ H' p n v, But b H H' → Box (m + 10) H' b → p ≠ b → H p = none → H' p = some (.tup [.int n, .int v]) → 1 ≤ n → n ≤ 4 → 0 ≤ v → v < 2 ^ n.toNat → Q (.ref p) H'
theorem ok_gau {f : Addr} {fd : FuncData} (DT : Dfn P w K mg base 1 "_law_take" ["_law_box_here", "_law_many"] spTake) (DO : Dfn P w K mg base 2 "_law_of" ["_law_box_here", "_law_some"] (spOf K))
    (F : L2.Fun K "_law_gauge" "_law_gauge" sGau f fd) : FnOk P w K mg base L2.CX0 3 f fd ["_law_box_here"] spGau := by
  refine F.ok scGau (fun vs H Q E h => ?_) (fun cdv A outer s H vs Q E hr h => ?_)
  · obtain ⟨b, m, rfl, _⟩ := h
    rfl
  · obtain ⟨b, m, rfl, hb, hm, q⟩ := h
    refine ⟨_, pss_cons (ps_set (i := 1) scGau.nd rfl (.inl rfl) (pe_op op_add pe_int (pe_d DT hr (by decide) (by rfl) (pa_cons (pv 0) (pa_cons pe_int pa_nil)))))
      (pss_cons (ps_set (i := 2) scGau.nd rfl (.inl rfl) (pe_op op_shl pe_int (pe_op op_sub (pv 1) pe_int)))
      (pss_one (ps_ret (pe_tup (pa_cons (pv 1) (pa_cons (pe_d DO hr (by decide) (by rfl) (pa_cons (pv 0) (pa_cons (pe_lst (pa_cons pe_int (pa_cons (pe_op op_sub (pe_op op_mul pe_int (pv 2)) pe_int) (pa_cons (pv 2) (pa_cons (pe_op op_sub (pv 2) pe_int)
          (pa_cons (pe_d DT hr (by decide) (by rfl) (pa_cons (pv 0) (pa_cons (pe_op op_mul pe_int (pv 2)) pa_nil))) pa_nil)))))) pa_nil))) pa_nil)))))), ?_⟩
    refine ⟨.ref b, rfl, b, 4, m, rfl, by decide, by decide, hb, by omega, fun d H1 d0 d1 bt1 bx1 sm1 => ⟨_, _, rfl, rfl, .int (1 + d), rfl, _, _, rfl, rfl, _, _, rfl, rfl, ⟨by omega, by omega, by decide⟩, ?_⟩⟩
    have half : 2 * ((1 : Int) * 2 ^ (1 + d - 1).toNat) = 2 ^ (1 + d).toNat := by
      rw [show (1 + d).toNat = (1 + d - 1).toNat + 1 by omega, Int.pow_succ]
      omega
    have hp : (2 : Int) ^ (1 + d).toNat ≤ 2 ^ 4 := pow2_up (by omega)
    have hp0 : (0 : Int) < 2 ^ (1 + d - 1).toNat := Int.pow_pos (by decide)
    have hf1 : 1 ≤ ((1 : Int) * 2 ^ (1 + d - 1).toNat) := by omega
    refine ⟨.int (1 + d), rfl, .ref b, rfl, .int ((1 : Int) * 2 ^ (1 + d - 1).toNat), rfl, _, _, rfl, rfl, .inl ⟨by decide, by decide⟩, _, _, rfl, rfl, .int ((1 : Int) * 2 ^ (1 + d - 1).toNat), rfl, .int ((1 : Int) * 2 ^ (1 + d - 1).toNat), rfl, _, _, rfl, rfl, .ref b, rfl, .int ((1 : Int) * 2 ^ (1 + d - 1).toNat), rfl, _, _, rfl, rfl, .inl ⟨by decide, by decide⟩, b, 2 * ((1 : Int) * 2 ^ (1 + d - 1).toNat), m + 1, rfl, by omega, by omega, bx1, by omega, fun e H2 e0 e1 bt2 bx2 sm2 => ⟨by show 5 ≤ sizeLine; decide, fun p np => ?_⟩⟩
    have bx3 := bx2.same (same_new (o := .lst [.int 0, .int (2 * ((1 : Int) * 2 ^ (1 + d - 1).toNat) - 1), .int ((1 : Int) * 2 ^ (1 + d - 1).toNat), .int (((1 : Int) * 2 ^ (1 + d - 1).toNat) - 1), .int e]) np)
    refine ⟨b, p, _, m + 1 + 1, rfl, SqL.of upd_same, (bx2.ne np).symm, by show 0 < 5; decide, by show 5 ≤ 1000; decide, bx3, by omega, fun i v H4 g bt4 bx4 sm4 => ⟨by show 2 ≤ sizeLine; decide, fun p2 np2 => ?_⟩⟩
    have bt04 : But b H H4 := ((bt1.trans bt2).trans (But.new np)).trans bt4
    have bxu : Box (m + 10) H4 b := bx4.up (by omega)
    have gone : H p2 = none := by
      cases e : H p2 with
      | none => rfl
      | some o =>
        have := bt04 p2 o (bxu.ne np2).symm e
        rw [np2] at this
        cases this
    have fin : ∀ u : Int, v = .int u → 0 ≤ u → u < 2 * ((1 : Int) * 2 ^ (1 + d - 1).toNat) → Q (.ref p2) (upd H4 p2 (.tup [.int (1 + d), v])) := fun u hu u0 u1 => by
      subst hu
      exact q _ p2 (1 + d) u (bt04.trans (But.new np2)) (bxu.same (same_new np2)) (bxu.ne np2).symm gone upd_same (by omega) (by omega) u0 (by omega)
    match i, g with
    | 0, g => exact fin 0 (Option.some.inj g).symm (by omega) (by omega)
    | 1, g => exact fin (2 * ((1 : Int) * 2 ^ (1 + d - 1).toNat) - 1) (Option.some.inj g).symm (by omega) (by omega)
    | 2, g => exact fin ((1 : Int) * 2 ^ (1 + d - 1).toNat) (Option.some.inj g).symm (by omega) (by omega)
    | 3, g => exact fin (((1 : Int) * 2 ^ (1 + d - 1).toNat) - 1) (Option.some.inj g).symm (by omega) (by omega)
    | 4, g => exact fin e (Option.some.inj g).symm (by omega) (by omega)
end
end Pf
/-! if and for in the body of a generator def that is drained. -/
namespace Gk
open PySem PySem.Spec PyProof.Rows L2 GenW
section
variable {X : Cx}
def tGIf (c : TT) (t u : TGn) : TGn := fun D ys σ H => c σ H fun b H1 => if b = true then t D ys σ H1 else u D ys σ H1
theorem gs_if {test : Expr} {body orelse : List Stmt} {pos : Pos} {tc : TT} {tb te : TGn} (hc : PT X test tc) (hb : GSs X body tb) (he : GSs X orelse te) : GS X (.If test body orelse pos) (tGIf tc tb te) := by
  refine ⟨fun A S ip R n ys s₀ c fs K J gd lv s σ H D g hn k hI ht => ?_⟩
  rw [exec_If]
  show Seg _ _ _ _ _ s₀ c (.at pos fun _ => ((isTrue test X.env (eval test X.env)) >>= fun b => if b = true then execs body X.env else execs orelse X.env).wrap K J gd lv) fs s
  obtain ⟨acc, cc, r, I⟩ := hI
  refine seg_at (seg_bind_wrap ?_)
  rw [g.over]
  refine wpAny_mono (hc.run _ s σ H _ I ht) (fun b s' hb' => ?_) fun x s' hx => k.exc n s₀ x s' hx
  obtain ⟨H1, I1, q⟩ := hb'
  cases b with
  | true =>
    rw [if_pos rfl] at q
    rw [if_pos rfl]
    exact hb.run A S ip R n ys s₀ c fs K J gd lv s' σ H1 D g hn k ⟨acc, cc, r, I1⟩ q
  | false =>
    rw [if_neg Bool.false_ne_true] at q
    rw [if_neg Bool.false_ne_true]
    exact he.run A S ip R n ys s₀ c fs K J gd lv s' σ H1 D g hn k ⟨acc, cc, r, I1⟩ q
end

/-! ### for -/
section
variable {prog : Program} {w : World} {A : Around} {R : GenEnd} {Y : Protocol} {n : Nat} {s₀ : Shared} {fs : List Frame} {s : Shared} {env : Env}
theorem seg_forLoopX {target : Expr} {it : Value} {body : List Stmt} (J : Value → Sem PySem.Fin) (hJ : ∀ e, J e = (do noteFrame e env; theTreesLotGoes e : Sem Unit).bind fun _ => .raise e)
    (h : wpAny (model prog w) (A.over (.forLoop target it body [] env) fs) (pyNext it) (fun r s1 => match r with
      | none => Seg (model prog w) A R Y n s₀ (.forLoop target it body [] env) (.pure (.again (.block [] env))) fs s1
      | some v => wpAny (model prog w) (A.over (.forLoop target it body [] env) fs) (letOwnedTupleGo target it v) (fun _ s2 => wpAny (model prog w) (A.over (.forLoop target it body [] env) fs) (assign target env v) (fun _ s3 =>
          Seg (model prog w) A R Y n s₀ (.forLoop target it body [] env) ((execs body env).wrap (fun f => match f with
            | .next | .cont => .pure (.again (.forLoop target it body [] env))
            | .brk => .pure (.done .next)
            | .ret v => .pure (.done (.ret v))) J id id) fs s3) (fun x s3 => Seg (model prog w) A R Y n s₀ (.forLoop target it body [] env) (J x) fs s3) s2) (fun _ _ => False) s1) (fun _ _ => False) s) :
    Seg (model prog w) A R Y n s₀ (.forLoop target it body [] env) ((model prog w).den (.forLoop target it body [] env)) fs s := by
  show Seg _ A R Y n s₀ _ ((forTurn target it body [] env).onRaise (fun x => do noteFrame x env; theTreesLotGoes x)) fs s
  rw [Sem.onRaise_eq_wrap]
  unfold forTurn
  refine seg_bind_wrap (wpAny_standAt ?_)
  refine seg_bind_wrap (wpAny_onRaise (wpAny_mono h (fun r s1 h1 => ?_) fun _ _ z => z.elim))
  cases r with
  | none => exact h1
  | some v =>
    dsimp only at h1 ⊢
    refine seg_bind_wrap (wpAny_mono h1 (fun _ s2 h2 => ?_) fun _ _ z => z.elim)
    refine seg_bind_wrap (wpAny_mono h2 (fun _ s3 h3 => ?_) fun x s3 h3 => ?_)
    · rw [Sem.bind_eq_wrap', Sem.wrap_wrap]
      rw [Sem.wrap_congr (execs body env) _ _ (K' := fun f => match f with
              | .next | .cont => .pure (.again (.forLoop target it body [] env))
              | .brk => .pure (.done .next)
              | .ret v => .pure (.done (.ret v))) (H' := J) (fun f => by cases f <;> rfl) (fun e => by rw [hJ]; rfl)]
      exact h3
    · rw [hJ] at h3
      exact h3
end
section
variable {X : Cx}
/-- the generator's place with its loop's iterators pinned -/
theorem gc_pins {S : Addr} {ip pl : List (Addr × Obj)} {A : Around} {c : Code} {fs : List Frame} {gd : Bool → Bool} (g : GC X S ip A c fs gd) (h : ∀ p ∈ pl, p.1 ≠ S) : GC X S (ip ++ pl) A c fs gd where
  pn := g.pn
  ip := fun p hp => by
    rcases List.mem_append.mp hp with hp | hp
    · exact g.ip p hp
    · exact h p hp
  apart := g.apart
  over := g.over
  split := g.split
  guard := g.guard
  gd := g.gd
theorem pinsAt_ne {fp : List Addr} {h : Heap} {S : Addr} (hf : ∀ b ∈ fp, b ≠ S) : ∀ p ∈ pinsAt fp h, p.1 ≠ S := by
  intro p hp
  obtain ⟨b, hb, e⟩ := List.mem_filterMap.mp hp
  cases eo : h.get? b with
  | none => rw [eo] at e; cases e
  | some o => rw [eo] at e; cases e; exact hf b hb
def tGFor (wi : TI) (g : TG) (tb : TGn) : TGn := fun D ys σ H => wi σ H fun J H1 => ∃ W : Nat → Nat → List V → L2.St → Hp → Prop, (∃ m, W 0 m ys σ H1) ∧ ∀ i m ys σ H, W i m ys σ H →
  (J.stop i H ∧ D.nx ys σ H) ∨ (J.go i H ∧ ∃ N : List V → L2.St → Hp → Prop, (∀ ys' σ' H', N ys' σ' H' → ∃ m', m' < m ∧ W (i + 1) m' ys' σ' H') ∧ ∀ x H', J.yld i H x H' → g x σ H' fun σ2 H2 => tb { D with nx := N, ct := N, bk := D.nx } ys σ2 H2)
theorem gs_for {tg iter : Expr} {body : List Stmt} {wi : TI} {g : TG} {tb : TGn} {pos : Pos} (hc : X.calm = true) (hp : PassesOwn (model X.prog X.w) X.A X.env X.xe) (hi : PI X tg iter wi) (hg : PG X tg g) (hb : GSs X body tb)
    (hs : ∀ x, foldedSetIterable iter X.env x = pure x := by intro _; rfl) : GS X (.For tg iter body [] pos) (tGFor wi g tb) := by
  refine ⟨fun A S ip R n ys s₀ c fs K J gd lv s σ H D gc hn k hI ht => ?_⟩
  rw [exec_For]
  show Seg _ _ _ _ _ s₀ c (.at pos fun _ => (eval iter X.env >>= fun v => foldedSetIterable iter X.env v >>= fun x => standAt iter.pos >>= fun _ => holding [x] (pyIter x) >>= fun it => runOwn (.forLoop tg it body [] X.env) X.env).wrap K J gd lv) fs s
  obtain ⟨acc, cc, r, I⟩ := hI
  refine seg_at (seg_bind_wrap ?_)
  rw [gc.over]
  refine wpAny_mono (hi.run _ s σ H _ I ht) (fun v s1 h1 => ?_) fun x s' hx => k.exc n s₀ x s' hx
  refine seg_bind_wrap (wpAny_of_eq (hs v) ?_)
  refine seg_bind_wrap (wpAny_standAt ?_)
  refine seg_bind_wrap (wpAny_holding ?_)
  rw [gc.over]
  refine wpAny_mono h1 (fun itv s2 h2 => ?_) fun x s' hx => k.exc n s₀ x s' hx
  obtain ⟨it, fp, tn, Jt, H2, e, I2, T, st2, f2, W, ⟨m0, w0⟩, turn⟩ := h2
  subst e
  have fne : ∀ b ∈ fp, b ≠ S := fun b hb z => (f2 b hb).2.2.2.2.2 (S, lstObj acc cc) (List.mem_append_right _ List.mem_cons_self) z.symm
  have stat : ∀ {H' : Hp} {acc' : Array Value} {cc' : Nat}, (∀ b ∈ fp, H' b = none) → ∀ b ∈ fp, FpOk X ((S, lstObj acc' cc') :: ip) H' b := fun {H' acc' cc'} hn b hb => by
    obtain ⟨_, q2, q3, q4, q5, q6⟩ := f2 b hb
    refine ⟨hn b hb, q2, q3, q4, q5, fun p hp => ?_⟩
    rcases List.mem_append.mp hp with hp | hp
    · exact q6 p (List.mem_append_left _ hp)
    · rcases List.mem_cons.mp hp with hp | hp
      · rw [hp]; exact Ne.symm (fne b hb)
      · exact q6 p (List.mem_append_right _ (List.mem_cons_of_mem _ hp))
  show Seg _ _ _ _ _ s₀ c (.call (.forLoop tg (.ref it) body [] X.env) none (gd false) (lv []) fun r => ((match r with | .ok f => (.pure f : Sem Flow) | .error e => .raise e).onRaise (L2.cameBack X.env)).wrap K J gd lv) fs s2
  refine seg_call fun p => ?_
  have gl := fun (kk : Result → Sem PySem.Fin) => gc_loop (k := kk) (c' := .forLoop tg (.ref it) body [] X.env) (l := lv []) (kp := []) (p := p) gc rfl rfl
  have ee : ∀ (n : Nat) (s₀ : Shared) (x : Value) (s' : Shared), X.xe x s' → Seg (model X.prog X.w) A R (GY X S) n s₀ (.forLoop tg (.ref it) body [] X.env)
      ((do noteFrame x X.env; theTreesLotGoes x : Sem Unit).bind fun _ => .raise x)
      (.ret (fun r => ((match r with | .ok f => (.pure f : Sem Flow) | .error e => .raise e).onRaise (L2.cameBack X.env)).wrap K J gd lv) none (gd false) (lv []) c p [] :: fs) s' := fun n s₀ x s' hx => by
    rw [Sem.bind_eq_wrap]
    refine seg_wrap ?_
    rw [(gl _).over]
    refine wpAny_bind (wpAny_mono (hp x s' hx) (fun _ s'' hcb => wpAny_theTreesLotGoes ?_) fun y s'' hcb => ?_)
    · exact seg_leaf (.error x) (seg_cameBack gc k hcb)
    · exact seg_leaf (.error y) (seg_cameBack gc k hcb)
  have loop : ∀ (m i n : Nat) (ys : List V) (s₀ s : Shared) (σ : L2.St) (H : Hp), n + ys.length = sizeLine → GI X S ip ys σ H s → tn i s.heap → (∀ b ∈ fp, H b = none) → W i m ys σ H →
      Seg (model X.prog X.w) A R (GY X S) n s₀ (.forLoop tg (.ref it) body [] X.env) ((model X.prog X.w).den (.forLoop tg (.ref it) body [] X.env))
        (.ret (fun r => ((match r with | .ok f => (.pure f : Sem Flow) | .error e => .raise e).onRaise (L2.cameBack X.env)).wrap K J gd lv) none (gd false) (lv []) c p [] :: fs) s := by
    intro m
    induction m using Nat.strongRecOn with
    | ind m ih =>
      intro i n ys s₀ s3 σ3 H3 hn hI3 st3 fr3 w3
      obtain ⟨acc3, cc3, r3, I3⟩ := hI3
      refine seg_forLoopX (fun e => (do noteFrame e X.env; theTreesLotGoes e : Sem Unit).bind fun _ => .raise e) (fun _ => rfl) ?_
      rw [(gl _).over]
      rcases turn i m ys σ3 H3 w3 with ⟨stop, qn⟩ | ⟨go, N, hN, step⟩
      · refine wpAny_mono (T.done X rfl rfl rfl hc i _ s3 σ3 H3 (fun _ _ => False) I3 (stat fr3) st3 stop) (fun r s4 ⟨hr, I4⟩ => ?_) fun _ _ z => z.elim
        subst hr
        dsimp only
        refine seg_again rfl ?_
        exact seg_leaf (.ok .next) (k.ok n ys s₀ s4 .next hn ⟨σ3, H3, ⟨acc3, cc3, r3, I4⟩, qn⟩)
      · refine wpAny_mono (T.item X rfl rfl rfl hc i _ s3 σ3 H3 (fun _ _ => False) I3 (stat fr3) st3 go) (fun r s4 ⟨u, hr, h4⟩ => ?_) fun _ _ z => z.elim
        subst hr
        dsimp only
        refine wpAny_mono h4 (fun _ s5 ⟨x, H5, I5, r5, y5, st5, fr5⟩ => ?_) fun _ _ z => z.elim
        have I5' := I5.pinned (stat fr5) (T.obj _ _ st5)
        refine wpAny_mono (hg.run _ s5 σ3 H5 x u _ I5' r5 (step x H5 y5)) (fun _ s6 ⟨σ6, H6, I6, q6⟩ => ?_) fun x s' hx => ee n s₀ x s' hx
        have again : ∀ {ys' : List V} {s7 : Shared} {σ7 : L2.St} {H7 : Hp}, GI X S (ip ++ pinsAt fp s5.heap) ys' σ7 H7 s7 → N ys' σ7 H7 → ∃ m', m' < m ∧ GI X S ip ys' σ7 H7 s7 ∧ tn (i + 1) s7.heap ∧ (∀ b ∈ fp, H7 b = none) ∧ W (i + 1) m' ys' σ7 H7 := fun {ys' s7 σ7 H7} hI7 n7 => by
          obtain ⟨m', hm, w7⟩ := hN ys' σ7 H7 n7
          obtain ⟨acc7, cc7, r7, I7⟩ := hI7
          have I7' : Inv X (((S, lstObj acc7 cc7) :: ip) ++ pinsAt fp s5.heap) σ7 H7 s7 := I7
          refine ⟨m', hm, ⟨acc7, cc7, r7, I7'.unpinned⟩, T.keep _ _ _ st5 fun b hb o e => (I7'.pin (b, o) (List.mem_append_right _ (List.mem_append_right _ (mem_pinsAt hb e)))).1, fun b hb => ?_, w7⟩
          obtain ⟨o, e, d⟩ := T.obj _ _ st5 b hb
          exact (I7'.pin (b, o) (List.mem_append_right _ (List.mem_append_right _ (mem_pinsAt hb e)))).2.1
        have G6 : GI X S (ip ++ pinsAt fp s5.heap) ys σ6 H6 s6 := ⟨acc3, cc3, r3, I6⟩
        have un : ∀ {ys' : List V} {s7 : Shared} {σ7 : L2.St} {H7 : Hp}, GI X S (ip ++ pinsAt fp s5.heap) ys' σ7 H7 s7 → GI X S ip ys' σ7 H7 s7 := fun {ys' s7 σ7 H7} hI7 => by
          obtain ⟨acc7, cc7, r7, I7⟩ := hI7
          have I7' : Inv X (((S, lstObj acc7 cc7) :: ip) ++ pinsAt fp s5.heap) σ7 H7 s7 := I7
          exact ⟨acc7, cc7, r7, I7'.unpinned⟩
        refine hb.run A S (ip ++ pinsAt fp s5.heap) R n ys s₀ _ _ _ _ id id s6 σ6 H6 { D with nx := N, ct := N, bk := D.nx } (gc_pins (gl _) (pinsAt_ne fne)) hn ⟨fun n' ys' s₀' s7 f hn' hs => ?_, fun n' s₀' x s7 hx => ee n' s₀' x s7 hx⟩ G6 q6
        cases f with
        | next =>
          obtain ⟨σ7, H7, I7, n7⟩ := hs
          obtain ⟨m', hm, J7, st7, fr7, w7⟩ := again I7 n7
          exact seg_again rfl (ih m' hm (i + 1) n' ys' s₀' s7 σ7 H7 hn' J7 st7 fr7 w7)
        | cont =>
          obtain ⟨σ7, H7, I7, n7⟩ := hs
          obtain ⟨m', hm, J7, st7, fr7, w7⟩ := again I7 n7
          exact seg_again rfl (ih m' hm (i + 1) n' ys' s₀' s7 σ7 H7 hn' J7 st7 fr7 w7)
        | brk =>
          obtain ⟨σ7, H7, I7, q7⟩ := hs
          exact seg_leaf (.ok .next) (k.ok n' ys' s₀' s7 .next hn' ⟨σ7, H7, un I7, q7⟩)
        | ret v =>
          obtain ⟨x7, σ7, H7, I7, r7, q7⟩ := hs
          exact seg_leaf (.ok (.ret v)) (k.ok n' ys' s₀' s7 (.ret v) hn' ⟨x7, σ7, H7, un I7, r7, q7⟩)
  exact loop m0 0 n ys s₀ s2 σ H2 hn ⟨acc, cc, r, I2⟩ st2 (fun b hb => (f2 b hb).1) w0
/-- for over lo, lo + 1, .. in a generator that is drained -/
theorem for_rangeG {lo : Int} {n : Nat} {g : TG} {tb : TGn} {D : GEnds} {ys : List V} {σ : L2.St} {H : Hp} (Pv : Nat → List V → L2.St → Hp → Prop) (h0 : Pv 0 ys σ H)
    (hs : ∀ i ys σ H, i < n → Pv i ys σ H → g (.int (lo + i)) σ H fun σ2 H2 => tb { D with nx := Pv (i + 1), ct := Pv (i + 1), bk := D.nx } ys σ2 H2) (hd : ∀ ys σ H, Pv n ys σ H → D.nx ys σ H) :
    ∃ W : Nat → Nat → List V → L2.St → Hp → Prop, (∃ m, W 0 m ys σ H) ∧ ∀ i m ys σ H, W i m ys σ H →
      ((Itr lo n).stop i H ∧ D.nx ys σ H) ∨ ((Itr lo n).go i H ∧ ∃ N : List V → L2.St → Hp → Prop, (∀ ys' σ' H', N ys' σ' H' → ∃ m', m' < m ∧ W (i + 1) m' ys' σ' H') ∧ ∀ x H', (Itr lo n).yld i H x H' → g x σ H' fun σ2 H2 => tb { D with nx := N, ct := N, bk := D.nx } ys σ2 H2) := by
  refine ⟨fun i m ys σ H => m = n - i ∧ i ≤ n ∧ Pv i ys σ H, ⟨n, by simp, Nat.zero_le _, h0⟩, ?_⟩
  rintro i m ys σ H ⟨rfl, hi, p⟩
  by_cases hlt : i < n
  · refine .inr ⟨hlt, Pv (i + 1), fun ys' σ' H' p' => ⟨n - (i + 1), by omega, rfl, hlt, p'⟩, fun x H' y => ?_⟩
    obtain ⟨e, y⟩ := y
    subst e y
    exact hs i ys σ _ hlt p
  · have e : i = n := by omega
    subst e
    exact .inl ⟨Nat.le_refl _, hd ys σ H p⟩
end
end Gk
/-! list(f(..)) of a generator def. -/
namespace Gk
open PySem PySem.Spec PyProof.Rows L2 GenW
/-- the context of the body of a generator def that is drained and raises nothing of its own -/
theorem passes_none {X : Cx} {P : Program} {w : World} : Passes (CX P w) X L2.E0 := fun _ _ _ _ _ _ _ h => by
  obtain ⟨_, _, _, _, _, _, _, _, _, _, _, _, z⟩ := h
  exact z.elim
section
variable {P : Program} {w : World} {K : PySem.W.Frag} {mg : Str → Option Value} {base : Heap}
theorem gG_ok {x qual : Str} {st : Stmt} {f : Addr} {fd : FuncData} {N ps : List Str} {k : Nat} {sp : SpG} (F : L2.Fun K x qual st f fd) (S : GScope N ps (defScope st))
    (len : ∀ vs H Q E, sp vs H Q E → vs.length = ps.length)
    (hbody : ∀ (cdv : Value) (A : Around) (outer : List Env) (s : Shared) (H : Hp) (vs : List V) (Q : List V → Hp → Prop) (E : XK) (pn : List (Addr × Obj)), Room k (A.deeper (envOfC qual (defScope st) s.heap.objs.size f cdv)) → sp vs H Q E →
      ∃ t, GSs (gcxOf P w K mg base N qual (defScope st) f cdv A outer s H E pn) (defBody st) t ∧ t { nx := fun ys _ H' => Q ys H', rt := fun ys v H' => v = .non ∧ Q ys H' } [] (start N vs) H) :
    GFn P w K mg base (k + 1) f fd ps sp := by
  obtain ⟨oc, od, kV, doc, pm, an, cdv, ct, osl, rfl, lk, hcd⟩ := F.ex
  exact gfn_of lk hcd S len fun A outer s H vs Q E pn hr h => hbody cdv A outer s H vs Q E pn hr h
structure Dgn (P : Program) (w : World) (K : PySem.W.Frag) (mg : Str → Option Value) (base : Heap) (k : Nat) (x : Str) (ps : List Str) (sp : SpG) : Prop where
  ex : ∃ (f : Addr) (fd : FuncData), GFn P w K mg base k f fd ps sp ∧ mg x = some (.ref f) ∧ PySem.W.keepIn K (.ref f) = true ∧ Binds K fd ps []
end
section
variable {X : Cx} {k j : Nat} {ps : List Str} {sp : SpG} {x : Str} {p p2 pos pos2 : Pos} {e : Expr} {es : List Expr} {t : TA}
theorem pe_listD (D : Dgn X.prog X.w X.K X.mg X.base k x ps sp) (hr : Room j X.A) (hj : k + 3 ≤ j) (hx : Gl X x) (hg : Gl X "list") (hml : X.mg "list" = none)
    (ha : PA X (e :: es) t) (hdb : (x == ("__debug__" : Str)) = false := by decide) (he : starEach (e :: es) X.env = (false, eval e X.env) :: starEach es X.env := by rfl) (hpl : (backTo pos (starEach es X.env)).any (·.1) = false := by rfl)
    (he2 : starEach [.Call (.Name x p) (e :: es) [] pos] X.env = (false, eval (.Call (.Name x p) (e :: es) [] pos) X.env) :: starEach [] X.env := by rfl) :
    PE X (.Call (.Name "list" p2) [.Call (.Name x p) (e :: es) [] pos] [] pos2) (tListG (tCallG sp [] L2.E0 t)) := by
  obtain ⟨f, fd, F, hm, hk, hb⟩ := D.ex
  exact pe_listG (pgen_call F (hr.mono (by omega)) hx hm hk hb .nil ha hdb he hpl) passes_none (fun _ _ _ z => z.elim) (hr.mono hj) hg hml (by rfl) (by decide) (by decide) he2
end
end Gk
/-! tuple(f(..)) of a generator def. -/
namespace Gk
open PySem PySem.Spec PyProof.Rows L2 GenW
section
variable {P : Program} {w : World} {outer : List Env} {H : Hp} {sc s : Shared} {ex : List Addr} {Q : List V → Hp → Prop} {EX : XK} {A : Around} {k : Nat} {u : Value} {E : Value → Shared → Prop}
/-- S, an empty list, takes all that the generator hands out -/
theorem extend_gn {Q' : Result → Shared → Prop} {S : Addr} {res : Value} {s1 : Shared} (hr : Room (k + 1) A) (hfr : A.frames = some outer) (h : GMade P w k outer H sc ex Q EX u s) (hS : s.heap.objs.size ≤ S) (hS0 : ∃ c, s1.heap.get? S = some (lstObj #[] c))
    (kp : ∀ b o, s.heap.get? b = some o → s1.heap.get? b = some o) (gs1 : s1.gens = s.gens) (os1 : s1.os = s.os)
    (hQ : ∀ s' acc c H' ys, s'.heap.get? S = some (lstObj acc c) → Vals ys acc.toList → ys.length ≤ sizeLine → s'.os = sc.os → AllBare s'.gens → Un (frs outer) ex H H' sc.heap s'.heap → HOk P w H' s'.heap → H' S = none → Q ys H' → Q' (.ok (.ret res)) s')
    (hexc : ∀ e s' g, CX P w outer H sc EX e s' → NotStop (model P w) e s'.heap ∧ Q' (.error e) (s'.setGen g .finished)) :
    ∃ a, u = .ref a ∧ codeAny (model P w) A (.builtin "list.extend.loop" ⟨[.ref S, .ref a, res], []⟩) Q' s1 := by
  obtain ⟨a, g, c, rfl, ha1, ha2, hg, hgs, hos, hb, hl, hkp, wake⟩ := h
  have hcl : cStatics < s.heap.objs.size := let ⟨_, hn, _⟩ := hl; hn.lt
  refine ⟨a, rfl, drain hr.hd (by have := hr.dp; omega) (fun e => ?_) (fun e => ?_) hQ (fun e s' hc => hexc e s' g hc) sizeLine s1 (hg.keeps kp) (hl.keeps kp) ⟨.fresh c, (by rw [gs1]; exact hgs), rfl, ?_⟩⟩
  · exact absurd (e ▸ hS) (Nat.not_le_of_gt ha2)
  · exact absurd (e ▸ hS) (Nat.not_le_of_gt hcl)
  · refine wake _ _ _ ⟨hr.hd, ?_, ?_⟩ hfr hS kp hS0 (os1.trans hos) (allBare_setGen (by rw [gs1]; exact hb) rfl)
    · have := hr.dp
      show A.depth + 3 * k + 5 < _
      omega
    · have := hr.un
      show A.units + 1 + 1 + 16 * k + 200 < _
      omega
theorem collect_gn {Q' : List Value → Shared → Prop} (hr : Room (k + 1) A) (hfr : A.frames = some outer) (h : GMade P w k outer H sc ex Q EX u s)
    (hQ : ∀ S s' acc c H' ys, s.heap.objs.size ≤ S → s'.heap.get? S = some (lstObj acc c) → Vals ys acc.toList → ys.length ≤ sizeLine → s'.os = sc.os → AllBare s'.gens → Un (frs outer) ex H H' sc.heap s'.heap → HOk P w H' s'.heap → H' S = none → Q ys H' → Q' acc.toList s')
    (hexc : ∀ e s' g, CX P w outer H sc EX e s' → NotStop (model P w) e s'.heap ∧ E e (s'.setGen g .finished)) :
    wpAny (model P w) A (collect u) Q' E s := by
  obtain ⟨a, g, rfl, ha2, hg⟩ : ∃ a g, u = .ref a ∧ a < s.heap.objs.size ∧ s.heap.IsGen a g := by
    obtain ⟨a, g, _, e, _, h2, h3, _⟩ := id h
    exact ⟨a, g, e, h2, h3⟩
  have ne : Builtin.List.listSameRef (.ref s.heap.objs.size) (.ref a) = false := by simp [Builtin.List.listSameRef, Nat.ne_of_gt ha2]
  let new : Obj := { cls := .type "list", data := .seq ([] : List Value).toArray }
  have at0 : (s.heap.push new).get? s.heap.objs.size = some new := Heap.get?_push_size _ rfl
  have at1 := Heap.get?_update_self (Obj.mapSeq (·.push Value.none)) at0 rfl
  have at2 := Heap.get?_update_self (Obj.mapSeq (·.pop)) at1 rfl
  have kp0 : ∀ b o, s.heap.get? b = some o → (s.heap.push new).get? b = some o := fun b o e => Heap.get?_push_of_some _ e
  have kp2 : ∀ b o, s.heap.get? b = some o → (((s.heap.push new).update s.heap.objs.size (Obj.mapSeq (·.push Value.none))).update s.heap.objs.size (Obj.mapSeq (·.pop))).get? b = some o := fun b o e => by
    have hb : s.heap.objs.size ≠ b := Nat.ne_of_gt (Heap.lt_size e)
    rw [Heap.get?_update_other _ _ hb, Heap.get?_update_other _ _ hb]
    exact kp0 b o e
  have g0 : Heap.IsGen (s.heap.push new) a g := hg.keeps kp0
  have ty0 : Shared.TypeIs { s with heap := s.heap.push new } (.ref a) "generator" := g0.typeIs
  obtain ⟨a', ea, loop⟩ := extend_gn (S := s.heap.objs.size) (res := .ref s.heap.objs.size) (s1 := { s with heap := ((s.heap.push new).update s.heap.objs.size (Obj.mapSeq (·.push Value.none))).update s.heap.objs.size (Obj.mapSeq (·.pop)) }) hr hfr h (Nat.le_refl _) ⟨_, at2⟩ kp2 rfl rfl
    (Q' := fun r s' => match r with
      | .ok (.ret v) => v = .ref s.heap.objs.size ∧ ∃ acc c, s'.heap.get? s.heap.objs.size = some (lstObj acc c) ∧ Q' acc.toList s'
      | .ok _ => False
      | .error e => E e s')
    (fun s' acc c H' ys q1 q2 q3 q4 q5 q6 q7 q8 q9 => ⟨rfl, acc, c, q1, hQ _ s' acc c H' ys (Nat.le_refl _) q1 q2 q3 q4 q5 q6 q7 q8 q9⟩) hexc
  cases ea
  unfold collect
  refine wpAny_bind (wpAny_runValue (codeAny_builtin F.entry_proto_collect ?_))
  rw [Around.under_plainId F.plain_proto_collect _]
  refine wpAny_bind (m := newList []) (wpAny_newObj_type (wpAny_pure ⟨plainId_quiet F.plain_list_iadd _, codeAny_builtin F.entry_list_iadd ?_⟩))
  rw [Around.under_plainId F.plain_list_iadd _]
  show wpAny _ A.in1 (Builtin.List.listExtendWith (.ref s.heap.objs.size) (.ref a) (.ref s.heap.objs.size)) _ _ _
  unfold Builtin.List.listExtendWith Builtin.List.listLengthHint Builtin.List.listTouch
  have n1 : (Value.type "generator" == Value.type "list" || Value.type "generator" == Value.type "tuple") = false := by decide
  refine wpAny_bind (wpAny_typeOf ty0 ?_)
  simp only [ne, n1, Bool.or_false, Bool.false_or, Bool.false_eq_true, if_false]
  refine wpAny_bind (wpAny_pyIter_gen g0 (wpAny_bind (wpAny_holding (wpAny_bind (wpAny_specialOf ty0 F.gen_no_len (wpAny_bind (wpAny_specialOf ty0 F.gen_no_hint ?_)))))))
  refine wpAny_pure (wpAny_bind (wpAny_rule (wpAny_bind ?_)))
  refine wpAny_bind (wpAny_updateSeq at0 rfl ?_ (by decide) (by decide))
  refine wpAny_updateSeq at1 rfl ?_ (by decide) (by decide)
  refine wpAny_pure ⟨plainId_quiet F.plain_extend_loop _, ?_⟩
  refine codeAny_mono loop fun r s' hq => ?_
  cases r with
  | error e => exact hq
  | ok f =>
    cases f with
    | ret v =>
      obtain ⟨rfl, acc, c, q1, q2⟩ := hq
      exact wpAny_bind (m := load s.heap.objs.size) (wpAny_load q1 (wpAny_pure q2))
    | next => exact hq.elim
    | brk => exact hq.elim
    | cont => exact hq.elim
theorem call_tuple_gn {Q' : Value → Shared → Prop} (hr : Room (k + 3) A) (hfr : A.frames = some outer) (h : GMade P w k outer H sc ex Q EX u s)
    (hQ : ∀ (S : Addr) (s' : Shared) (acc : Array Value) (c : Nat) (H' : Hp) (ys : List V), s.heap.objs.size ≤ S → s'.heap.get? S = some (lstObj acc c) → Vals ys acc.toList → ys.length ≤ sizeLine → s'.os = sc.os → AllBare s'.gens → Un (frs outer) ex H H' sc.heap s'.heap → HOk P w H' s'.heap → H' S = none → Q ys H' →
      Q' (.ref s'.heap.objs.size) { s' with heap := s'.heap.push { cls := .type "tuple", data := .seq acc } })
    (hexc : ∀ e s' g, CX P w outer H sc EX e s' → NotStop (model P w) e s'.heap ∧ E e (s'.setGen g .finished)) :
    wpAny (model P w) A (call (.type "tuple") [u]) Q' E s := by
  have hTI : s.TypeIs u "generator" := by
    obtain ⟨a, g, c, rfl, _, _, hg, _⟩ := id h
    exact hg.typeIs
  obtain ⟨a, eu⟩ : ∃ a, u = .ref a := by
    obtain ⟨a, _, _, e, _⟩ := id h
    exact ⟨a, e⟩
  subst eu
  refine callType_codes (Q₁ := fun obj s₁ => s₁.TypeIs obj "tuple" ∧ Q' obj s₁) F.called_tuple (F.typeCall_tuple_1 _) F.entry_object_init ?_ fun obj s₁ h₁ => ?_
  · refine codeAny_of_tree ?_
    show wpAny _ A.in1.in1 (do checkBuiltinCall "tuple.__new__" ⟨[.type "tuple", .ref a], []⟩; again (.builtin "tuple.__new__" ⟨[.type "tuple", .ref a], []⟩)) _ _ s
    refine wpAny_bind (wpAny_of_eq (F.newCall_tuple_1 _) (wpAny_pure ⟨plainId_quiet F.plain_tuple_new _, codeAny_builtin F.entry_tuple_new ?_⟩))
    rw [Around.under_plainId F.plain_tuple_new _]
    have hsub := sub_tuple_self
    have hinit := init_tuple_lookup
    have hmh := madeHere_tuple
    wp_walk using wpAny_typeOf hTI, collect_gn (k := k) (hr.in1.in1) hfr h
    · intro S s' acc c H' ys q0 q1 q2 hl q3 q4 q5 q6 q7 q8
      show wpAny _ _ (Builtin.Tuple.tupleExact acc.toList.toArray >>= fun v => ret v) _ _ _
      unfold Builtin.Tuple.tupleExact
      have hsz : acc.toList.toArray.size ≤ sizeLine := by
        have := q2.length
        simp only [Array.toArray_toList]
        rw [← Array.length_toList]
        omega
      refine wpAny_bind (wpAny_newObj_type ?_ hsz)
      refine wpAny_pure ?_
      have e : acc.toList.toArray = acc := by simp
      rw [e]
      exact ⟨⟨_, Heap.get?_push_size _ rfl, rfl⟩, hQ S s' acc c H' ys q0 q1 q2 hl q3 q4 q5 q6 q7 q8⟩
    · intro e s' g hc
      exact hexc e s' g hc
  · exact ⟨h₁.1, F.args_object_init_2 obj _, object_init_meets F.called_tuple.init.lookup F.called_tuple.made (by decide) P w A.in1 _ s₁ ⟨h₁.1, rfl, h₁.2⟩⟩
end
section
variable {X : Cx} {k j : Nat} {ps : List Str} {sp : SpG} {x : Str} {p p2 pos pos2 : Pos} {e : Expr} {es : List Expr} {t : TA}
def tTupleG (tg : TGen) : TE := fun σ H Q => tg σ H fun out H2 => ∀ D, H2 D = none → ∀ T, upd H2 D (.lst out) T = none → Q (.ref T) (upd (upd H2 D (.lst out)) T (.tup out))
/-- tuple(g), where the generator raises nothing -/
theorem pe_tupleG {e : Expr} {tg : TGen} (h : PGen X k e tg L2.E0) (hr : Room (k + 3) X.A) (hg : Gl X "tuple") (hmg : X.mg "tuple" = none)
    (he : starEach [e] X.env = (false, eval e X.env) :: starEach [] X.env := by rfl) : PE X (.Call (.Name "tuple" p) [e] [] pos) (tTupleG tg) := by
  refine ⟨fun pins s σ H Q I hq => wpAny_Call_Name_kw (ld_blt I hg hmg (u := .type "tuple") (by rfl) (PyProof.Rows.callWith_type1 ?_ he rfl) (by decide) (by decide))⟩
  rw [he]
  refine Calls.spliced_cons (thn (h.run pins s σ H _ I hq) fun u s1 ⟨H1, sc, ex, I1, hex, hG⟩ => Calls.spliced_nil ?_)
  have hsz : sc.heap.objs.size ≤ s1.heap.objs.size := by
    obtain ⟨_, _, _, _, h1, h2, _⟩ := id hG
    exact Nat.le_trans h1 (Nat.le_of_lt h2)
  refine call_tuple_gn hr I1.ok.frames hG (fun S s' acc c H' ys q0 q1 q2 hl q3 q4 q5 q6 q7 q8 => ?_) fun e s' g hc => ?_
  · have I2 := I1.drained (Nat.le_trans hsz q0) hl q1 q2 hex q3 q4 q5 q6 q7
    exact ⟨.ref s'.heap.objs.size, upd (upd H' S (.lst ys)) s'.heap.objs.size (.tup ys),
      I2.laid (t' := s'.toks) (fun b o e => Heap.get?_push_of_some _ e) (Nat.le_refl _) (show ObjOk X.prog X.w _ _ _ (.tup ys) from ⟨hl, acc.toList, q2, IsTup.new _ _⟩), rfl, q8 S q7 _ (I2.hok.fresh (Nat.le_refl _))⟩
  · obtain ⟨_, _, _, _, _, _, _, _, _, _, _, _, z⟩ := hc
    exact z.elim
theorem pe_tupleD (D : Dgn X.prog X.w X.K X.mg X.base k x ps sp) (hr : Room j X.A) (hj : k + 3 ≤ j) (hx : Gl X x) (hg : Gl X "tuple") (hmt : X.mg "tuple" = none)
    (ha : PA X (e :: es) t) (hdb : (x == ("__debug__" : Str)) = false := by decide) (he : starEach (e :: es) X.env = (false, eval e X.env) :: starEach es X.env := by rfl) (hpl : (backTo pos (starEach es X.env)).any (·.1) = false := by rfl)
    (he2 : starEach [.Call (.Name x p) (e :: es) [] pos] X.env = (false, eval (.Call (.Name x p) (e :: es) [] pos) X.env) :: starEach [] X.env := by rfl) :
    PE X (.Call (.Name "tuple" p2) [.Call (.Name x p) (e :: es) [] pos] [] pos2) (tTupleG (tCallG sp [] L2.E0 t)) := by
  obtain ⟨f, fd, F, hm, hk, hb⟩ := D.ex
  exact pe_tupleG (pgen_call F (hr.mono (by omega)) hx hm hk hb .nil ha hdb he hpl) (hr.mono hj) hg hmt he2
end
end Gk
namespace Pf
open PySem PySem.Spec PyProof.Rows L2 Gk Fold
/-! ### the last error -/
/-- what is told of the last of the wrong moments: those from far on never end -/
def lastV (ws : List Nat) (far : Nat) : V := match ws.getLast? with
  | none => .int (-1)
  | some m => if far ≤ m then .non else .int (m : Int)
def lastD (ws : List Nat) (far : Nat) : PyData := match ws.getLast? with
  | none => .int (-1)
  | some m => if far ≤ m then .none else .int (m : Int)
theorem lastDp {K : PySem.W.Frag} {H : Hp} (ws : List Nat) (far : Nat) : Dp K H (lastV ws far) (lastD ws far) := by
  unfold lastV lastD
  cases ws.getLast? with
  | none => exact .int _
  | some m =>
    dsimp only
    split
    · exact .non
    · exact .int _
theorem wrongM_same {l : List (Int × Int)} {k : Str} {x : Option Int} {L : Nat} {w v0 : Int} {a : Nat} : ∀ i, (∀ m, a ≤ m → m < a + i → ¬ wrongAt l k x L w v0 m) → wrongM l k x L w v0 (a + i) = wrongM l k x L w v0 a
  | 0, _ => rfl
  | i + 1, h => by
    have e : pM l k x L w v0 (a + i) = outM l (a + i) := by
      by_cases c : pM l k x L w v0 (a + i) = outM l (a + i)
      · exact c
      · exact absurd c (h (a + i) (by omega) (by omega))
    rw [show a + (i + 1) = a + i + 1 by omega, wrongM_succ, if_pos e, List.append_nil, wrongM_same i fun m h1 h2 => h m h1 (by omega)]
theorem wrongM_last {l : List (Int × Int)} {k : Str} {x : Option Int} {L : Nat} {w v0 : Int} {a m : Nat} (hm : a ≤ m) (hw : wrongAt l k x L w v0 m) : ∀ i, ∃ q, (wrongM l k x L w v0 (m + i + 1)).getLast? = some q ∧ a ≤ q
  | 0 => by
    refine ⟨m, ?_, hm⟩
    have hw : ¬ pM l k x L w v0 m = outM l m := hw
    rw [Nat.add_zero, wrongM_succ, if_neg hw, List.getLast?_concat]
  | i + 1 => by
    rw [wrongM_succ]
    by_cases c : pM l k x L w v0 (m + (i + 1)) = outM l (m + (i + 1))
    · rw [if_pos c, List.append_nil]
      exact wrongM_last hm hw i
    · rw [if_neg c, List.getLast?_concat]
      exact ⟨_, rfl, by omega⟩
theorem wrongM_lt {l : List (Int × Int)} {k : Str} {x : Option Int} {L : Nat} {w v0 : Int} {M m : Nat} (h : m ∈ wrongM l k x L w v0 M) : m < M := by
  unfold wrongM at h
  exact List.mem_range.mp (List.mem_filter.mp h).1
theorem wrong_per {l : List (Int × Int)} {k : Str} {x : Option Int} {L : Nat} {w v0 : Int} (hl : 1 ≤ l.length) (hw : 1 ≤ w) (h0 : 0 ≤ v0) (h1 : v0 ≤ top w) {m : Nat} (hm : farN L w * l.length ≤ m) : ∀ t, wrongAt l k x L w v0 (m + t * l.length) ↔ wrongAt l k x L w v0 m
  | 0 => by rw [Nat.zero_mul, Nat.add_zero]
  | t + 1 => by
    rw [← wrong_per hl hw h0 h1 hm t, Nat.succ_mul, ← Nat.add_assoc]
    unfold wrongAt
    rw [pM_per hl hw h0 h1 (by unfold farN at hm; omega), outM_per]
/-- a late round tells it for all that follow -/
theorem last_late {l : List (Int × Int)} {k : Str} {x : Option Int} {L : Nat} {w v0 : Int} (hl : 1 ≤ l.length) (hw : 1 ≤ w) (h0 : 0 ≤ v0) (h1 : v0 ≤ top w) :
    lastV (wrongM l k x L w v0 ((farN L w + 1) * l.length)) (farN L w * l.length) = lastV (wrongM l k x L w v0 ((farN L w + 5) * l.length)) ((farN L w + 4) * l.length) ∧
    lastD (wrongM l k x L w v0 ((farN L w + 1) * l.length)) (farN L w * l.length) = lastD (wrongM l k x L w v0 ((farN L w + 5) * l.length)) ((farN L w + 4) * l.length) := by
  have e1 : (farN L w + 1) * l.length = farN L w * l.length + l.length := Nat.succ_mul ..
  have e4 : (farN L w + 4) * l.length = farN L w * l.length + 4 * l.length := Nat.add_mul ..
  have e5 : (farN L w + 5) * l.length = farN L w * l.length + 5 * l.length := Nat.add_mul ..
  rw [e1, e4, e5]
  have per := fun {m} hm t => wrong_per (l := l) (k := k) (x := x) (L := L) (w := w) (v0 := v0) hl hw h0 h1 (m := m) hm t
  generalize farN L w * l.length = a at per
  by_cases c : ∃ m, a ≤ m ∧ m < a + l.length ∧ wrongAt l k x L w v0 m
  · obtain ⟨m, m1, m2, m3⟩ := c
    obtain ⟨q1, g1, g2⟩ := wrongM_last m1 m3 (a + l.length - m - 1)
    rw [show m + (a + l.length - m - 1) + 1 = a + l.length by omega] at g1
    obtain ⟨q2, f1, f2⟩ := wrongM_last (a := a + 4 * l.length) (m := m + 4 * l.length) (by omega) ((per m1 4).mpr m3) (a + l.length - m - 1)
    rw [show m + 4 * l.length + (a + l.length - m - 1) + 1 = a + 5 * l.length by omega] at f1
    unfold lastV lastD
    rw [g1, f1]
    dsimp only
    rw [if_pos g2, if_pos f2, if_pos g2, if_pos f2]
    exact ⟨rfl, rfl⟩
  · have none1 : ∀ m, a ≤ m → m < a + 5 * l.length → ¬ wrongAt l k x L w v0 m := fun m h1 h2 h3 => by
      have hr : (m - a) % l.length < l.length := Nat.mod_lt _ hl
      have dm := Nat.div_add_mod (m - a) l.length
      refine c ⟨a + (m - a) % l.length, by omega, by omega, ?_⟩
      refine (per (by omega) ((m - a) / l.length)).mp ?_
      rw [show a + (m - a) % l.length + (m - a) / l.length * l.length = m by rw [Nat.mul_comm]; omega]
      exact h3
    rw [wrongM_same l.length fun m h1 h2 => none1 m h1 (by omega), wrongM_same (5 * l.length) none1]
    unfold lastV lastD
    cases e : (wrongM l k x L w v0 a).getLast? with
    | none => exact ⟨rfl, rfl⟩
    | some m =>
      have := wrongM_lt (List.mem_of_getLast? e)
      dsimp only
      rw [if_neg (by omega), if_neg (by omega), if_neg (by omega), if_neg (by omega)]
      exact ⟨rfl, rfl⟩
theorem atI_lastN {ws : List Nat} {m : Nat} (h : ws.getLast? = some m) : atI (ws.map fun m : Nat => V.int (m : Int)) (-1) = some (V.int (m : Int)) := by
  obtain ⟨ys, rfl⟩ := List.getLast?_eq_some_iff.mp h
  rw [List.map_append]
  exact atI_last _ _
abbrev sLastE : Stmt := topS 19
abbrev nLastE : List Str := ["trace", "scheme", "counter", "rounds", "wrong"]
theorem scLastE : FnScope nLastE ["trace", "scheme", "counter"] (defScope sLastE) := ⟨rfl, rfl, rfl, by decide +kernel, rfl, by decide +kernel, by decide +kernel⟩
section
variable {P : Program} {w : World} {K : PySem.W.Frag} {mg : Str → Option Value} {base : Heap}
def spLastE (K : PySem.W.Frag) : Sp := fun vs H Q _ => ∃ (t c g : Addr) (l : List (Int × Int)) (k : Str) (z : Int) (x : Option Int) (w v0 : Int), vs = [.ref t, .ref c, .ref g] ∧ PairsAt K H t l ∧ Fair l ∧ 1 ≤ l.length ∧ l.length ≤ 64 ∧ SqT K H c (planV k z x) ∧ PlanOk k z x ∧
  SqT K H g [.int w, .int v0] ∧ 1 ≤ w ∧ w ≤ 8 ∧ 0 ≤ v0 ∧ v0 ≤ top w ∧ ∀ H', Same H H' → Q (lastV (wrongM l k x z.toNat w v0 ((farN z.toNat w + 1) * l.length)) (farN z.toNat w * l.length)) H'
theorem ok_lastE {f : Addr} {fd : FuncData} (DN : Dfn P w K mg base 2 "_early_rounds" ["scheme", "counter"] (spEarN K)) (DW : Dfn P w K mg base 10 "wrong_moments" ["trace", "scheme", "counter", "rounds"] (spWrong K)) (ml : mg "len" = none)
    (F : L2.Fun K "last_error" "last_error" sLastE f fd) : FnOk P w K mg base L2.CX0 11 f fd ["trace", "scheme", "counter"] (spLastE K) := by
  refine F.ok scLastE (fun vs H Q E h => ?_) (fun cdv A outer s H vs Q E hr h => ?_)
  · obtain ⟨t, c, g, l, k, z, x, w, v0, rfl, _⟩ := h
    rfl
  · obtain ⟨t, c, g, l, k, z, x, wd, v0, rfl, hl, fair, l1, l64, hc, ok, hg, w1, w8, v1, v2, q⟩ := h
    obtain ⟨xst, sqt, hAt, lt⟩ := PairsAt.out hl
    refine ⟨_, pss_cons (ps_set (i := 3) scLastE.nd rfl (.inl rfl) (pe_d DN hr (by decide) (by rfl) (pa_cons (pv 1) (pa_cons (pv 2) pa_nil))))
      (pss_cons (ps_set (i := 4) scLastE.nd rfl (.inl rfl) (pe_d DW hr (by decide) (by rfl) (pa_cons (pv 0) (pa_cons (pv 1) (pa_cons (pv 2) (pa_cons (pv 3) pa_nil))))))
      (pss_cons (ps_if (pt_not (pt_truth (pv 4) (fun _ => rfl))) (pss_one (ps_ret (pe_un un_neg pe_int))) pss_nil)
      (pss_cons (ps_if (pt_cmpR op_ge (pe_ix ix_list (pv 4) (pe_un un_neg pe_int) (fun _ _ => rfl)) (pe_op op_mul (pe_op op_sub (pv 3) pe_int) (pe_callB call_len_seq (by rfl) ml PySem.boot_len (pa_cons (pv 0) pa_nil))) (nomark _)) (pss_one (ps_ret pe_non)) pss_nil)
      (pss_one (ps_ret (pe_ix ix_list (pv 4) (pe_un un_neg pe_int) (fun _ _ => rfl))))))), ?_⟩
    have t1 := top_small w1 w8
    have z64 := ok.2.1
    have farle : farN z.toNat wd ≤ 400 := by unfold farN; omega
    refine ⟨.ref c, rfl, .ref g, rfl, c, g, k, z, x, wd, v0, rfl, hc, ok, hg, w1, w8, go_name ?_⟩
    refine ⟨.ref t, rfl, .ref c, rfl, .ref g, rfl, .int ((farN z.toNat wd + 1 : Nat) : Int), rfl, t, c, g, l, k, z, x, wd, v0, farN z.toNat wd + 1, rfl, hl, fair, l1, l64, hc, ok, hg, w1, by omega, v1, v2, by omega, fun H1 W s1 nW hW => go_name ?_⟩
    have q := q H1 s1
    unfold lastV at q
    refine ⟨.ref W, rfl, _, .inl ⟨_, SqL.of hW, rfl⟩, ?_⟩
    cases e : (wrongM l k x z.toNat wd v0 ((farN z.toNat wd + 1) * l.length)).getLast? with
    | none =>
      rw [e] at q
      rw [List.getLast?_eq_none_iff] at e
      rw [e]
      exact ⟨_, rfl, q⟩
    | some m =>
      rw [e] at q
      have ne : wrongM l k x z.toNat wd v0 ((farN z.toNat wd + 1) * l.length) ≠ [] := fun z => by rw [z] at e; cases e
      have em : ((wrongM l k x z.toNat wd v0 ((farN z.toNat wd + 1) * l.length)).map fun m : Nat => V.int (m : Int)).isEmpty = false := by
        cases h : wrongM l k x z.toNat wd v0 ((farN z.toNat wd + 1) * l.length) with
        | nil => exact absurd h ne
        | cons a b => rfl
      rw [em]
      have er : ((farN z.toNat wd + 1 : Nat) : Int) - 1 = (farN z.toNat wd : Nat) := by omega
      have emul : (((farN z.toNat wd + 1 : Nat) : Int) - 1) * ((xst.length : Nat) : Int) = ((farN z.toNat wd * l.length : Nat) : Int) := by rw [er, lt, Int.natCast_mul]
      refine ⟨.ref W, rfl, _, rfl, W, _, _, _, rfl, rfl, SqL.of hW, atI_lastN e, .int ((farN z.toNat wd + 1 : Nat) : Int), rfl, _, _, rfl, rfl, .ref t, rfl, t, xst, rfl, .inr (Same.seqT s1 sqt), _, _, rfl, rfl, .inr ⟨by omega, by omega⟩, _, _, rfl, rfl, _, rfl, ?_⟩
      rw [emul]
      refine ite2 (fun d => ?_) (fun d => ?_)
      · have d := of_decide_eq_true d
        dsimp only at q
        rw [if_pos (by omega)] at q
        exact q
      · have d := mt decide_eq_true d
        dsimp only at q
        rw [if_neg (by omega)] at q
        exact ⟨.ref W, rfl, _, rfl, W, _, _, _, rfl, rfl, SqL.of hW, atI_lastN e, q⟩
end
end Pf
namespace Pf
open PySem PySem.Spec PyProof.Rows L2 Gk Fold
section
variable {P : Program} {w : World} {K : PySem.W.Frag} {mg : Str → Option Value} {base : Heap}
abbrev sErr : Stmt := topS 11
theorem scErr : FnScope ["trace", "scheme", "counter", "rounds"] ["trace", "scheme", "counter", "rounds"] (defScope sErr) := ⟨rfl, rfl, rfl, by decide +kernel, rfl, by decide +kernel, by decide +kernel⟩
def spErr (K : PySem.W.Frag) : Sp := fun vs H Q _ => ∃ (t c g : Addr) (l : List (Int × Int)) (k : Str) (z : Int) (x : Option Int) (w v0 : Int) (r : Nat), vs = [.ref t, .ref c, .ref g, .int (r : Int)] ∧ PairsAt K H t l ∧ Fair l ∧ 1 ≤ l.length ∧ l.length ≤ 64 ∧ SqT K H c (planV k z x) ∧ PlanOk k z x ∧
  SqT K H g [.int w, .int v0] ∧ 1 ≤ w ∧ w ≤ 64 ∧ 0 ≤ v0 ∧ v0 ≤ top w ∧ r ≤ 1000 ∧ ∀ H', Same H H' → Q (.int (wrongM l k x z.toNat w v0 (r * l.length)).length) H'
theorem ok_errors {f : Addr} {fd : FuncData} (DW : Dfn P w K mg base 10 "wrong_moments" ["trace", "scheme", "counter", "rounds"] (spWrong K)) (ml : mg "len" = none) (F : L2.Fun K "errors_in" "errors_in" sErr f fd) : FnOk P w K mg base L2.CX0 11 f fd ["trace", "scheme", "counter", "rounds"] (spErr K) := by
  refine F.ok scErr (fun vs H Q E h => ?_) (fun cdv A outer s H vs Q E hr h => ?_)
  · obtain ⟨t, c, g, l, k, z, x, w, v0, r, rfl, _⟩ := h
    rfl
  · obtain ⟨t, c, g, l, k, z, x, wd, v0, r, rfl, hl, fair, l1, l64, hc, ok, hg, w1, w64, v1, v2, r1, q⟩ := h
    refine ⟨_, pss_one (ps_ret (pe_callB call_len_seq (by rfl) ml PySem.boot_len (pa_cons (pe_d DW hr (by decide) (by rfl) (pa_cons (pv 0) (pa_cons (pv 1) (pa_cons (pv 2) (pa_cons (pv 3) pa_nil))))) pa_nil))), ?_⟩
    refine ⟨.ref t, rfl, .ref c, rfl, .ref g, rfl, .int (r : Int), rfl, t, c, g, l, k, z, x, wd, v0, r, rfl, hl, fair, l1, l64, hc, ok, hg, w1, w64, v1, v2, r1, fun H' p s np hp => ⟨p, _, rfl, .inl (SqL.of hp), ?_⟩⟩
    rw [List.length_map]
    exact q H' s
end
end Pf
namespace Pf
open PySem PySem.Spec PyProof.Rows L2 Gk Fold
/-! ### sums of rounds; the trace written twice -/
section
variable {l : List (Int × Int)} {k : Str} {x : Option Int} {L : Nat} {w v0 : Int}
theorem twice_at (m : Nat) : (l ++ l).getD (m % (l ++ l).length) (0, 0) = l.getD (m % l.length) (0, 0) := by
  by_cases h : l.length = 0
  · obtain rfl := List.length_eq_zero_iff.mp h
    rfl
  have hl : 1 ≤ l.length := by omega
  rw [List.length_append]
  have h2 : m % (l.length + l.length) < l.length + l.length := Nat.mod_lt _ (by omega)
  have e : m % (l.length + l.length) % l.length = m % l.length := by
    rw [show l.length + l.length = l.length * 2 by omega]
    exact Nat.mod_mul_right_mod m l.length 2
  rw [List.getD_eq_getElem?_getD, List.getD_eq_getElem?_getD]
  by_cases c : m % (l.length + l.length) < l.length
  · rw [List.getElem?_append_left c, ← e, Nat.mod_eq_of_lt c]
  · rw [List.getElem?_append_right (by omega), ← e]
    generalize m % (l.length + l.length) = r at *
    have e2 : r % l.length = r - l.length := by rw [Nat.mod_eq_sub_mod (by omega), Nat.mod_eq_of_lt (by omega)]
    rw [e2]
theorem twice_br (m : Nat) : brAt (l ++ l) m = brAt l m := by unfold brAt; rw [twice_at]
theorem twice_out (m : Nat) : outM (l ++ l) m = outM l m := by unfold outM; rw [twice_at]
theorem twice_h : ∀ m, hM (l ++ l) k L m = hM l k L m
  | 0 => rfl
  | m + 1 => by
    funext o
    by_cases c : o = ownO k (brAt l m)
    · rw [hM_push (l := l) c, hM_push (l := l ++ l) (by rw [twice_br]; exact c), twice_h m, twice_out]
    · rw [hM_stay (l := l) c, hM_stay (l := l ++ l) (by rw [twice_br]; exact c), twice_h m]
theorem twice_c (m : Nat) : cM (l ++ l) k x L m = cM l k x L m := by unfold cM hAtM; rw [twice_br, twice_h]
theorem twice_v : ∀ m, vM (l ++ l) k x L w v0 m = vM l k x L w v0 m
  | 0 => rfl
  | m + 1 => by
    have ih := twice_v m
    funext q
    simp only [vM, valM, ih, twice_c, twice_out]
theorem twice_p (m : Nat) : pM (l ++ l) k x L w v0 m = pM l k x L w v0 m := by unfold pM valM; rw [twice_v, twice_c]
theorem twice_wrong (M : Nat) : wrongM (l ++ l) k x L w v0 M = wrongM l k x L w v0 M := by
  unfold wrongM
  congr 1
  funext m
  rw [twice_p, twice_out]
theorem twice_tot (n : Nat) : totR (l ++ l) k x L w v0 n = totR l k x L w v0 (2 * n) := by
  rw [← wrong_tot, ← wrong_tot, twice_wrong, List.length_append]
  congr 2
  rw [Nat.mul_comm 2 n, Nat.mul_assoc, Nat.two_mul]
theorem twice_e (j : Nat) : eR (l ++ l) k x L w v0 j = eR l k x L w v0 (2 * j) + eR l k x L w v0 (2 * j + 1) := by
  have h1 := twice_tot (l := l) (k := k) (x := x) (L := L) (w := w) (v0 := v0) (j + 1)
  have h0 := twice_tot (l := l) (k := k) (x := x) (L := L) (w := w) (v0 := v0) j
  rw [show 2 * (j + 1) = 2 * j + 1 + 1 by omega] at h1
  rw [totR, totR, totR, h0] at h1
  omega
/-- from a round on all rounds have so many errors -/
theorem tot_from {s e : Nat} (h : ∀ j, s ≤ j → eR l k x L w v0 j = e) : ∀ d, totR l k x L w v0 (s + d) = totR l k x L w v0 s + d * e
  | 0 => by rw [Nat.zero_mul]; rfl
  | d + 1 => by
    rw [← Nat.add_assoc, totR, tot_from h d, h _ (by omega), Nat.succ_mul]
    omega
theorem same_from {s : Nat} (hl : 1 ≤ l.length) (hw : 1 ≤ w) (h0 : 0 ≤ v0) (h1 : v0 ≤ top w) (hs : s ≤ farN L w) (h : ∀ j, s ≤ j → j ≤ farN L w → eR l k x L w v0 j = eR l k x L w v0 (farN L w)) : ∀ j, s ≤ j → eR l k x L w v0 j = eR l k x L w v0 (farN L w) := fun j hj => by
  by_cases c : j ≤ farN L w
  · exact h j hj c
  · have := eR_late (l := l) (k := k) (x := x) (L := L) hl hw h0 h1 (j - farN L w)
    rw [show L + (top w).toNat = farN L w from rfl, show farN L w + (j - farN L w) = j by omega] at this
    exact this
theorem bR_pos {j : Nat} : ∀ n, 0 < bR l k x L w v0 j n ↔ ∃ i, i < n ∧ wrongAt l k x L w v0 (j * l.length + i)
  | 0 => ⟨fun h => absurd h (Nat.lt_irrefl _), fun ⟨i, h, _⟩ => absurd h (Nat.not_lt_zero _)⟩
  | n + 1 => by
    rw [bR]
    constructor
    · intro h
      by_cases c : wrongAt l k x L w v0 (j * l.length + n)
      · exact ⟨n, Nat.lt_succ_self _, c⟩
      · rw [if_neg c, Nat.add_zero] at h
        obtain ⟨i, h1, h2⟩ := (bR_pos n).mp h
        exact ⟨i, by omega, h2⟩
    · rintro ⟨i, h1, h2⟩
      by_cases c : i = n
      · rw [← c, if_pos h2]; omega
      · have := (bR_pos n).mpr ⟨i, by omega, h2⟩
        omega
theorem wrong_mem {m M : Nat} : m ∈ wrongM l k x L w v0 M ↔ m < M ∧ wrongAt l k x L w v0 m := by
  unfold wrongM wrongAt
  rw [List.mem_filter, List.mem_range]
  simp
/-- the last error against the rounds -/
theorem last_is {s : Nat} (hl : 1 ≤ l.length) (hs : s ≤ farN L w) (h : ∀ j, s ≤ j → eR l k x L w v0 j = eR l k x L w v0 (farN L w)) (hp : s = 0 ∨ eR l k x L w v0 (s - 1) ≠ eR l k x L w v0 (farN L w)) :
    (0 < eR l k x L w v0 (farN L w) ∧ lastV (wrongM l k x L w v0 ((farN L w + 1) * l.length)) (farN L w * l.length) = .non) ∨
    (eR l k x L w v0 (farN L w) = 0 ∧ (lastV (wrongM l k x L w v0 ((farN L w + 1) * l.length)) (farN L w * l.length) = .int (-1) ∨ ∃ m : Nat, m < farN L w * l.length ∧ lastV (wrongM l k x L w v0 ((farN L w + 1) * l.length)) (farN L w * l.length) = .int (m : Int) ∧ 0 < s ∧ m / l.length = s - 1)) := by
  obtain ⟨N, hN⟩ : ∃ N, N = (farN L w + 1) * l.length := ⟨_, rfl⟩
  obtain ⟨A, hA⟩ : ∃ A, A = farN L w * l.length := ⟨_, rfl⟩
  have em : N = A + l.length := by rw [hN, hA]; exact Nat.succ_mul _ _
  rw [← hN, ← hA]
  have atlast : ∀ {m : Nat}, wrongAt l k x L w v0 m → m < N → ∃ q, (wrongM l k x L w v0 N).getLast? = some q ∧ m ≤ q := fun {m} hw hm => by
    have := wrongM_last (a := m) (Nat.le_refl m) hw (N - m - 1)
    rwa [show m + (N - m - 1) + 1 = N by omega] at this
  by_cases c : 0 < eR l k x L w v0 (farN L w)
  · refine .inl ⟨c, ?_⟩
    obtain ⟨i, hi, hw⟩ := (bR_pos _).mp c
    rw [← hA] at hw
    obtain ⟨q, e, hq⟩ := atlast hw (by omega)
    unfold lastV
    rw [e]
    dsimp only
    rw [if_pos (by omega)]
  · have z : eR l k x L w v0 (farN L w) = 0 := by omega
    refine .inr ⟨z, ?_⟩
    unfold lastV
    cases e : (wrongM l k x L w v0 N).getLast? with
    | none => exact .inl rfl
    | some m =>
      dsimp only
      obtain ⟨hm, hw⟩ := wrong_mem.mp (List.mem_of_getLast? e)
      have dm := Nat.div_add_mod m l.length
      have ml : m % l.length < l.length := Nat.mod_lt _ hl
      have er : 0 < eR l k x L w v0 (m / l.length) := (bR_pos _).mpr ⟨m % l.length, ml, by rw [Nat.mul_comm, dm]; exact hw⟩
      have rs : m / l.length < s := by
        by_cases g : s ≤ m / l.length
        · rw [h _ g, z] at er
          exact absurd er (Nat.lt_irrefl _)
        · omega
      have mf : m < A := by
        rw [hA]
        have : m / l.length < farN L w := by omega
        exact (Nat.div_lt_iff_lt_mul (by omega)).mp this
      rw [if_neg (by omega)]
      refine .inr ⟨m, mf, rfl, Nat.lt_of_le_of_lt (Nat.zero_le _) rs, ?_⟩
      have s0 : ¬ s = 0 := fun z => by rw [z] at rs; exact Nat.not_lt_zero _ rs
      have ne := hp.resolve_left s0
      rw [z] at ne
      obtain ⟨i, hi, hw2⟩ := (bR_pos (j := s - 1) l.length).mp (show 0 < eR l k x L w v0 (s - 1) by omega)
      obtain ⟨q, e2, hq⟩ := atlast hw2 (by
        have : (s - 1) * l.length + l.length ≤ A := by
          rw [hA, ← Nat.succ_mul]
          exact Nat.mul_le_mul_right _ (by omega)
        omega)
      rw [e] at e2
      obtain rfl := Option.some.inj e2
      have : (s - 1) ≤ m / l.length := (Nat.le_div_iff_mul_le (by omega)).mpr (by omega)
      omega
end
end Pf
namespace Pf
open PySem PySem.Spec PyProof.Rows L2 Gk Fold
abbrev sRight : Stmt := topS 30
abbrev nRight : List Str := ["_law_box_here", "_law_turn", "_law_loop_here", "_law_gauge_here", "_law_plan_here", "_law_first", "_law_late", "_law_spots", "_law_row_here", "_law_often", "_law_far", "_law_told"]
theorem scRight : FnScope nRight ["_law_box_here"] (defScope sRight) := ⟨rfl, rfl, rfl, by decide +kernel, rfl, by decide +kernel, by decide +kernel⟩
theorem ints_tame : ∀ {ns : List Int}, (∀ n ∈ ns, n.natAbs < 10 ^ 20) → tameAll (ns.map PyData.int) = true
  | [], _ => rfl
  | n :: ns, h => by
    have e : decide (n.natAbs < 10 ^ 20) = true := decide_eq_true (h n List.mem_cons_self)
    have r := ints_tame fun m hm => h m (List.mem_cons_of_mem _ hm)
    show (decide (n.natAbs < 10 ^ 20) && tameAll (ns.map PyData.int)) = true
    rw [e, r]
    rfl
theorem ints_eqv {ns : List Int} (h : ∀ n ∈ ns, n.natAbs < 10 ^ 20) : PyData.eqv (.list (ns.map PyData.int)) (.list (ns.map PyData.int)) = true := eqv_same (by show tameAll _ = true; exact ints_tame h)
theorem shaped2 (a b : Int) : SeqAt.shaped (.list ([a, b].map PyData.int)) = true := rfl
theorem shaped4 (a b c d : Int) : SeqAt.shaped (.list ([a, b, c, d].map PyData.int)) = true := rfl
theorem totR_le {l : List (Int × Int)} {k : Str} {x : Option Int} {L : Nat} {w v0 : Int} : ∀ n, totR l k x L w v0 n ≤ n * l.length
  | 0 => by rw [Nat.zero_mul]; exact Nat.le_refl _
  | n + 1 => by
    rw [totR, Nat.succ_mul]
    have := totR_le (l := l) (k := k) (x := x) (L := L) (w := w) (v0 := v0) n
    have := eR_small (l := l) (k := k) (x := x) (L := L) (w := w) (v0 := v0) n
    omega
theorem ints_dp {K : PySem.W.Frag} {H : Hp} {a : Addr} : ∀ {ns : List Int}, H a = some (.lst (ns.map V.int)) → Dp K H (.ref a) (.list (ns.map PyData.int)) := fun {ns} h => .lst (SqL.of h) (by
  clear h
  induction ns with
  | nil => exact .nil
  | cons n ns ih => exact .cons (.int n) ih)
theorem dpl_two {K : PySem.W.Frag} {H : Hp} : ∀ {xs ys : List V} {ds es : List PyData}, DpAll K H xs ds → DpAll K H ys es → DpAll K H (xs ++ ys) (ds ++ es)
  | _, _, _, _, .nil, h => h
  | _, _, _, _, .cons h t, g => .cons h (dpl_two t g)
theorem pairs_two {K : PySem.W.Frag} {H H' : Hp} {t p : Addr} {l : List (Int × Int)} {xs : List V} (hA : DpAll K H xs (l.map pd)) (s : Same H H') (h : SqT K H' p (List.replicate (2 : Int).toNat xs).flatten) : PairsAt K H' p (l ++ l) := by
  have e : (List.replicate (2 : Int).toNat xs).flatten = xs ++ xs := by
    show xs ++ (xs ++ []) = _
    rw [List.append_nil]
  rw [e] at h
  have tp : tupsAll (l.map pd) = true := by
    clear hA
    induction l with
    | nil => rfl
    | cons q r ih =>
      show (tups (pd q) && tupsAll (r.map pd)) = true
      rw [ih]
      rfl
  have h2 := DpAll.keep (Same.keep s) _ _ tp hA
  exact .tup h (by rw [List.map_append]; exact dpl_two h2 h2)
theorem not_dec {p : Prop} {i : Decidable p} (h : (!@decide p i) = true) : ¬ p := fun hp => by
  rw [decide_eq_true hp] at h
  exact absurd h (by decide)
section
variable {P : Program} {w : World} {K : PySem.W.Frag} {mg : Str → Option Value} {base : Heap}
def spRight : Sp := fun vs H Q _ => ∃ (b : Addr) (m : Nat), vs = [.ref b] ∧ Box m H b ∧ m + 1500 ≤ 900000 ∧ ∀ H', But b H H' → Box (m + 1500) H' b → Q (.bl true) H'
set_option maxHeartbeats 4000000 in
theorem ok_right {f : Addr} {fd : FuncData} (DTk : Dfn P w K mg base 1 "_law_take" ["_law_box_here", "_law_many"] spTake) (DO : Dfn P w K mg base 2 "_law_of" ["_law_box_here", "_law_some"] (spOf K)) (DL : Dfn P w K mg base 3 "_law_loop" ["_law_box_here", "_law_most", "_law_homes"] (spLoop K))
    (DP : Dfn P w K mg base 3 "_law_plan" ["_law_box_here", "_law_most"] (spPlan K)) (DG : Dfn P w K mg base 3 "_law_gauge" ["_law_box_here"] spGau)
    (DS : Dfn P w K mg base 13 "steady_errors" ["trace", "scheme", "counter"] (spEarE K qSteE)) (DF : Dfn P w K mg base 13 "settles" ["trace", "scheme", "counter"] (spEarE K qSett)) (DT : Dfn P w K mg base 13 "total_errors" ["trace", "scheme", "counter", "rounds"] (spTotE K))
    (DE : Dfn P w K mg base 11 "errors_in" ["trace", "scheme", "counter", "rounds"] (spErr K)) (DA : Dfn P w K mg base 11 "last_error" ["trace", "scheme", "counter"] (spLastE K))
    (mr : mg "range" = none) (ml : mg "len" = none) (mx : mg "max" = none) (F : L2.Fun K "_law_right" "_law_right" sRight f fd) : FnG P w K mg base 14 f fd ["_law_box_here"] spRight := by
  refine fnG F scRight (fun vs H Q E h => ?_) (fun cdv A outer s H vs Q hr hg h => ?_)
  · obtain ⟨b, m, rfl, _⟩ := h
    rfl
  · obtain ⟨b, m, rfl, hb, hm, q⟩ := h
    refine ⟨_, pss_cons (ps_for PassesOwn.never rfl (pi_range1 rfl mr (pa_cons pe_int pa_nil)) (pg_name (i := 1) scRight.nd rfl (.inl rfl))
        (C8.pss_cut (ps_asg (pe_tup (pa_cons (pe_d DL hr (by decide) (by rfl) (pa_cons (pv 0) (pa_cons pe_int (pa_cons pe_int pa_nil)))) (pa_cons (pe_d DG hr (by decide) (by rfl) (pa_cons (pv 0) pa_nil)) pa_nil))) (pg_tup (n := 2) (by rfl) (pgs_cons (pg_name (i := 2) scRight.nd rfl (.inr rfl)) (pgs_cons (pg_name (i := 3) scRight.nd rfl (.inr rfl)) pgs_nil))))
        (C8.pss_cut (ps_set (i := 4) scRight.nd rfl (.inr rfl) (pe_d DP hr (by decide) (by rfl) (pa_cons (pv 0) (pa_cons (pe_d DO hr (by decide) (by rfl) (pa_cons (pv 0) (pa_cons (pe_lst (pa_cons pe_int (pa_cons pe_int (pa_cons pe_int pa_nil)))) pa_nil))) pa_nil))))
        (C8.pss_cut (ps_par (i := 5) (j := 6) (by rfl) scRight.nd rfl rfl (by decide) rfl rfl (pa_cons (pe_d DF hr (by decide) (by rfl) (pa_cons (pv 2) (pa_cons (pv 4) (pa_cons (pv 3) pa_nil)))) (pa_cons (pe_d DS hr (by decide) (by rfl) (pa_cons (pv 2) (pa_cons (pv 4) (pa_cons (pv 3) pa_nil)))) pa_nil)) (by rfl))
        (C8.pss_cut (ps_set (i := 7) scRight.nd rfl (.inl rfl) (pe_lst (pa_cons (pe_callB (call_max2 rfl) (by rfl) mx (by decide +kernel) (pa_cons pe_int (pa_cons (pe_op op_sub (pv 5) pe_int) pa_nil))) (pa_cons (pv 5) (pa_cons (pe_op op_add (pv 5) pe_int) (pa_cons (pe_op op_add (pv 5) pe_int) pa_nil))))))
        (C8.pss_cut (ps_setLc (i := 8) (own := [("_law_often", 9)]) (g := gName 9) (by rfl) scRight.nd rfl rfl (sw_true rfl rfl rfl (by decide +kernel)) (pi_list (pv 7)) (blkOk_by (N := nRight) (sc := defScope sRight) (by decide +kernel))
            (fun _ _ _ _ _ => pg_name (i := 9) scRight.nd rfl (.inl rfl)) (fun _ _ _ _ _ => pts_nil) (fun _ _ _ _ _ => pe_d DT hr (by decide) (by rfl) (pa_cons (pv 2) (pa_cons (pv 4) (pa_cons (pv 3) (pa_cons (pv 9) pa_nil))))))
        (C8.pss_cut (ps_if (PW.pt (pw_or (pt_cmpR (op_neD hr.units) (pe_lst (pa_cons (pe_op op_sub (pe_ix ix_list (pv 8) pe_int (fun _ _ => rfl)) (pe_ix ix_list (pv 8) pe_int (fun _ _ => rfl))) (pa_cons (pe_op op_sub (pe_ix ix_list (pv 8) pe_int (fun _ _ => rfl)) (pe_ix ix_list (pv 8) pe_int (fun _ _ => rfl))) pa_nil)))
              (pe_lst (pa_cons (pv 6) (pa_cons (pe_op op_mul pe_int (pv 6)) pa_nil))) (nomark _))
            (pw_or1 (PW.pt (pw_and (pt_cmpR op_gt (pv 5) pe_int (nomark _)) (pw_and1 (pt_cmpR op_eq (pe_op op_sub (pe_ix ix_list (pv 8) pe_int (fun _ _ => rfl)) (pe_ix ix_list (pv 8) pe_int (fun _ _ => rfl))) (pv 6) (nomark _)))))))) (pss_one (ps_ret pe_bl)) pss_nil)
        (pss_cons (ps_if (pt_cmpR (op_neD hr.units) (pv 8) (pe_lc (own := [("_law_often", 9)]) (g := gName 9) (by rfl) scRight.nd (pi_list (pv 7)) (blkOk_by (N := nRight) (sc := defScope sRight) (by decide +kernel))
            (fun _ _ _ _ _ => pg_name (i := 9) scRight.nd rfl (.inl rfl)) (fun _ _ _ _ _ => pts_nil) (fun _ _ _ _ _ => pe_d DE hr (by decide) (by rfl) (pa_cons (pv 2) (pa_cons (pv 4) (pa_cons (pv 3) (pa_cons (pv 9) pa_nil)))))) (nomark _)) (pss_one (ps_ret pe_bl)) pss_nil)
        (C8.pss_cut (ps_set (i := 10) scRight.nd rfl (.inl rfl) (pe_op op_add (pv 5) (pe_d DTk hr (by decide) (by rfl) (pa_cons (pv 0) (pa_cons (pe_d DO hr (by decide) (by rfl) (pa_cons (pv 0) (pa_cons (pe_lst (pa_cons pe_int (pa_cons (pe_op op_pow pe_int pe_int) (pa_cons (pe_op op_sub (pe_op op_pow pe_int pe_int) pe_int) pa_nil)))) pa_nil))) pa_nil)))))
        (pss_cons (ps_if (pt_cmpR op_ne (pe_d DT hr (by decide) (by rfl) (pa_cons (pv 2) (pa_cons (pv 4) (pa_cons (pv 3) (pa_cons (pv 10) pa_nil))))) (pe_op op_add (pe_ix ix_list (pv 8) pe_int (fun _ _ => rfl)) (pe_op op_mul (pe_op op_sub (pv 10) (pv 5)) (pv 6))) (nomark _)) (pss_one (ps_ret pe_bl)) pss_nil)
        (pss_cons (ps_set (i := 11) scRight.nd rfl (.inl rfl) (pe_d DA hr (by decide) (by rfl) (pa_cons (pv 2) (pa_cons (pv 4) (pa_cons (pv 3) pa_nil)))))
        (C8.pss_cut (ps_if (PW.pt (pw_or (pt_cmpR op_ne (pe_cmpR op_isN (pv 11) pe_non (nomark _)) (pe_cmpR op_gt (pv 6) pe_int (nomark _)) (nomark _))
            (pw_or1 (PW.pt (pw_and (pt_cmpR op_eq (pv 6) pe_int (nomark _)) (pw_and (pt_cmpR op_ne (pv 11) (pe_un un_neg pe_int) (nomark _)) (pw_and1 (pt_cmpR op_ne (pe_op op_fdiv (pv 11) (pe_callB call_len_seq (by rfl) ml PySem.boot_len (pa_cons (pv 2) pa_nil))) (pe_callB (call_max2 rfl) (by rfl) mx (by decide +kernel) (pa_cons pe_int (pa_cons (pe_op op_sub (pv 5) pe_int) pa_nil))) (nomark _))))))))) (pss_one (ps_ret pe_bl)) pss_nil)
        (pss_one (ps_if (pt_cmpR op_lt (pe_callB call_len_seq (by rfl) ml PySem.boot_len (pa_cons (pv 2) pa_nil)) pe_int (nomark _))
          (C8.pss_cut (ps_set (i := 9) scRight.nd rfl (.inl rfl) (pe_d DTk hr (by decide) (by rfl) (pa_cons (pv 0) (pa_cons (pe_op op_pow pe_int pe_int) pa_nil))))
          (pss_cons (ps_if (pt_cmpR op_ne (pe_d DT hr (by decide) (by rfl) (pa_cons (pe_op op_repU (pv 2) pe_int) (pa_cons (pv 4) (pa_cons (pv 3) (pa_cons (pv 9) pa_nil))))) (pe_d DT hr (by decide) (by rfl) (pa_cons (pv 2) (pa_cons (pv 4) (pa_cons (pv 3) (pa_cons (pe_op op_mul pe_int (pv 9)) pa_nil))))) (nomark _)) (pss_one (ps_ret pe_bl)) pss_nil)
          (pss_one (ps_if (pt_cmpR op_ne (pe_d DS hr (by decide) (by rfl) (pa_cons (pe_op op_repU (pv 2) pe_int) (pa_cons (pv 4) (pa_cons (pv 3) pa_nil)))) (pe_op op_mul pe_int (pv 6)) (nomark _)) (pss_one (ps_ret pe_bl)) pss_nil)))) pss_nil))))))))))))))
      (pss_one (ps_ret pe_bl)), ?_⟩
    refine ⟨_, rfl, by decide, by decide, ?_⟩
    refine for_range (lo := 0) (n := (3 : Int).toNat) (fun i σ H' => (∃ y1 y2 y3 y4 y5 y6 y7 y8 y10 y11 y9, σ = [some (.ref b), y1, y2, y3, y4, y5, y6, y7, y8, y9, y10, y11]) ∧ But b H H' ∧ Box (m + 300 * i) H' b) ⟨⟨_, _, _, _, _, _, _, _, _, _, _, rfl⟩, But.refl _ _, hb⟩ (fun i σ H0 hi hp => ?_) (fun σ H0 hp => ?_)
    · obtain ⟨⟨y1, y2, y3, y4, y5, y6, y7, y8, y10, y11, y9, rfl⟩, bt0, bx0⟩ := hp
      have hi : i < 3 := hi
      refine ⟨fun σ H' => ∃ (t g : Addr) (l : List (Int × Int)) (wd v0 : Int), σ = [some (.ref b), some (.int (0 + (i : Nat))), some (.ref t), some (.ref g), y4, y5, y6, y7, y8, y9, y10, y11] ∧ PairsAt K H' t l ∧ Fair l ∧ 1 ≤ l.length ∧ l.length ≤ 40 ∧ SqT K H' g [.int wd, .int v0] ∧ 1 ≤ wd ∧ wd ≤ 8 ∧ 0 ≤ v0 ∧ v0 ≤ top wd ∧ But b H H' ∧ Box (m + 300 * i + 260) H' b, ?_, fun σ H1 hM => ?_⟩
      · refine ⟨.ref b, rfl, b, 40, 8, m + 300 * i, rfl, by decide, by decide, by decide, by decide, bx0, by omega, fun H3 t l bt3 bx3 hl l1 l2 fair => ?_⟩
        refine ⟨.ref b, rfl, b, m + 300 * i + 250, rfl, bx3, by omega, fun H4 g wd v0 bt4 bx4 gb ng hg w1 w2 v1 v2 => ?_⟩
        refine ⟨by show 2 ≤ sizeLine; decide, fun p np => ⟨p, _, rfl, .inl (.inl upd_same), rfl, _, _, rfl, _, _, rfl, rfl, ?_⟩⟩
        have s5 := same_new (o := .tup [.ref t, .ref g]) np
        exact ⟨t, g, l, wd, v0, rfl, (hl.keep (But.keep bt4 bx3)).keep (Same.keep s5), fair, l1, by omega, Same.seqT s5 (.inl (.inl hg)), w1, by omega, v1, by unfold top; omega, ((bt0.trans bt3).trans bt4).trans (But.of_same s5), bx4.same s5⟩
      obtain ⟨t, g, l, wd, v0, rfl, hl, fair, l1, l40, hgg, w1, w8, v1, v2, bt1, bx1⟩ := hM
      refine ⟨fun σ H' => ∃ (c : Addr) (k : Str) (z : Int) (x : Option Int), σ = [some (.ref b), some (.int (0 + (i : Nat))), some (.ref t), some (.ref g), some (.ref c), y5, y6, y7, y8, y9, y10, y11] ∧ Keep K H1 H' ∧ SqT K H' c (planV k z x) ∧ PlanOk k z x ∧ But b H H' ∧ Box (m + 300 * i + 271) H' b, ?_, fun σ H2 hM => ?_⟩
      · refine ⟨.ref b, rfl, .ref b, rfl, by show 3 ≤ sizeLine; decide, fun p np => ?_⟩
        have bx2 := bx1.same (same_new (o := .lst [.int 4, .int 12, .int 40]) np)
        refine ⟨b, p, _, m + 300 * i + 260, rfl, SqL.of upd_same, (bx1.ne np).symm, by show 0 < 3; decide, by show 3 ≤ 1000; decide, bx2, by omega, fun i2 v H3 g2 bt3 bx3 sm3 => ?_⟩
        have hv : ∃ n : Int, v = .int n ∧ 0 ≤ n ∧ n ≤ 64 := by
          match i2, g2 with
          | 0, g => exact ⟨4, by rw [← Option.some.inj g], by decide, by decide⟩
          | 1, g => exact ⟨12, by rw [← Option.some.inj g], by decide, by decide⟩
          | 2, g => exact ⟨40, by rw [← Option.some.inj g], by decide, by decide⟩
        obtain ⟨n, rfl, n1, n2⟩ := hv
        have bt13 : But b H1 H3 := (But.new np).trans bt3
        refine ⟨b, n, m + 300 * i + 261, rfl, n1, n2, bx3, by omega, fun H4 c k z x bt4 bx4 cb c0 hc ok => ?_⟩
        exact ⟨c, k, z, x, rfl, But.keep (bt13.trans bt4) bx1, .inl (.inl hc), ok, (bt1.trans bt13).trans bt4, bx4⟩
      obtain ⟨c, k, z, x, rfl, k12, hc2, ok, bt2, bx2⟩ := hM
      have hl2 := hl.keep k12
      have hg2 := k12 _ _ hgg
      have z0 := ok.1
      have z64 := ok.2.1
      have t1 := top_small w1 w8
      have far : farN z.toNat wd ≤ 400 := by unfold farN; omega
      generalize hF : farN z.toNat wd = F at far
      refine ⟨fun σ H' => ∃ (s : Nat), σ = [some (.ref b), some (.int (0 + (i : Nat))), some (.ref t), some (.ref g), some (.ref c), some (.int (s : Int)), some (.int ((eR l k x z.toNat wd v0 F : Nat) : Int)), y7, y8, y9, y10, y11] ∧ Same H2 H' ∧ s ≤ F ∧ (∀ j, s ≤ j → eR l k x z.toNat wd v0 j = eR l k x z.toNat wd v0 F) ∧ (s = 0 ∨ eR l k x z.toNat wd v0 (s - 1) ≠ eR l k x z.toNat wd v0 F), ?_, fun σ H3 hM => ?_⟩
      · refine ⟨.ref t, rfl, .ref c, rfl, .ref g, rfl, t, c, g, l, k, z, x, wd, v0, rfl, hl2, fair, l1, by omega, hc2, ok, hg2, w1, w8, v1, v2, fun H3 s s23 hs sam ear => ?_⟩
        refine ⟨.ref t, rfl, .ref c, rfl, .ref g, rfl, t, c, g, l, k, z, x, wd, v0, rfl, hl2.keep (Same.keep s23), fair, l1, by omega, Same.seqT s23 hc2, ok, Same.seqT s23 hg2, w1, w8, v1, v2, fun H4 s34 => ?_⟩
        have sf := same_from l1 w1 v1 v2 hs sam
        rw [hF] at hs sf ear ⊢
        exact ⟨_, _, rfl, s, rfl, s23.trans s34, hs, sf, ear⟩
      obtain ⟨s, rfl, s23, hs, sam, ear⟩ := hM
      generalize he : eR l k x z.toNat wd v0 F = e at sam ear
      have e40 : e ≤ 40 := by rw [← he]; exact Nat.le_trans (eR_small F) l40
      have hl3 := hl2.keep (Same.keep s23)
      have hc3 := Same.seqT s23 hc2
      have hg3 := Same.seqT s23 hg2
      have bx3 := bx2.same s23
      -- the spots
      have mx0 : ∀ s : Nat, (if (s : Int) - 1 > 0 then (s : Int) - 1 else 0) = ((s - 1 : Nat) : Int) := fun s => by split <;> omega
      refine ⟨fun σ H' => ∃ q0, σ = [some (.ref b), some (.int (0 + (i : Nat))), some (.ref t), some (.ref g), some (.ref c), some (.int (s : Int)), some (.int (e : Int)), some (.ref q0), y8, y9, y10, y11] ∧ Same H3 H' ∧ H' q0 = some (.lst (([s - 1, s, s + 1, s + 5] : List Nat).map fun n : Nat => V.int (n : Int))), ?_, fun σ H4 hM => ?_⟩
      · refine ⟨.int (s : Int), rfl, _, _, rfl, rfl, _, _, rfl, .int (s : Int), rfl, .int (s : Int), rfl, _, _, rfl, rfl, .int (s : Int), rfl, _, _, rfl, rfl, by show 4 ≤ sizeLine; decide, fun q0 nq => ⟨q0, rfl, same_new nq, ?_⟩⟩
        rw [upd_same]
        dsimp only
        rw [mx0 s]
        rfl
      obtain ⟨q0, rfl, s34, hq⟩ := hM
      have hl4 := hl3.keep (Same.keep s34)
      have hc4 := Same.seqT s34 hc3
      have hg4 := Same.seqT s34 hg3
      have bx4 := bx3.same s34
      have small : ∀ n ∈ ([s - 1, s, s + 1, s + 5] : List Nat), n ≤ 405 := fun n hn => by
        simp only [List.mem_cons, List.not_mem_nil, or_false] at hn
        omega
      have totle : ∀ n : Nat, n ≤ 405 → totR l k x z.toNat wd v0 n ≤ 16200 := fun n hn => by
        have := totR_le (l := l) (k := k) (x := x) (L := z.toNat) (w := wd) (v0 := v0) n
        have : n * l.length ≤ 405 * 40 := Nat.mul_le_mul hn l40
        omega
      refine ⟨fun σ H' => ∃ r0, σ = [some (.ref b), some (.int (0 + (i : Nat))), some (.ref t), some (.ref g), some (.ref c), some (.int (s : Int)), some (.int (e : Int)), some (.ref q0), some (.ref r0), y9, y10, y11] ∧ Same H4 H' ∧ H' r0 = some (.lst (([s - 1, s, s + 1, s + 5] : List Nat).map fun n : Nat => V.int ((totR l k x z.toNat wd v0 n : Nat) : Int))), ?_, fun σ H5 hM => ?_⟩
      · refine ⟨.ref q0, rfl, q0, rfl, ⟨_, SqL.of hq⟩, fun D nD => lc_list (K := K) (a := q0) (xs := ([s - 1, s, s + 1, s + 5] : List Nat).map fun n : Nat => V.int (n : Int)) (fun j H' => Same H4 H' ∧ H' D = some (.lst ((([s - 1, s, s + 1, s + 5] : List Nat).take j).map fun n : Nat => V.int ((totR l k x z.toNat wd v0 n : Nat) : Int)))) ⟨same_new nD, upd_same⟩ (fun j H' _ hp => SqL.of (hp.1 _ _ hq)) (fun j v Ha hv hp => ?_) (fun Ha hp => ?_)⟩
        · obtain ⟨sa, hD⟩ := hp
          rw [List.getElem?_map] at hv
          obtain ⟨n, hn, rfl⟩ := Option.map_eq_some_iff.mp hv
          have n405 := small n (List.mem_of_getElem? hn)
          refine ⟨rfl, .ref t, rfl, .ref c, rfl, .ref g, rfl, .int (n : Int), rfl, t, c, g, l, k, z, x, wd, v0, n, rfl, hl4.keep (Same.keep sa), fair, l1, by omega, Same.seqT sa hc4, ok, Same.seqT sa hg4, w1, w8, v1, v2, by omega, fun Hb sb => ⟨_, sb _ _ hD, ?_, fun a o h => ?_, ?_⟩⟩
          · rw [List.length_map, List.length_take]
            exact small1000 (by have := List.length_cons (a := s - 1) (as := [s, s + 1, s + 5]); simp; omega)
          · rw [upd_ne (ne_of_none h nD)]
            exact sb _ _ (sa _ _ h)
          · rw [upd_same, List.take_succ, hn, List.map_append]
            rfl
        · obtain ⟨sa, hD⟩ := hp
          exact ⟨D, rfl, sa, hD⟩
      obtain ⟨r0, rfl, s45, hr0⟩ := hM
      have T : ∀ n : Nat, ([s - 1, s, s + 1, s + 5] : List Nat)[n]? = none ∨ True := fun _ => .inr trivial
      have hr1 : H5 r0 = some (.lst [.int ((totR l k x z.toNat wd v0 (s - 1) : Nat) : Int), .int ((totR l k x z.toNat wd v0 s : Nat) : Int), .int ((totR l k x z.toNat wd v0 (s + 1) : Nat) : Int), .int ((totR l k x z.toNat wd v0 (s + 5) : Nat) : Int)]) := hr0
      have t1' : totR l k x z.toNat wd v0 (s + 1) = totR l k x z.toNat wd v0 s + e := by rw [totR, sam s (Nat.le_refl _)]
      have t5' : totR l k x z.toNat wd v0 (s + 5) = totR l k x z.toNat wd v0 s + 5 * e := tot_from sam 5
      have t0' : 0 < s → totR l k x z.toNat wd v0 s = totR l k x z.toNat wd v0 (s - 1) + eR l k x z.toNat wd v0 (s - 1) := fun h => by
        have : s = s - 1 + 1 := by omega
        rw [this, totR]
        rfl
      have lt0 := totle s (by omega)
      have s35 := s34.trans s45
      have hl5 := hl4.keep (Same.keep s45)
      have hc5 := Same.seqT s45 hc4
      have hg5 := Same.seqT s45 hg4
      have bx5 := bx4.same s45
      have hq5 := s45 _ _ hq
      -- the differences
      refine ⟨fun σ H' => σ = [some (.ref b), some (.int (0 + (i : Nat))), some (.ref t), some (.ref g), some (.ref c), some (.int (s : Int)), some (.int (e : Int)), some (.ref q0), some (.ref r0), y9, y10, y11] ∧ Same H5 H', ?_, fun σ H6 hM => ?_⟩
      · skip
        refine ⟨.ref r0, rfl, r0, _, 2, _, rfl, rfl, SqL.of hr1, rfl, .ref r0, rfl, r0, _, 1, _, rfl, rfl, SqL.of hr1, rfl, _, _, rfl, rfl, .ref r0, rfl, r0, _, 3, _, rfl, rfl, SqL.of hr1, rfl, .ref r0, rfl, r0, _, 1, _, rfl, rfl, SqL.of hr1, rfl, _, _, rfl, rfl, by show 2 ≤ sizeLine; decide, fun p1 np1 => ?_⟩
        refine ⟨.int (e : Int), rfl, .int (e : Int), rfl, _, _, rfl, rfl, .inl ⟨by decide, by decide⟩, by show 2 ≤ sizeLine; decide, fun p2 np2 => ?_⟩
        have s6 := (same_new (o := .lst [V.int (((totR l k x z.toNat wd v0 (s + 1) : Nat) : Int) - ((totR l k x z.toNat wd v0 s : Nat) : Int)), .int (((totR l k x z.toNat wd v0 (s + 5) : Nat) : Int) - ((totR l k x z.toNat wd v0 s : Nat) : Int))]) np1).trans (same_new (o := .lst [.int (e : Int), .int (5 * (e : Int))]) np2)
        have hp1 := same_new (o := .lst [.int (e : Int), .int (5 * (e : Int))]) np2 _ _ (upd_same (H := H5) (a := p1) (o := .lst [V.int (((totR l k x z.toNat wd v0 (s + 1) : Nat) : Int) - ((totR l k x z.toNat wd v0 s : Nat) : Int)), .int (((totR l k x z.toNat wd v0 (s + 5) : Nat) : Int) - ((totR l k x z.toNat wd v0 s : Nat) : Int))]))
        have d1 : ((totR l k x z.toNat wd v0 (s + 1) : Nat) : Int) - ((totR l k x z.toNat wd v0 s : Nat) : Int) = (e : Int) := by omega
        have d5 : ((totR l k x z.toNat wd v0 (s + 5) : Nat) : Int) - ((totR l k x z.toNat wd v0 s : Nat) : Int) = 5 * (e : Int) := by omega
        refine ⟨.list ([(e : Int), 5 * (e : Int)].map PyData.int), .list ([(e : Int), 5 * (e : Int)].map PyData.int), ints_dp ?_, ints_dp upd_same, shaped2 _ _, shaped2 _ _, _, rfl, ite2 (fun cc => ?_) (fun _ => ?_)⟩
        · refine hp1.trans ?_
          rw [d1, d5]
          rfl
        · have eq := ints_eqv (ns := [(e : Int), 5 * (e : Int)]) (fun n hn => by
            simp only [List.mem_cons, List.not_mem_nil, or_false] at hn
            rcases hn with rfl | rfl <;> omega)
          rw [eq] at cc
          exact absurd cc (by decide)
        have hr6 := s6 _ _ hr1
        dsimp only at hr6 ⊢
        have s56 : Same H5 _ := s6
        clear hp1 s6
        generalize upd (upd H5 p1 (.lst [V.int (((totR l k x z.toNat wd v0 (s + 1) : Nat) : Int) - ((totR l k x z.toNat wd v0 s : Nat) : Int)), .int (((totR l k x z.toNat wd v0 (s + 5) : Nat) : Int) - ((totR l k x z.toNat wd v0 s : Nat) : Int))])) p2 (.lst [.int (e : Int), .int (5 * (e : Int))]) = H6 at hr6 s56 ⊢
        refine ⟨.int (s : Int), rfl, _, _, rfl, rfl, _, rfl, ite2 (fun pos => ?_) (fun _ => ⟨rfl, s56⟩)⟩
        have pos : 0 < (s : Int) := of_decide_eq_true pos
        have ne := ear.resolve_left (by omega)
        have t0 := t0' (by omega)
        refine ⟨.ref r0, rfl, r0, _, 1, _, rfl, rfl, SqL.of hr6, rfl, .ref r0, rfl, r0, _, 0, _, rfl, rfl, SqL.of hr6, rfl, _, _, rfl, rfl, .int (e : Int), rfl, rfl, _, rfl, ite2 (fun cc => ?_) (fun _ => ⟨rfl, s56⟩)⟩
        have cc := of_decide_eq_true cc
        injection cc with cc
        exact absurd cc (by omega)
      obtain ⟨rfl, s56⟩ := hM
      have s36 := s35.trans s56
      have hl6 := hl5.keep (Same.keep s56)
      have hc6 := Same.seqT s56 hc5
      have hg6 := Same.seqT s56 hg5
      have bx6 := bx5.same s56
      have hr6 := s56 _ _ hr1
      have hq6 := s56 _ _ hq5
      -- the same by errors_in
      have wt : ∀ n : Nat, (wrongM l k x z.toNat wd v0 (n * l.length)).length = totR l k x z.toNat wd v0 n := fun n => wrong_tot n
      refine ⟨.ref r0, rfl, .ref q0, rfl, q0, rfl, ⟨_, SqL.of hq6⟩, fun D nD => lc_list (K := K) (a := q0) (xs := ([s - 1, s, s + 1, s + 5] : List Nat).map fun n : Nat => V.int (n : Int)) (fun j H' => Same H6 H' ∧ H' D = some (.lst ((([s - 1, s, s + 1, s + 5] : List Nat).take j).map fun n : Nat => V.int ((totR l k x z.toNat wd v0 n : Nat) : Int)))) ⟨same_new nD, upd_same⟩ (fun j H' _ hp => SqL.of (hp.1 _ _ hq6)) (fun j v Ha hv hp => ?_) (fun H7 hp => ?_)⟩
      · obtain ⟨sa, hD⟩ := hp
        rw [List.getElem?_map] at hv
        obtain ⟨n, hn, rfl⟩ := Option.map_eq_some_iff.mp hv
        have n405 := small n (List.mem_of_getElem? hn)
        refine ⟨rfl, .ref t, rfl, .ref c, rfl, .ref g, rfl, .int (n : Int), rfl, t, c, g, l, k, z, x, wd, v0, n, rfl, hl6.keep (Same.keep sa), fair, l1, by omega, Same.seqT sa hc6, ok, Same.seqT sa hg6, w1, by omega, v1, v2, by omega, fun Hb sb => ⟨_, sb _ _ hD, ?_, fun a o h => ?_, ?_⟩⟩
        · rw [List.length_map, List.length_take]
          exact small1000 (by simp; omega)
        · rw [upd_ne (ne_of_none h nD)]
          exact sb _ _ (sa _ _ h)
        · rw [upd_same, List.take_succ, hn, List.map_append, wt n]
          rfl
      obtain ⟨s67, hD⟩ := hp
      have hD7 : H7 D = some (.lst (([((totR l k x z.toNat wd v0 (s - 1) : Nat) : Int), ((totR l k x z.toNat wd v0 s : Nat) : Int), ((totR l k x z.toNat wd v0 (s + 1) : Nat) : Int), ((totR l k x z.toNat wd v0 (s + 5) : Nat) : Int)] : List Int).map V.int)) := hD
      have hr7 : H7 r0 = some (.lst (([((totR l k x z.toNat wd v0 (s - 1) : Nat) : Int), ((totR l k x z.toNat wd v0 s : Nat) : Int), ((totR l k x z.toNat wd v0 (s + 1) : Nat) : Int), ((totR l k x z.toNat wd v0 (s + 5) : Nat) : Int)] : List Int).map V.int)) := s67 _ _ hr6
      have lt1 := totle (s - 1) (by omega)
      have lt2 := totle (s + 1) (by omega)
      have lt3 := totle (s + 5) (by omega)
      refine ⟨_, _, ints_dp hr7, ints_dp hD7, shaped4 _ _ _ _, shaped4 _ _ _ _, _, rfl, ite2 (fun cc => ?_) (fun _ => ?_)⟩
      · rw [ints_eqv (fun n hn => by
          simp only [List.mem_cons, List.not_mem_nil, or_false] at hn
          rcases hn with rfl | rfl | rfl | rfl <;> omega)] at cc
        exact absurd cc (by decide)
      have s37 := s36.trans s67
      have hl7 := hl6.keep (Same.keep s67)
      have hc7 := Same.seqT s67 hc6
      have hg7 := Same.seqT s67 hg6
      have bx7 := bx6.same s67
      -- a far number of rounds
      refine ⟨fun σ H' => ∃ d : Nat, σ = [some (.ref b), some (.int (0 + (i : Nat))), some (.ref t), some (.ref g), some (.ref c), some (.int (s : Int)), some (.int (e : Int)), some (.ref q0), some (.ref r0), y9, some (.int ((s + d : Nat) : Int)), y11] ∧ d < 1000000000000000000 - 200 ∧ But b H7 H' ∧ Box (m + 300 * i + 273) H' b, ?_, fun σ H8 hM => ?_⟩
      · refine ⟨.int (s : Int), rfl, .ref b, rfl, .ref b, rfl, _, _, rfl, rfl, ⟨by decide, by decide, by decide⟩, _, _, rfl, rfl, ⟨by decide, by decide, by decide⟩, _, _, rfl, rfl, by show 3 ≤ sizeLine; decide, fun p np => ?_⟩
        have bxp := bx7.same (same_new (o := .lst [.int 9, .int (10 ^ (6 : Int).toNat), .int (10 ^ (18 : Int).toNat - 200)]) np)
        refine ⟨b, p, _, m + 300 * i + 271, rfl, SqL.of upd_same, (bx7.ne np).symm, by show 0 < 3; decide, by show 3 ≤ 1000; decide, bxp, by omega, fun i2 v Ha g2 bta bxa sma => ?_⟩
        have hv : ∃ n : Int, v = .int n ∧ 0 < n ∧ n ≤ 1000000000000000000 - 200 := by
          match i2, g2 with
          | 0, g => exact ⟨9, by rw [← Option.some.inj g], by decide, by decide⟩
          | 1, g => exact ⟨10 ^ (6 : Int).toNat, by rw [← Option.some.inj g], by decide, by decide⟩
          | 2, g => exact ⟨10 ^ (18 : Int).toNat - 200, by rw [← Option.some.inj g], by decide, by decide⟩
        obtain ⟨n, rfl, n1, n2⟩ := hv
        refine ⟨b, n, m + 300 * i + 271 + 1, rfl, n1, by omega, bxa, by omega, fun d Hb d0 d1' btb bxb smb => ⟨_, _, rfl, rfl, d.toNat, ?_, by omega, ((But.new np).trans bta).trans btb, bxb⟩⟩
        have : (s : Int) + d = ((s + d.toNat : Nat) : Int) := by omega
        show [some (.ref b), some (.int (0 + (i : Nat))), some (.ref t), some (.ref g), some (.ref c), some (.int (s : Int)), some (.int (e : Int)), some (.ref q0), some (.ref r0), y9, some (.int ((s : Int) + d)), y11] = _
        rw [this]
      obtain ⟨d, rfl, dl, bt8, bx8⟩ := hM
      obtain ⟨_, _, _, eb7, _⟩ := id bx7
      have r0b : r0 ≠ b := fun zz => by rw [zz, eb7] at hr7; cases hr7
      have hl8 := hl7.keep (But.keep bt8 bx7)
      have hc8 := But.keep bt8 bx7 _ _ hc7
      have hg8 := But.keep bt8 bx7 _ _ hg7
      have hr8 := bt8 _ _ r0b hr7
      have tf := tot_from sam d
      refine ⟨.ref t, rfl, .ref c, rfl, .ref g, rfl, .int ((s + d : Nat) : Int), rfl, t, c, g, l, k, z, x, wd, v0, s + d, rfl, hl8, fair, l1, by omega, hc8, ok, hg8, w1, w8, v1, v2, by omega, fun H9 s89 => ?_⟩
      have hr9 := s89 _ _ hr8
      refine ⟨.ref r0, rfl, r0, _, 1, _, rfl, rfl, SqL.of hr9, rfl, .int ((s + d : Nat) : Int), rfl, .int (s : Int), rfl, _, _, rfl, rfl, .int (e : Int), rfl, _, _, rfl, rfl, .inr ⟨by omega, by omega⟩, _, _, rfl, rfl, rfl, _, rfl, ite2 (fun cc => ?_) (fun _ => ?_)⟩
      · refine absurd cc ?_
        rw [tf]
        have : ((totR l k x z.toNat wd v0 s + d * e : Nat) : Int) = ((totR l k x z.toNat wd v0 s : Nat) : Int) + (((s + d : Nat) : Int) - (s : Int)) * (e : Int) := by
          have : ((s + d : Nat) : Int) - (s : Int) = (d : Int) := by omega
          rw [this]
          push_cast
          rfl
        rw [this]
        simp
      -- the last error
      have hl9 := hl8.keep (Same.keep s89)
      have hc9 := Same.seqT s89 hc8
      have hg9 := Same.seqT s89 hg8
      have bx9 := bx8.same s89
      refine ⟨.ref t, rfl, .ref c, rfl, .ref g, rfl, t, c, g, l, k, z, x, wd, v0, rfl, hl9, fair, l1, by omega, hc9, ok, hg9, w1, w8, v1, v2, fun H10 s910 => ?_⟩
      have li := last_is (l := l) (k := k) (x := x) (L := z.toNat) (w := wd) (v0 := v0) (s := s) l1 (by rw [hF]; exact hs) (by rw [hF, he]; exact sam) (by rw [hF, he]; exact ear)
      rw [hF, he] at li
      rw [hF]
      generalize lastV (wrongM l k x z.toNat wd v0 ((F + 1) * l.length)) (F * l.length) = lv at li
      obtain ⟨xst, sqt, hAt, lxt⟩ := PairsAt.out (hl9.keep (Same.keep s910))
      have bx10 := bx9.same s910
      have hl10 := hl9.keep (Same.keep s910)
      have hc10 := Same.seqT s910 hc9
      have hg10 := Same.seqT s910 hg9
      refine ⟨fun σ H' => σ = [some (.ref b), some (.int (0 + (i : Nat))), some (.ref t), some (.ref g), some (.ref c), some (.int (s : Int)), some (.int (e : Int)), some (.ref q0), some (.ref r0), y9, some (.int ((s + d : Nat) : Int)), some lv] ∧ H' = H10, ?_, fun σ H11 hM => ?_⟩
      · rcases li with ⟨ep, rfl⟩ | ⟨e0, rfl | ⟨mm, hmm, rfl, s0, hdiv⟩⟩
        · have e1 : decide ((0 : Int) < (e : Int)) = true := decide_eq_true (by omega)
          refine ⟨.non, rfl, rfl, .int (e : Int), rfl, _, _, rfl, rfl, rfl, _, rfl, ite2 (fun cc => ?_) (fun _ => ?_)⟩
          · exact absurd (show _ = V.bl (decide ((0 : Int) < (e : Int))) by rw [e1]; rfl) (not_dec cc)
          · refine ⟨.int (e : Int), rfl, rfl, _, rfl, ite2 (fun cc => ?_) (fun _ => ⟨rfl, rfl⟩)⟩
            have cc := of_decide_eq_true cc
            injection cc with cc
            exact absurd cc (by omega)
        · have e1 : decide ((0 : Int) < (e : Int)) = false := decide_eq_false (by omega)
          refine ⟨.int (-1), rfl, rfl, .int (e : Int), rfl, _, _, rfl, rfl, rfl, _, rfl, ite2 (fun cc => ?_) (fun _ => ?_)⟩
          · exact absurd (show _ = V.bl (decide ((0 : Int) < (e : Int))) by rw [e1]; rfl) (not_dec cc)
          · refine ⟨.int (e : Int), rfl, rfl, _, rfl, ite2 (fun _ => ?_) (fun _ => ⟨rfl, rfl⟩)⟩
            exact ⟨.int (-1), rfl, _, rfl, rfl, _, rfl, ite2 (fun cc => absurd cc (by decide)) (fun _ => ⟨rfl, rfl⟩)⟩
        · have e1 : decide ((0 : Int) < (e : Int)) = false := decide_eq_false (by omega)
          refine ⟨.int (mm : Int), rfl, rfl, .int (e : Int), rfl, _, _, rfl, rfl, rfl, _, rfl, ite2 (fun cc => ?_) (fun _ => ?_)⟩
          · exact absurd (show _ = V.bl (decide ((0 : Int) < (e : Int))) by rw [e1]; rfl) (not_dec cc)
          · refine ⟨.int (e : Int), rfl, rfl, _, rfl, ite2 (fun _ => ?_) (fun _ => ⟨rfl, rfl⟩)⟩
            refine ⟨.int (mm : Int), rfl, _, rfl, rfl, _, rfl, ite2 (fun _ => ?_) (fun _ => ⟨rfl, rfl⟩)⟩
            refine ⟨.int (mm : Int), rfl, .ref t, rfl, t, xst, rfl, .inr sqt, _, _, rfl, rfl, ⟨by rw [lxt]; omega, by rw [lxt]; omega⟩, .int (s : Int), rfl, _, _, rfl, rfl, _, _, rfl, rfl, _, rfl, ite2 (fun cc => ?_) (fun _ => ⟨rfl, rfl⟩)⟩
            have dv : (mm : Int) / ((l.length : Nat) : Int) = ((s - 1 : Nat) : Int) := by rw [← Int.natCast_ediv, hdiv]
            refine absurd ?_ (not_dec cc)
            show V.int _ = V.int _
            rw [mx0 s, lxt]
            exact congrArg V.int dv
      obtain ⟨rfl, rfl⟩ := hM
      -- the trace written twice
      refine ⟨.ref t, rfl, t, xst, rfl, .inr sqt, _, _, rfl, rfl, _, rfl, ite2 (fun few => ?_) (fun _ => ?_)⟩
      · have few : (xst.length : Int) < 33 := of_decide_eq_true few
        have l33 : l.length ≤ 32 := by omega
        refine ⟨fun σ H' => ∃ o : Nat, σ = [some (.ref b), some (.int (0 + (i : Nat))), some (.ref t), some (.ref g), some (.ref c), some (.int (s : Int)), some (.int (e : Int)), some (.ref q0), some (.ref r0), some (.int (o : Int)), some (.int ((s + d : Nat) : Int)), some lv] ∧ o < 1000000000 ∧ But b H11 H' ∧ Box (m + 300 * i + 274) H' b, ?_, fun σ H12 hM => ?_⟩
        · refine ⟨.ref b, rfl, _, _, rfl, rfl, ⟨by decide, by decide, by decide⟩, b, 10 ^ (9 : Int).toNat, m + 300 * i + 273, rfl, by decide, by decide, bx10, by omega, fun d2 Hb d0 d1' btb bxb smb => ?_⟩
          have d1'' : d2 < 1000000000 := d1'
          refine ⟨d2.toNat, ?_, by omega, btb, bxb⟩
          have : d2 = ((d2.toNat : Nat) : Int) := by omega
          rw [← this]
          rfl
        obtain ⟨o, rfl, o9, bt12, bx12⟩ := hM
        have kp := But.keep bt12 bx10 (K := K)
        have hl12 := hl10.keep kp
        have hc12 := kp _ _ hc10
        have hg12 := kp _ _ hg10
        obtain ⟨xs2, sq2, hA2, lx2⟩ := PairsAt.out hl12
        have ne2 : xs2 ≠ [] := fun zz => by rw [zz] at lx2; simp at lx2; omega
        have fair2 : Fair (l ++ l) := fun y hy => (List.mem_append.mp hy).elim (fair y) (fair y)
        have len2 : (l ++ l).length = l.length + l.length := List.length_append
        refine ⟨.ref t, rfl, t, 2, xs2, rfl, rfl, sq2, ne2, by decide, by decide, by omega, fun p Hp sp hp => ?_⟩
        have pp := pairs_two (t := t) hA2 sp hp
        refine ⟨.ref c, rfl, .ref g, rfl, .int (o : Int), rfl, p, c, g, l ++ l, k, z, x, wd, v0, o, rfl, pp, fair2, by omega, by omega, Same.seqT sp hc12, ok, Same.seqT sp hg12, w1, w8, v1, v2, by omega, fun H13 s13 => ?_⟩
        have s1213 := sp.trans s13
        refine ⟨.ref t, rfl, .ref c, rfl, .ref g, rfl, .int (o : Int), rfl, _, _, rfl, rfl, .inl ⟨by decide, by decide⟩, t, c, g, l, k, z, x, wd, v0, 2 * o, by show [V.ref t, .ref c, .ref g, .int (2 * (o : Int))] = _; rw [show (2 * (o : Int)) = ((2 * o : Nat) : Int) by omega], hl12.keep (Same.keep s1213), fair, l1, by omega, Same.seqT s1213 hc12, ok, Same.seqT s1213 hg12, w1, w8, v1, v2, by omega, fun H14 s14 => ?_⟩
        rw [twice_tot]
        refine ⟨rfl, _, rfl, ite2 (fun cc => absurd cc (by simp)) (fun _ => ?_)⟩
        have s1214 := s1213.trans s14
        obtain ⟨xs3, sq3, hA3, lx3⟩ := PairsAt.out (hl12.keep (Same.keep s1214))
        have ne3 : xs3 ≠ [] := fun zz => by rw [zz] at lx3; simp at lx3; omega
        refine ⟨.ref t, rfl, t, 2, xs3, rfl, rfl, sq3, ne3, by decide, by decide, by omega, fun p2 Hq sq hp2 => ?_⟩
        have pp2 := pairs_two (t := t) hA3 sq hp2
        have s12q := s1214.trans sq
        refine ⟨.ref c, rfl, .ref g, rfl, p2, c, g, l ++ l, k, z, x, wd, v0, rfl, pp2, fair2, by omega, by omega, Same.seqT s12q hc12, ok, Same.seqT s12q hg12, w1, w8, v1, v2, fun H15 s15 => ?_⟩
        rw [hF, twice_e, sam (2 * F) (by omega), sam (2 * F + 1) (by omega)]
        refine ⟨.int (e : Int), rfl, _, _, rfl, rfl, .inl ⟨by decide, by decide⟩, rfl, _, rfl, ite2 (fun cc => ?_) (fun _ => ?_)⟩
        · refine absurd cc ?_
          dsimp only
          rw [show ((e + e : Nat) : Int) = 2 * (e : Int) by omega]
          simp
        · have s1215 := s12q.trans s15
          have btE : But b H H11 := (bt2.trans (But.of_same (s23.trans s37))).trans (bt8.trans (But.of_same (s89.trans s910)))
          exact ⟨⟨_, _, _, _, _, _, _, _, _, _, _, rfl⟩, btE.trans (bt12.trans (But.of_same s1215)), (bx12.same s1215).up (by omega)⟩
      · have btE : But b H H11 := (bt2.trans (But.of_same (s23.trans s37))).trans (bt8.trans (But.of_same (s89.trans s910)))
        exact ⟨⟨_, _, _, _, _, _, _, _, _, _, _, rfl⟩, btE, bx10.up (by omega)⟩
    · obtain ⟨_, bt, bx⟩ := hp
      exact q _ bt (bx.up (by show m + 300 * 3 ≤ _; omega))
end
end Pf
namespace Pf
open PySem PySem.Spec PyProof.Rows L2 Gk
abbrev sLaw : Stmt := topS 31
abbrev nLaw : List Str := ["_law_script", "_law_k"]
theorem scLaw : FnScope nLaw ["_law_script"] (defScope sLaw) := ⟨rfl, rfl, rfl, by decide +kernel, rfl, by decide +kernel, by decide +kernel⟩
section
variable {P : Program} {w : World} {K : PySem.W.Frag} {mg : Str → Option Value} {base : Heap}
def spLaw (K : PySem.W.Frag) : Sp := fun vs H Q _ => ∃ (a : Addr) (ns : List Int), vs = [.ref a] ∧ SqL K H a (ns.map V.int) ∧ ns.length ≤ 63 ∧ ∀ H', Q (.bl true) H'
theorem ok_law {f : Addr} {fd : FuncData} {lv : Nat} (hlv : 1 ≤ lv) (DB : Dfn P w K mg base 1 "_law_box" ["_law_script", "_law_k"] (spBox K)) (DR : DfG P w K mg base lv "_law_right" ["_law_box_here"] spRight)
    (mr : mg "range" = none) (mx : mg "max" = none) (mn : mg "min" = none) (ml : mg "len" = none) (ma : mg "all" = none) (F : L2.Fun K "law" "law" sLaw f fd) : FnG P w K mg base (lv + 1) f fd ["_law_script"] (spLaw K) := by
  refine fnG F scLaw (fun vs H Q E h => ?_) (fun cdv A outer s H vs Q hr hg h => ?_)
  · obtain ⟨a, ns, rfl, _⟩ := h
    rfl
  · obtain ⟨a, ns, rfl, hS, hl, q⟩ := h
    refine ⟨_, pss_one (ps_ret (pe_callB (cr_all rfl) (by rfl) ma (by decide +kernel) (pa_cons (pe_lc (own := [("_law_k", 1)]) (g := gName 1) (by rfl) scLaw.nd (pi_range1 rfl mr (pa_cons (pe_callB (call_max2 rfl) (by rfl) mx (by decide +kernel) (pa_cons pe_int (pa_cons (pe_callB (call_min2 rfl) (by rfl) mn (by decide +kernel)
            (pa_cons (pe_callB call_len_seq (by rfl) ml PySem.boot_len (pa_cons (pv 0) pa_nil)) (pa_cons pe_int pa_nil))) pa_nil))) pa_nil)) (blkOk_by (N := nLaw) (sc := defScope sLaw) (by decide +kernel))
          (fun _ _ _ _ _ => pg_name (i := 1) scLaw.nd rfl (.inl rfl)) (fun _ _ _ _ _ => pts_nil) (fun _ _ _ _ _ => pe_dg DR hr hg (Nat.le_refl _) (by rfl) (pa_cons (pe_d DB hr hlv (by rfl) (pa_cons (pv 0) (pa_cons (pv 1) pa_nil))) pa_nil))) pa_nil))), ?_⟩
    refine ⟨.ref a, rfl, a, _, rfl, .inl hS, _, _, rfl, _, _, rfl, _, rfl, ?_, ?_, ?_⟩
    · split <;> split <;> omega
    · split <;> split <;> omega
    · generalize hz : (if (if (2 : Int) < ((ns.map V.int).length : Int) then (2 : Int) else ((ns.map V.int).length : Int)) > 1 then (if (2 : Int) < ((ns.map V.int).length : Int) then (2 : Int) else ((ns.map V.int).length : Int)) else 1) = z
      have z2 : z ≤ 2 := by rw [← hz]; split <;> split <;> omega
      refine fun D nD => lc_range (lo := 0) (n := z.toNat)
        (fun j H' => Same H H' ∧ H' D = some (.lst ((List.replicate j true).map V.bl))) ⟨same_new nD, upd_same⟩ (fun j H2 hj hp => ?_) (fun H2 hp => ?_)
      · obtain ⟨sm2, hD⟩ := hp
        refine ⟨rfl, .ref a, rfl, .int (0 + (j : Nat)), rfl, a, ns, 0 + (j : Nat), rfl, Same.seqLL sm2 hS, hl, by omega, by omega, fun b x y nb => ?_⟩
        refine ⟨b, 0, rfl, ⟨x, y, 0, upd_same, Int.le_refl _, Int.le_refl _⟩, by decide, fun H4 bt4 bx4 => ⟨(List.replicate j true).map V.bl, bt4 D _ (ne_of_none hD nb) (same_new nb D _ hD), ?_, ?_, ?_⟩⟩
        · rw [List.length_map, List.length_replicate]
          exact small1000 (by omega)
        · intro c o h
          rw [upd_ne (ne_of_none h nD)]
          have h2 := sm2 c o h
          exact bt4 c o (ne_of_none h2 nb) (same_new nb c o h2)
        · rw [upd_same, List.replicate_succ', List.map_append]
          rfl
      · obtain ⟨sm2, hD⟩ := hp
        refine ⟨D, List.replicate _ true, rfl, .inl (.inl hD), ?_⟩
        rw [show (List.replicate z.toNat true).all id = true from by simp]
        exact q _
theorem law_start {K : PySem.W.Frag} {H : Hp} {a : Addr} {ns : List Int} (hl : ns.length ≤ 63) (hO : Only H) (hS : SqL K H a (ns.map V.int)) : spLaw K [.ref a] H (fun v _ => v = .bl true) L2.E0 :=
  ⟨a, ns, rfl, hS, hl, fun _ => rfl⟩
end
end Pf
namespace Pf
open PySem PySem.Spec PyProof.Rows L2 Gk Fold
theorem all_mk {P : Program} {w : World} {K : PySem.W.Frag} {h : Heap} {mg : Str → Option Value} {fa : Addr} (X : K.In h) (G : h.Ns mainGlobals mg) (hfa : mg "law" = some (.ref fa))
    {f0 : Addr} {od0 an0 : Option Addr} {sl0 : Array (Option Value)} {oc0 kV0 dc0 pm0 cd0 ct0 : Value} {f1 : Addr} {od1 an1 : Option Addr} {sl1 : Array (Option Value)} {oc1 kV1 dc1 pm1 cd1 ct1 : Value} {f2 : Addr} {od2 an2 : Option Addr} {sl2 : Array (Option Value)} {oc2 kV2 dc2 pm2 cd2 ct2 : Value} {f3 : Addr} {od3 an3 : Option Addr} {sl3 : Array (Option Value)} {oc3 kV3 dc3 pm3 cd3 ct3 : Value} {f4 : Addr} {od4 an4 : Option Addr} {sl4 : Array (Option Value)} {oc4 kV4 dc4 pm4 cd4 ct4 : Value} {f5 : Addr} {od5 an5 : Option Addr} {sl5 : Array (Option Value)} {oc5 kV5 dc5 pm5 cd5 ct5 : Value} {f6 : Addr} {od6 an6 : Option Addr} {sl6 : Array (Option Value)} {oc6 kV6 dc6 pm6 cd6 ct6 : Value} {f7 : Addr} {od7 an7 : Option Addr} {sl7 : Array (Option Value)} {oc7 kV7 dc7 pm7 cd7 ct7 : Value} {f8 : Addr} {od8 an8 : Option Addr} {sl8 : Array (Option Value)} {oc8 kV8 dc8 pm8 cd8 ct8 : Value} {f9 : Addr} {od9 an9 : Option Addr} {sl9 : Array (Option Value)} {oc9 kV9 dc9 pm9 cd9 ct9 : Value} {f10 : Addr} {od10 an10 : Option Addr} {sl10 : Array (Option Value)} {oc10 kV10 dc10 pm10 cd10 ct10 : Value} {f11 : Addr} {od11 an11 : Option Addr} {sl11 : Array (Option Value)} {oc11 kV11 dc11 pm11 cd11 ct11 : Value} {f12 : Addr} {od12 an12 : Option Addr} {sl12 : Array (Option Value)} {oc12 kV12 dc12 pm12 cd12 ct12 : Value} {f13 : Addr} {od13 an13 : Option Addr} {sl13 : Array (Option Value)} {oc13 kV13 dc13 pm13 cd13 ct13 : Value} {f14 : Addr} {od14 an14 : Option Addr} {sl14 : Array (Option Value)} {oc14 kV14 dc14 pm14 cd14 ct14 : Value} {f15 : Addr} {od15 an15 : Option Addr} {sl15 : Array (Option Value)} {oc15 kV15 dc15 pm15 cd15 ct15 : Value} {f16 : Addr} {od16 an16 : Option Addr} {sl16 : Array (Option Value)} {oc16 kV16 dc16 pm16 cd16 ct16 : Value} {f17 : Addr} {od17 an17 : Option Addr} {sl17 : Array (Option Value)} {oc17 kV17 dc17 pm17 cd17 ct17 : Value} {f18 : Addr} {od18 an18 : Option Addr} {sl18 : Array (Option Value)} {oc18 kV18 dc18 pm18 cd18 ct18 : Value} {f19 : Addr} {od19 an19 : Option Addr} {sl19 : Array (Option Value)} {oc19 kV19 dc19 pm19 cd19 ct19 : Value} {f20 : Addr} {od20 an20 : Option Addr} {sl20 : Array (Option Value)} {oc20 kV20 dc20 pm20 cd20 ct20 : Value} {f21 : Addr} {od21 an21 : Option Addr} {sl21 : Array (Option Value)} {oc21 kV21 dc21 pm21 cd21 ct21 : Value} {f22 : Addr} {od22 an22 : Option Addr} {sl22 : Array (Option Value)} {oc22 kV22 dc22 pm22 cd22 ct22 : Value} {f23 : Addr} {od23 an23 : Option Addr} {sl23 : Array (Option Value)} {oc23 kV23 dc23 pm23 cd23 ct23 : Value} {f24 : Addr} {od24 an24 : Option Addr} {sl24 : Array (Option Value)} {oc24 kV24 dc24 pm24 cd24 ct24 : Value} {f25 : Addr} {od25 an25 : Option Addr} {sl25 : Array (Option Value)} {oc25 kV25 dc25 pm25 cd25 ct25 : Value} {f26 : Addr} {od26 an26 : Option Addr} {sl26 : Array (Option Value)} {oc26 kV26 dc26 pm26 cd26 ct26 : Value}
    (a0 : PySem.W.nsIn K mainGlobals "most_value" = some (some (.ref f0)))
    (l0 : K.lookup f0 = some ⟨oc0, od0, .func (PySem.W.fnOf "most_value" "most_value" (defArgs sMost) (defBody sMost) (defScope sMost) .none kV0 dc0 pm0 an0 cd0 ct0), sl0⟩)
    (c0 : PySem.W.codeIn K cd0 "most_value" = true) (k0 : PySem.W.keepIn K (.ref f0) = true)
    (a1 : PySem.W.nsIn K mainGlobals "predicted" = some (some (.ref f1)))
    (l1 : K.lookup f1 = some ⟨oc1, od1, .func (PySem.W.fnOf "predicted" "predicted" (defArgs sPred) (defBody sPred) (defScope sPred) .none kV1 dc1 pm1 an1 cd1 ct1), sl1⟩)
    (c1 : PySem.W.codeIn K cd1 "predicted" = true) (k1 : PySem.W.keepIn K (.ref f1) = true)
    (a2 : PySem.W.nsIn K mainGlobals "value_after" = some (some (.ref f2)))
    (l2 : K.lookup f2 = some ⟨oc2, od2, .func (PySem.W.fnOf "value_after" "value_after" (defArgs sAft) (defBody sAft) (defScope sAft) .none kV2 dc2 pm2 an2 cd2 ct2), sl2⟩)
    (c2 : PySem.W.codeIn K cd2 "value_after" = true) (k2 : PySem.W.keepIn K (.ref f2) = true)
    (a3 : PySem.W.nsIn K mainGlobals "_binary" = some (some (.ref f3)))
    (l3 : K.lookup f3 = some ⟨oc3, od3, .func (PySem.W.fnOf "_binary" "_binary" (defArgs sBin) (defBody sBin) (defScope sBin) .none kV3 dc3 pm3 an3 cd3 ct3), sl3⟩)
    (c3 : PySem.W.codeIn K cd3 "_binary" = true) (k3 : PySem.W.keepIn K (.ref f3) = true)
    (a4 : PySem.W.nsIn K mainGlobals "fold" = some (some (.ref f4)))
    (l4 : K.lookup f4 = some ⟨oc4, od4, .func (PySem.W.fnOf "fold" "fold" (defArgs sFold) (defBody sFold) (defScope sFold) .none kV4 dc4 pm4 an4 cd4 ct4), sl4⟩)
    (c4 : PySem.W.codeIn K cd4 "fold" = true) (k4 : PySem.W.keepIn K (.ref f4) = true)
    (a5 : PySem.W.nsIn K mainGlobals "cell_of" = some (some (.ref f5)))
    (l5 : K.lookup f5 = some ⟨oc5, od5, .func (PySem.W.fnOf "cell_of" "cell_of" (defArgs sCellOf) (defBody sCellOf) (defScope sCellOf) .none kV5 dc5 pm5 an5 cd5 ct5), sl5⟩)
    (c5 : PySem.W.codeIn K cd5 "cell_of" = true) (k5 : PySem.W.keepIn K (.ref f5) = true)
    (a6 : PySem.W.nsIn K mainGlobals "owner_of" = some (some (.ref f6)))
    (l6 : K.lookup f6 = some ⟨oc6, od6, .func (PySem.W.fnOf "owner_of" "owner_of" (defArgs sOwner) (defBody sOwner) (defScope sOwner) .none kV6 dc6 pm6 an6 cd6 ct6), sl6⟩)
    (c6 : PySem.W.codeIn K cd6 "owner_of" = true) (k6 : PySem.W.keepIn K (.ref f6) = true)
    (a7 : PySem.W.nsIn K mainGlobals "pushed" = some (some (.ref f7)))
    (l7 : K.lookup f7 = some ⟨oc7, od7, .func (PySem.W.fnOf "pushed" "pushed" (defArgs sPushed) (defBody sPushed) (defScope sPushed) .none kV7 dc7 pm7 an7 cd7 ct7), sl7⟩)
    (c7 : PySem.W.codeIn K cd7 "pushed" = true) (k7 : PySem.W.keepIn K (.ref f7) = true)
    (a8 : PySem.W.nsIn K mainGlobals "predictions" = some (some (.ref f8)))
    (l8 : K.lookup f8 = some ⟨oc8, od8, .func (PySem.W.fnOf "predictions" "predictions" (defArgs sPreds) (defBody sPreds) (defScope sPreds) .none kV8 dc8 pm8 an8 cd8 ct8), sl8⟩)
    (c8 : PySem.W.codeIn K cd8 "predictions" = true) (k8 : PySem.W.keepIn K (.ref f8) = true)
    (a9 : PySem.W.nsIn K mainGlobals "wrong_moments" = some (some (.ref f9)))
    (l9 : K.lookup f9 = some ⟨oc9, od9, .func (PySem.W.fnOf "wrong_moments" "wrong_moments" (defArgs sWrong) (defBody sWrong) (defScope sWrong) .none kV9 dc9 pm9 an9 cd9 ct9), sl9⟩)
    (c9 : PySem.W.codeIn K cd9 "wrong_moments" = true) (k9 : PySem.W.keepIn K (.ref f9) = true)
    (a10 : PySem.W.nsIn K mainGlobals "errors_in" = some (some (.ref f10)))
    (l10 : K.lookup f10 = some ⟨oc10, od10, .func (PySem.W.fnOf "errors_in" "errors_in" (defArgs sErr) (defBody sErr) (defScope sErr) .none kV10 dc10 pm10 an10 cd10 ct10), sl10⟩)
    (c10 : PySem.W.codeIn K cd10 "errors_in" = true) (k10 : PySem.W.keepIn K (.ref f10) = true)
    (a11 : PySem.W.nsIn K mainGlobals "errors_by_round" = some (some (.ref f11)))
    (l11 : K.lookup f11 = some ⟨oc11, od11, .func (PySem.W.fnOf "errors_by_round" "errors_by_round" (defArgs sEbr) (defBody sEbr) (defScope sEbr) .none kV11 dc11 pm11 an11 cd11 ct11), sl11⟩)
    (c11 : PySem.W.codeIn K cd11 "errors_by_round" = true) (k11 : PySem.W.keepIn K (.ref f11) = true)
    (a12 : PySem.W.nsIn K mainGlobals "_early_rounds" = some (some (.ref f12)))
    (l12 : K.lookup f12 = some ⟨oc12, od12, .func (PySem.W.fnOf "_early_rounds" "_early_rounds" (defArgs sEarN) (defBody sEarN) (defScope sEarN) .none kV12 dc12 pm12 an12 cd12 ct12), sl12⟩)
    (c12 : PySem.W.codeIn K cd12 "_early_rounds" = true) (k12 : PySem.W.keepIn K (.ref f12) = true)
    (a13 : PySem.W.nsIn K mainGlobals "_early_errors" = some (some (.ref f13)))
    (l13 : K.lookup f13 = some ⟨oc13, od13, .func (PySem.W.fnOf "_early_errors" "_early_errors" (defArgs sEarE) (defBody sEarE) (defScope sEarE) .none kV13 dc13 pm13 an13 cd13 ct13), sl13⟩)
    (c13 : PySem.W.codeIn K cd13 "_early_errors" = true) (k13 : PySem.W.keepIn K (.ref f13) = true)
    (a14 : PySem.W.nsIn K mainGlobals "steady_errors" = some (some (.ref f14)))
    (l14 : K.lookup f14 = some ⟨oc14, od14, .func (PySem.W.fnOf "steady_errors" "steady_errors" (defArgs sSteE) (defBody sSteE) (defScope sSteE) .none kV14 dc14 pm14 an14 cd14 ct14), sl14⟩)
    (c14 : PySem.W.codeIn K cd14 "steady_errors" = true) (k14 : PySem.W.keepIn K (.ref f14) = true)
    (a15 : PySem.W.nsIn K mainGlobals "settles" = some (some (.ref f15)))
    (l15 : K.lookup f15 = some ⟨oc15, od15, .func (PySem.W.fnOf "settles" "settles" (defArgs sSett) (defBody sSett) (defScope sSett) .none kV15 dc15 pm15 an15 cd15 ct15), sl15⟩)
    (c15 : PySem.W.codeIn K cd15 "settles" = true) (k15 : PySem.W.keepIn K (.ref f15) = true)
    (a16 : PySem.W.nsIn K mainGlobals "total_errors" = some (some (.ref f16)))
    (l16 : K.lookup f16 = some ⟨oc16, od16, .func (PySem.W.fnOf "total_errors" "total_errors" (defArgs sTotE) (defBody sTotE) (defScope sTotE) .none kV16 dc16 pm16 an16 cd16 ct16), sl16⟩)
    (c16 : PySem.W.codeIn K cd16 "total_errors" = true) (k16 : PySem.W.keepIn K (.ref f16) = true)
    (a17 : PySem.W.nsIn K mainGlobals "last_error" = some (some (.ref f17)))
    (l17 : K.lookup f17 = some ⟨oc17, od17, .func (PySem.W.fnOf "last_error" "last_error" (defArgs sLastE) (defBody sLastE) (defScope sLastE) .none kV17 dc17 pm17 an17 cd17 ct17), sl17⟩)
    (c17 : PySem.W.codeIn K cd17 "last_error" = true) (k17 : PySem.W.keepIn K (.ref f17) = true)
    (a18 : PySem.W.nsIn K mainGlobals "_law_box" = some (some (.ref f18)))
    (l18 : K.lookup f18 = some ⟨oc18, od18, .func (PySem.W.fnOf "_law_box" "_law_box" (defArgs sBox) (defBody sBox) (defScope sBox) .none kV18 dc18 pm18 an18 cd18 ct18), sl18⟩)
    (c18 : PySem.W.codeIn K cd18 "_law_box" = true) (k18 : PySem.W.keepIn K (.ref f18) = true)
    (a19 : PySem.W.nsIn K mainGlobals "_law_take" = some (some (.ref f19)))
    (l19 : K.lookup f19 = some ⟨oc19, od19, .func (PySem.W.fnOf "_law_take" "_law_take" (defArgs sTake) (defBody sTake) (defScope sTake) .none kV19 dc19 pm19 an19 cd19 ct19), sl19⟩)
    (c19 : PySem.W.codeIn K cd19 "_law_take" = true) (k19 : PySem.W.keepIn K (.ref f19) = true)
    (a20 : PySem.W.nsIn K mainGlobals "_law_of" = some (some (.ref f20)))
    (l20 : K.lookup f20 = some ⟨oc20, od20, .func (PySem.W.fnOf "_law_of" "_law_of" (defArgs sOf) (defBody sOf) (defScope sOf) .none kV20 dc20 pm20 an20 cd20 ct20), sl20⟩)
    (c20 : PySem.W.codeIn K cd20 "_law_of" = true) (k20 : PySem.W.keepIn K (.ref f20) = true)
    (a21 : PySem.W.nsIn K mainGlobals "_law_row" = some (some (.ref f21)))
    (l21 : K.lookup f21 = some ⟨oc21, od21, .func (PySem.W.fnOf "_law_row" "_law_row" (defArgs sRow) (defBody sRow) (defScope sRow) .none kV21 dc21 pm21 an21 cd21 ct21), sl21⟩)
    (c21 : PySem.W.codeIn K cd21 "_law_row" = true) (k21 : PySem.W.keepIn K (.ref f21) = true)
    (a22 : PySem.W.nsIn K mainGlobals "_law_loop" = some (some (.ref f22)))
    (l22 : K.lookup f22 = some ⟨oc22, od22, .func (PySem.W.fnOf "_law_loop" "_law_loop" (defArgs sLoop) (defBody sLoop) (defScope sLoop) .none kV22 dc22 pm22 an22 cd22 ct22), sl22⟩)
    (c22 : PySem.W.codeIn K cd22 "_law_loop" = true) (k22 : PySem.W.keepIn K (.ref f22) = true)
    (a23 : PySem.W.nsIn K mainGlobals "_law_plan" = some (some (.ref f23)))
    (l23 : K.lookup f23 = some ⟨oc23, od23, .func (PySem.W.fnOf "_law_plan" "_law_plan" (defArgs sPlan) (defBody sPlan) (defScope sPlan) .none kV23 dc23 pm23 an23 cd23 ct23), sl23⟩)
    (c23 : PySem.W.codeIn K cd23 "_law_plan" = true) (k23 : PySem.W.keepIn K (.ref f23) = true)
    (a24 : PySem.W.nsIn K mainGlobals "_law_gauge" = some (some (.ref f24)))
    (l24 : K.lookup f24 = some ⟨oc24, od24, .func (PySem.W.fnOf "_law_gauge" "_law_gauge" (defArgs sGau) (defBody sGau) (defScope sGau) .none kV24 dc24 pm24 an24 cd24 ct24), sl24⟩)
    (c24 : PySem.W.codeIn K cd24 "_law_gauge" = true) (k24 : PySem.W.keepIn K (.ref f24) = true)
    (a25 : PySem.W.nsIn K mainGlobals "_law_right" = some (some (.ref f25)))
    (l25 : K.lookup f25 = some ⟨oc25, od25, .func (PySem.W.fnOf "_law_right" "_law_right" (defArgs sRight) (defBody sRight) (defScope sRight) .none kV25 dc25 pm25 an25 cd25 ct25), sl25⟩)
    (c25 : PySem.W.codeIn K cd25 "_law_right" = true) (k25 : PySem.W.keepIn K (.ref f25) = true)
    (a26 : PySem.W.nsIn K mainGlobals "law" = some (some (.ref f26)))
    (l26 : K.lookup f26 = some ⟨oc26, od26, .func (PySem.W.fnOf "law" "law" (defArgs sLaw) (defBody sLaw) (defScope sLaw) .none kV26 dc26 pm26 an26 cd26 ct26), sl26⟩)
    (c26 : PySem.W.codeIn K cd26 "law" = true) (k26 : PySem.W.keepIn K (.ref f26) = true)
    (z0 : PySem.W.nsIn K mainGlobals "int" = some none)
    (z1 : PySem.W.nsIn K mainGlobals "len" = some none)
    (z2 : PySem.W.nsIn K mainGlobals "abs" = some none)
    (z3 : PySem.W.nsIn K mainGlobals "range" = some none)
    (z4 : PySem.W.nsIn K mainGlobals "enumerate" = some none)
    (z5 : PySem.W.nsIn K mainGlobals "max" = some none)
    (z6 : PySem.W.nsIn K mainGlobals "min" = some none)
    (z7 : PySem.W.nsIn K mainGlobals "all" = some none)
    (z8 : PySem.W.nsIn K mainGlobals "repr" = some none)
    (z9 : PySem.W.nsIn K mainGlobals "zip" = some none)
    (z10 : PySem.W.nsIn K mainGlobals "tuple" = some none)
    (z11 : PySem.W.nsIn K mainGlobals "str" = some none)
    (z12 : PySem.W.nsIn K mainGlobals "list" = some none)
    (z13 : PySem.W.nsIn K mainGlobals "sorted" = some none)
    (z14 : PySem.W.nsIn K mainGlobals "isinstance" = some none)
    (z15 : PySem.W.nsIn K mainGlobals "bool" = some none)
    (z16 : PySem.W.nsIn K mainGlobals "divmod" = some none)
    (z17 : PySem.W.nsIn K mainGlobals "sum" = some none)
    : ∃ fd : FuncData, (∀ (s : Shared) (v : Value), BindsTo s fd ⟨[v], []⟩ [("_law_script", v)]) ∧ ∀ base : Heap, K.In base → base.Ns mainGlobals mg → FnG P w K mg base 15 fa fd ["_law_script"] (spLaw K) := by
  have e := hfa.symm.trans (PySem.W.mg_of X G a26)
  cases e
  have F0 := fun_mk (st := sMost) l0 c0 k0
  have b0 := F0.binds (ps := ["bits"]) fun _ _ _ _ _ _ us hl => match us, hl with | [_], _ => rfl
  have g0 := PySem.W.mg_of X G a0
  have F1 := fun_mk (st := sPred) l1 c1 k1
  have b1 := F1.binds (ps := ["bits", "value"]) fun _ _ _ _ _ _ us hl => match us, hl with | [_, _], _ => rfl
  have g1 := PySem.W.mg_of X G a1
  have F2 := fun_mk (st := sAft) l2 c2 k2
  have b2 := F2.binds (ps := ["bits", "value", "outcome"]) fun _ _ _ _ _ _ us hl => match us, hl with | [_, _, _], _ => rfl
  have g2 := PySem.W.mg_of X G a2
  have F3 := fun_mk (st := sBin) l3 c3 k3
  have b3 := F3.binds (ps := ["history"]) fun _ _ _ _ _ _ us hl => match us, hl with | [_], _ => rfl
  have g3 := PySem.W.mg_of X G a3
  have F4 := fun_mk (st := sFold) l4 c4 k4
  have b4 := F4.binds (ps := ["history", "bits", "branch"]) fun _ _ _ _ _ _ us hl => match us, hl with | [_, _, _], _ => rfl
  have g4 := PySem.W.mg_of X G a4
  have F5 := fun_mk (st := sCellOf) l5 c5 k5
  have b5 := F5.binds (ps := ["scheme", "branch", "history"]) fun _ _ _ _ _ _ us hl => match us, hl with | [_, _, _], _ => rfl
  have g5 := PySem.W.mg_of X G a5
  have F6 := fun_mk (st := sOwner) l6 c6 k6
  have b6 := F6.binds (ps := ["scheme", "branch"]) fun _ _ _ _ _ _ us hl => match us, hl with | [_, _], _ => rfl
  have g6 := PySem.W.mg_of X G a6
  have F7 := fun_mk (st := sPushed) l7 c7 k7
  have b7 := F7.binds (ps := ["history", "outcome"]) fun _ _ _ _ _ _ us hl => match us, hl with | [_, _], _ => rfl
  have g7 := PySem.W.mg_of X G a7
  have F8 := fun_mk (st := sPreds) l8 c8 k8
  have b8 := F8.binds (ps := ["trace", "scheme", "counter", "rounds"]) fun _ _ _ _ _ _ us hl => match us, hl with | [_, _, _, _], _ => rfl
  have g8 := PySem.W.mg_of X G a8
  have F9 := fun_mk (st := sWrong) l9 c9 k9
  have b9 := F9.binds (ps := ["trace", "scheme", "counter", "rounds"]) fun _ _ _ _ _ _ us hl => match us, hl with | [_, _, _, _], _ => rfl
  have g9 := PySem.W.mg_of X G a9
  have F10 := fun_mk (st := sErr) l10 c10 k10
  have b10 := F10.binds (ps := ["trace", "scheme", "counter", "rounds"]) fun _ _ _ _ _ _ us hl => match us, hl with | [_, _, _, _], _ => rfl
  have g10 := PySem.W.mg_of X G a10
  have F11 := fun_mk (st := sEbr) l11 c11 k11
  have b11 := F11.binds (ps := ["trace", "scheme", "counter", "rounds"]) fun _ _ _ _ _ _ us hl => match us, hl with | [_, _, _, _], _ => rfl
  have g11 := PySem.W.mg_of X G a11
  have F12 := fun_mk (st := sEarN) l12 c12 k12
  have b12 := F12.binds (ps := ["scheme", "counter"]) fun _ _ _ _ _ _ us hl => match us, hl with | [_, _], _ => rfl
  have g12 := PySem.W.mg_of X G a12
  have F13 := fun_mk (st := sEarE) l13 c13 k13
  have b13 := F13.binds (ps := ["trace", "scheme", "counter"]) fun _ _ _ _ _ _ us hl => match us, hl with | [_, _, _], _ => rfl
  have g13 := PySem.W.mg_of X G a13
  have F14 := fun_mk (st := sSteE) l14 c14 k14
  have b14 := F14.binds (ps := ["trace", "scheme", "counter"]) fun _ _ _ _ _ _ us hl => match us, hl with | [_, _, _], _ => rfl
  have g14 := PySem.W.mg_of X G a14
  have F15 := fun_mk (st := sSett) l15 c15 k15
  have b15 := F15.binds (ps := ["trace", "scheme", "counter"]) fun _ _ _ _ _ _ us hl => match us, hl with | [_, _, _], _ => rfl
  have g15 := PySem.W.mg_of X G a15
  have F16 := fun_mk (st := sTotE) l16 c16 k16
  have b16 := F16.binds (ps := ["trace", "scheme", "counter", "rounds"]) fun _ _ _ _ _ _ us hl => match us, hl with | [_, _, _, _], _ => rfl
  have g16 := PySem.W.mg_of X G a16
  have F17 := fun_mk (st := sLastE) l17 c17 k17
  have b17 := F17.binds (ps := ["trace", "scheme", "counter"]) fun _ _ _ _ _ _ us hl => match us, hl with | [_, _, _], _ => rfl
  have g17 := PySem.W.mg_of X G a17
  have F18 := fun_mk (st := sBox) l18 c18 k18
  have b18 := F18.binds (ps := ["_law_script", "_law_k"]) fun _ _ _ _ _ _ us hl => match us, hl with | [_, _], _ => rfl
  have g18 := PySem.W.mg_of X G a18
  have F19 := fun_mk (st := sTake) l19 c19 k19
  have b19 := F19.binds (ps := ["_law_box_here", "_law_many"]) fun _ _ _ _ _ _ us hl => match us, hl with | [_, _], _ => rfl
  have g19 := PySem.W.mg_of X G a19
  have F20 := fun_mk (st := sOf) l20 c20 k20
  have b20 := F20.binds (ps := ["_law_box_here", "_law_some"]) fun _ _ _ _ _ _ us hl => match us, hl with | [_, _], _ => rfl
  have g20 := PySem.W.mg_of X G a20
  have F21 := fun_mk (st := sRow) l21 c21 k21
  have b21 := F21.binds (ps := ["_law_box_here", "_law_most"]) fun _ _ _ _ _ _ us hl => match us, hl with | [_, _], _ => rfl
  have g21 := PySem.W.mg_of X G a21
  have F22 := fun_mk (st := sLoop) l22 c22 k22
  have b22 := F22.binds (ps := ["_law_box_here", "_law_most", "_law_homes"]) fun _ _ _ _ _ _ us hl => match us, hl with | [_, _, _], _ => rfl
  have g22 := PySem.W.mg_of X G a22
  have F23 := fun_mk (st := sPlan) l23 c23 k23
  have b23 := F23.binds (ps := ["_law_box_here", "_law_most"]) fun _ _ _ _ _ _ us hl => match us, hl with | [_, _], _ => rfl
  have g23 := PySem.W.mg_of X G a23
  have F24 := fun_mk (st := sGau) l24 c24 k24
  have b24 := F24.binds (ps := ["_law_box_here"]) fun _ _ _ _ _ _ us hl => match us, hl with | [_], _ => rfl
  have g24 := PySem.W.mg_of X G a24
  have F25 := fun_mk (st := sRight) l25 c25 k25
  have b25 := F25.binds (ps := ["_law_box_here"]) fun _ _ _ _ _ _ us hl => match us, hl with | [_], _ => rfl
  have g25 := PySem.W.mg_of X G a25
  have F26 := fun_mk (st := sLaw) l26 c26 k26
  have n_int := PySem.W.mg_none_of X G z0
  have n_len := PySem.W.mg_none_of X G z1
  have n_abs := PySem.W.mg_none_of X G z2
  have n_range := PySem.W.mg_none_of X G z3
  have n_enumerate := PySem.W.mg_none_of X G z4
  have n_max := PySem.W.mg_none_of X G z5
  have n_min := PySem.W.mg_none_of X G z6
  have n_all := PySem.W.mg_none_of X G z7
  have n_repr := PySem.W.mg_none_of X G z8
  have n_zip := PySem.W.mg_none_of X G z9
  have n_tuple := PySem.W.mg_none_of X G z10
  have n_str := PySem.W.mg_none_of X G z11
  have n_list := PySem.W.mg_none_of X G z12
  have n_sorted := PySem.W.mg_none_of X G z13
  have n_isinstance := PySem.W.mg_none_of X G z14
  have n_bool := PySem.W.mg_none_of X G z15
  have n_divmod := PySem.W.mg_none_of X G z16
  have n_sum := PySem.W.mg_none_of X G z17
  refine ⟨PySem.W.fnOf "law" "law" (defArgs sLaw) (defBody sLaw) (defScope sLaw) .none kV26 dc26 pm26 an26 cd26 ct26, fun s v => .of_eq rfl, fun base _ _ => ?_⟩
  have Dmost_value : Dfn P w K mg base 1 "most_value" ["bits"] spMost := ⟨_, _, ok_most (k := 0) n_max F0, g0, F0.kp, b0⟩
  have Dpredicted : Dfn P w K mg base 2 "predicted" ["bits", "value"] spPred := ⟨_, _, ok_pred Dmost_value F1, g1, F1.kp, b1⟩
  have Dvalue_after : Dfn P w K mg base 2 "value_after" ["bits", "value", "outcome"] spAft := ⟨_, _, ok_aft Dmost_value n_max n_min F2, g2, F2.kp, b2⟩
  have Dbinary : Dfn P w K mg base 1 "_binary" ["history"] spBin := ⟨_, _, ok_bin n_int F3, g3, F3.kp, b3⟩
  have Dfold : Dfn P w K mg base 2 "fold" ["history", "bits", "branch"] spFold := ⟨_, _, ok_fold Dbinary n_divmod F4, g4, F4.kp, b4⟩
  have Dcell_of : Dfn P w K mg base 3 "cell_of" ["scheme", "branch", "history"] (spCellC K) := ⟨_, _, ok_cellC Dfold F5, g5, F5.kp, b5⟩
  have Downer_of : Dfn P w K mg base 1 "owner_of" ["scheme", "branch"] (spOwner K) := ⟨_, _, ok_owner (k := 0) F6, g6, F6.kp, b6⟩
  have Dpushed : Dfn P w K mg base 1 "pushed" ["history", "outcome"] spPushed := ⟨_, _, ok_pushed (k := 0) n_str F7, g7, F7.kp, b7⟩
  have Dpredictions : Dgy P w K mg base 5 "predictions" ["trace", "scheme", "counter", "rounds"] (spPredsY K) := ⟨_, _, gy_preds Downer_of Dcell_of Dpredicted Dvalue_after Dpushed n_len n_range F8, g8, F8.kp, b8⟩
  have Dwrong_moments : Dfn P w K mg base 10 "wrong_moments" ["trace", "scheme", "counter", "rounds"] (spWrong K) := ⟨_, _, ok_wrong Dpredictions n_enumerate F9, g9, F9.kp, b9⟩
  have Derrors_in : Dfn P w K mg base 11 "errors_in" ["trace", "scheme", "counter", "rounds"] (spErr K) := ⟨_, _, ok_errors Dwrong_moments n_len F10, g10, F10.kp, b10⟩
  have Derrors_by_round : Dfn P w K mg base 11 "errors_by_round" ["trace", "scheme", "counter", "rounds"] (spEbr K) := ⟨_, _, ok_ebr Dwrong_moments n_len F11, g11, F11.kp, b11⟩
  have Dearly_rounds : Dfn P w K mg base 2 "_early_rounds" ["scheme", "counter"] (spEarN K) := ⟨_, _, ok_earN Dmost_value n_max F12, g12, F12.kp, b12⟩
  have Dearly_errors : Dfn P w K mg base 12 "_early_errors" ["trace", "scheme", "counter"] (spEarE K qEarE) := ⟨_, _, ok_earE Derrors_by_round Dearly_rounds F13, g13, F13.kp, b13⟩
  have Dsteady_errors : Dfn P w K mg base 13 "steady_errors" ["trace", "scheme", "counter"] (spEarE K qSteE) := ⟨_, _, ok_steE Dearly_errors F14, g14, F14.kp, b14⟩
  have Dsettles : Dfn P w K mg base 13 "settles" ["trace", "scheme", "counter"] (spEarE K qSett) := ⟨_, _, ok_sett Dearly_errors n_len F15, g15, F15.kp, b15⟩
  have Dtotal_errors : Dfn P w K mg base 13 "total_errors" ["trace", "scheme", "counter", "rounds"] (spTotE K) := ⟨_, _, ok_totE Dearly_errors n_len n_max n_sum F16, g16, F16.kp, b16⟩
  have Dlast_error : Dfn P w K mg base 11 "last_error" ["trace", "scheme", "counter"] (spLastE K) := ⟨_, _, ok_lastE Dearly_rounds Dwrong_moments n_len F17, g17, F17.kp, b17⟩
  have Dlaw_box : Dfn P w K mg base 1 "_law_box" ["_law_script", "_law_k"] (spBox K) := ⟨_, _, ok_box n_len n_abs n_int F18, g18, F18.kp, b18⟩
  have Dlaw_take : Dfn P w K mg base 1 "_law_take" ["_law_box_here", "_law_many"] spTake := ⟨_, _, ok_take F19, g19, F19.kp, b19⟩
  have Dlaw_of : Dfn P w K mg base 2 "_law_of" ["_law_box_here", "_law_some"] (spOf K) := ⟨_, _, ok_of Dlaw_take n_len F20, g20, F20.kp, b20⟩
  have Dlaw_row : Dfn P w K mg base 2 "_law_row" ["_law_box_here", "_law_most"] (spRow K) := ⟨_, _, ok_row Dlaw_take n_range n_min n_tuple n_len F21, g21, F21.kp, b21⟩
  have Dlaw_loop : Dfn P w K mg base 3 "_law_loop" ["_law_box_here", "_law_most", "_law_homes"] (spLoop K) := ⟨_, _, ok_loop Dlaw_take Dlaw_row n_tuple n_enumerate n_len F22, g22, F22.kp, b22⟩
  have Dlaw_plan : Dfn P w K mg base 3 "_law_plan" ["_law_box_here", "_law_most"] (spPlan K) := ⟨_, _, ok_plan Dlaw_take Dlaw_of n_min F23, g23, F23.kp, b23⟩
  have Dlaw_gauge : Dfn P w K mg base 3 "_law_gauge" ["_law_box_here"] spGau := ⟨_, _, ok_gau Dlaw_take Dlaw_of F24, g24, F24.kp, b24⟩
  have Dlaw_right : DfG P w K mg base 14 "_law_right" ["_law_box_here"] spRight := ⟨_, _, ok_right Dlaw_take Dlaw_of Dlaw_loop Dlaw_plan Dlaw_gauge Dsteady_errors Dsettles Dtotal_errors Derrors_in Dlast_error n_range n_len n_max F25, g25, F25.kp, b25⟩
  exact ok_law (by decide) Dlaw_box Dlaw_right n_range n_max n_min n_len n_all F26
end Pf
open PySem PySem.W PyProof.Rows
set_option maxHeartbeats 0 in
theorem PySem.Challenge.cw_pastenough_k81_whole_rounds_and_sums_holds : PySem.Challenge.rw_pastenough_k81_whole_rounds_and_sums.Holds := by
  w_on; o_law; k_head; (case hw => w_witness2)
  k_fill
  refine Gk.walkG (l := PySem.Challenge.rw_pastenough_k81_whole_rounds_and_sums) (n := 63) (k := 15) (x := "_law_script") (sp := fun w => Pf.spLaw _) rfl (by decide) rfl ⟨rfl, by decide, by decide⟩ (fun w h Y => PySem.W.kIn_of Y) ?F (fun _ _ a ns hl hO hS => Pf.law_start hl hO hS)
  case F =>
    intro w mg fa h KX G hmg
    refine' Pf.all_mk KX G hmg ?a0 ?l0 ?c0 ?k0 ?a1 ?l1 ?c1 ?k1 ?a2 ?l2 ?c2 ?k2 ?a3 ?l3 ?c3 ?k3 ?a4 ?l4 ?c4 ?k4 ?a5 ?l5 ?c5 ?k5 ?a6 ?l6 ?c6 ?k6 ?a7 ?l7 ?c7 ?k7 ?a8 ?l8 ?c8 ?k8 ?a9 ?l9 ?c9 ?k9 ?a10 ?l10 ?c10 ?k10 ?a11 ?l11 ?c11 ?k11 ?a12 ?l12 ?c12 ?k12 ?a13 ?l13 ?c13 ?k13 ?a14 ?l14 ?c14 ?k14 ?a15 ?l15 ?c15 ?k15 ?a16 ?l16 ?c16 ?k16 ?a17 ?l17 ?c17 ?k17 ?a18 ?l18 ?c18 ?k18 ?a19 ?l19 ?c19 ?k19 ?a20 ?l20 ?c20 ?k20 ?a21 ?l21 ?c21 ?k21 ?a22 ?l22 ?c22 ?k22 ?a23 ?l23 ?c23 ?k23 ?a24 ?l24 ?c24 ?k24 ?a25 ?l25 ?c25 ?k25 ?a26 ?l26 ?c26 ?k26 ?z0 ?z1 ?z2 ?z3 ?z4 ?z5 ?z6 ?z7 ?z8 ?z9 ?z10 ?z11 ?z12 ?z13 ?z14 ?z15 ?z16 ?z17
    (case a0 => k_is)
    (case l0 => k_is)
    (case c0 => k_is)
    (case k0 => k_is)
    (case a1 => k_is)
    (case l1 => k_is)
    (case c1 => k_is)
    (case k1 => k_is)
    (case a2 => k_is)
    (case l2 => k_is)
    (case c2 => k_is)
    (case k2 => k_is)
    (case a3 => k_is)
    (case l3 => k_is)
    (case c3 => k_is)
    (case k3 => k_is)
    (case a4 => k_is)
    (case l4 => k_is)
    (case c4 => k_is)
    (case k4 => k_is)
    (case a5 => k_is)
    (case l5 => k_is)
    (case c5 => k_is)
    (case k5 => k_is)
    (case a6 => k_is)
    (case l6 => k_is)
    (case c6 => k_is)
    (case k6 => k_is)
    (case a7 => k_is)
    (case l7 => k_is)
    (case c7 => k_is)
    (case k7 => k_is)
    (case a8 => k_is)
    (case l8 => k_is)
    (case c8 => k_is)
    (case k8 => k_is)
    (case a9 => k_is)
    (case l9 => k_is)
    (case c9 => k_is)
    (case k9 => k_is)
    (case a10 => k_is)
    (case l10 => k_is)
    (case c10 => k_is)
    (case k10 => k_is)
    (case a11 => k_is)
    (case l11 => k_is)
    (case c11 => k_is)
    (case k11 => k_is)
    (case a12 => k_is)
    (case l12 => k_is)
    (case c12 => k_is)
    (case k12 => k_is)
    (case a13 => k_is)
    (case l13 => k_is)
    (case c13 => k_is)
    (case k13 => k_is)
    (case a14 => k_is)
    (case l14 => k_is)
    (case c14 => k_is)
    (case k14 => k_is)
    (case a15 => k_is)
    (case l15 => k_is)
    (case c15 => k_is)
    (case k15 => k_is)
    (case a16 => k_is)
    (case l16 => k_is)
    (case c16 => k_is)
    (case k16 => k_is)
    (case a17 => k_is)
    (case l17 => k_is)
    (case c17 => k_is)
    (case k17 => k_is)
    (case a18 => k_is)
    (case l18 => k_is)
    (case c18 => k_is)
    (case k18 => k_is)
    (case a19 => k_is)
    (case l19 => k_is)
    (case c19 => k_is)
    (case k19 => k_is)
    (case a20 => k_is)
    (case l20 => k_is)
    (case c20 => k_is)
    (case k20 => k_is)
    (case a21 => k_is)
    (case l21 => k_is)
    (case c21 => k_is)
    (case k21 => k_is)
    (case a22 => k_is)
    (case l22 => k_is)
    (case c22 => k_is)
    (case k22 => k_is)
    (case a23 => k_is)
    (case l23 => k_is)
    (case c23 => k_is)
    (case k23 => k_is)
    (case a24 => k_is)
    (case l24 => k_is)
    (case c24 => k_is)
    (case k24 => k_is)
    (case a25 => k_is)
    (case l25 => k_is)
    (case c25 => k_is)
    (case k25 => k_is)
    (case a26 => k_is)
    (case l26 => k_is)
    (case c26 => k_is)
    (case k26 => k_is)
    (case z0 => k_is)
    (case z1 => k_is)
    (case z2 => k_is)
    (case z3 => k_is)
    (case z4 => k_is)
    (case z5 => k_is)
    (case z6 => k_is)
    (case z7 => k_is)
    (case z8 => k_is)
    (case z9 => k_is)
    (case z10 => k_is)
    (case z11 => k_is)
    (case z12 => k_is)
    (case z13 => k_is)
    (case z14 => k_is)
    (case z15 => k_is)
    (case z16 => k_is)
    (case z17 => k_is)
