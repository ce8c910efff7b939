import PyProof.Rows.All
import Wide.All
import OpenK.AllK
import Wide.FinOn
import HandS.ForMost
import HandS.Codes
import HandS.Wide
import HandS.WideBits
import HandS.Defaults
import HandS.Walk
import PyProof.ReprRoads
import HandS.Text
import HandS.Iter
import HandS.Style
import KE.GoesMore
import KE.KRevSl
import PyProof.ReprLen
import PyProof.StrBlock2
import HandS.Ends
import HandS.TupMul
import HandS.TupAny
import HandS.IsInst
import HandS.SetBool
import HandS.Strs
import HandS.Dict
import HandS.Gcd
import KE.KMathGC
import HandS.GenList
import HandS.SetKeys
import HandS.DictTup
import HandS.TupLen
import PyProof.DictMoreH
import HandS.Conv
import HandS.More
import KE.KSortTupG
import KE.KDictPairs
import KE.KeyNested
import HandS.Small
import HandS.SetFor
import HandS.TupSets
import HandS.Comp
import HandS.List
import PyProof.Rows.ReprOcc
import HandS.Zip
import HandS.Sort
import HandS.DictComp
import PyProof.TupleOfGen
import KE.GoesZip
import KE.KDictZip
import KE.KItemsList
import KE.GoesEnum
import KE.KDictWalk
import KE.DataMinMax
import HandS.MakeKwOnly
import KE.OsRunLaw
import PySem.Challenge.RW_pastenough_k47_shortest_histories_within
set_option Elab.async false
set_option linter.all false
set_option maxRecDepth 100000
set_option maxHeartbeats 4000000
/-! Defs that are run where no repr is under way; repr of data; further small rules. -/
namespace Gk
open PySem PySem.Spec PyProof.Rows L2

/-- a def's promise wherever nothing is being shown -/
structure FnG (P : Program) (w : World) (K : PySem.W.Frag) (mg : Str → Option Value) (base : Heap) (k : Nat)
    (f : Addr) (fd : FuncData) (ps : List Str) (sp : Sp) : Prop where
  len : ∀ vs H Q E, sp vs H Q E → vs.length = ps.length
  go : ∀ (A : Around) (outer : List Env) (s : Shared) (H : Hp) (args : Args) (us : List Value) (vs : List V) (Q : VK),
    Room k A → A.guards = some [] → Env0 P w K mg base A outer s H → BindsTo s fd args (ps.zip us) → Vals vs us → sp vs H Q L2.E0 →
    codeAny (model P w) A (.call (.ref f) args) (CR L2.CX0 outer P w H s Q L2.E0) s

section
variable {P : Program} {w : World} {K : PySem.W.Frag} {mg : Str → Option Value} {base : Heap}
theorem FnG.weak {j k : Nat} {f : Addr} {fd : FuncData} {ps : List Str} {sp : Sp} (F : FnG P w K mg base j f fd ps sp) (h : j ≤ k) : FnG P w K mg base k f fd ps sp :=
  ⟨F.len, fun A outer s H args us vs Q r g => F.go A outer s H args us vs Q (r.mono h) g⟩
theorem FnG.from {k : Nat} {f : Addr} {fd : FuncData} {ps : List Str} {sp : Sp} (F : FnOk P w K mg base L2.CX0 k f fd ps sp) : FnG P w K mg base k f fd ps sp :=
  ⟨F.len, fun A outer s H args us vs Q r _ e b v q => F.run A outer s H args us vs Q L2.E0 r e b v q⟩

theorem guards_deeper {A : Around} {env : Env} (h : A.guards = some []) : (A.deeper env).guards = some [] := by
  first | exact h | (unfold Around.deeper; exact h)

/-- THE RULE for a def, by its body -/
theorem fnG {x qual : Str} {st : Stmt} {f : Addr} {fd : FuncData} {N ps : List Str} {k : Nat} {sp : Sp} (F : L2.Fun K x qual st f fd) (S : FnScope N ps (defScope st))
    (len : ∀ vs H Q E, sp vs H Q E → vs.length = ps.length)
    (hbody : ∀ (cdv : Value) (A : Around) (outer : List Env) (s : Shared) (H : Hp) (vs : List V) (Q : VK),
      Room k (A.deeper (envOfC qual (defScope st) s.heap.objs.size f cdv)) → (A.deeper (envOfC qual (defScope st) s.heap.objs.size f cdv)).guards = some [] → sp vs H Q L2.E0 →
      ∃ t, PSs (cxOf L2.CX0 P w K mg base N qual (defScope st) f cdv A outer s H L2.E0).nox (defBody st) t ∧ t { nx := fun _ H' => Q .non H', rt := Q } (start N vs) H) :
    FnG P w K mg base (k + 1) f fd ps sp := by
  obtain ⟨oc, od, kV, doc, pm, an, cdv, ct, osl, rfl, lk, hcd⟩ := F.ex
  refine ⟨len, fun A outer s H args us vs Q room gd en bd rv want => ?_⟩
  have many := len _ _ _ _ want
  have KX : K.In s.heap := en.mod.kin.keeps (fun b o hbo => (en.bs b o hbo).1)
  have lim : s.heap.NoLimit := en.mod.nolimit.keeps (fun b o hbo => (en.bs b o hbo).1)
  have kinds : ∀ y ∈ ps.zip us, (defScope st).names.lookup y.1 = some .local ∨
      ((defScope st).names.lookup y.1 = some .cell ∧ ((cellsFrom (s.heap.objs.size + 1) (defScope st).names []).lookup y.1).isSome = true) := fun y hy =>
    (S.par y.1 (List.of_mem_zip (a := y.1) (b := y.2) hy).1).elim Or.inl fun q => .inr ⟨q, PySem.W.cellsFrom_some _ _ _ (.inl q)⟩
  refine codeAny_call_function room.depth (KX _ _ lk) rfl S.co S.gen rfl (PySem.W.codeRec_of KX hcd) (bd _ _ _ _ ?_)
  refine wpAny_newFunctionEnv_cells S.kind kinds fun env he st1 inC => ?_
  subst he
  refine ⟨lim.keeps inC.toInCall.keep, codeAny_func ?_⟩
  obtain ⟨t, ht, hq⟩ := hbody cdv A outer s H vs Q (room.deeper _) (guards_deeper gd) want
  have I := inv_start (CX := L2.CX0) (P := P) (w := w) (mg := mg) (E := L2.E0) S room.hd en many rv inC
  refine wpAny_mono (ht.nox.run [] st1 (start N vs) H _ I hq) (fun fl s' hs => ?_) fun e s' hs => hs
  cases fl with
  | brk => obtain ⟨_, _, _, z⟩ := hs; exact False.elim z
  | cont => obtain ⟨_, _, _, z⟩ := hs; exact False.elim z
  | next => obtain ⟨σ1, H1, J, z⟩ := hs; exact ⟨V.non, H1, J.os, J.bare, J.base, J.hok, rfl, z⟩
  | ret u => obtain ⟨v, σ1, H1, J, rv1, z⟩ := hs; exact ⟨v, H1, J.os, J.bare, J.base, J.hok, rv1, z⟩
end

section
variable {X : Cx} {k : Nat} {f : Addr} {fd : FuncData} {ps : List Str} {sp : Sp} {x : Str} {p pos : Pos} {e : Expr} {es : List Expr} {t : TA}
theorem go_fn {pins : List (Addr × Obj)} {σ : L2.St} {H : Hp} {s : Shared} {Q : VK} {us : List Value} {vs : List V} (F : FnG X.prog X.w X.K X.mg X.base k f fd ps sp)
    (hr : Room k X.A) (hg : X.A.guards = some []) (hb : Binds X.K fd ps []) (I : Inv X pins σ H s) (r : Vals vs us) (h : sp vs H Q L2.E0) : wpAny (model X.prog X.w) X.A (call (.ref f) us) (EP X pins σ Q) X.xe s := by
  have hl : (us ++ []).length = ps.length := by rw [List.append_nil, ← r.length]; exact F.len _ _ _ _ h
  have b := hb s us I.kIn hl
  rw [List.append_nil] at b
  refine wpAny_call (codeAny_mono (F.go X.A X.stack s H ⟨us, []⟩ us vs Q hr hg I.env0 b r h) fun res s' hq => ?_)
  cases res with
  | error er => exact False.elim hq
  | ok fl =>
    cases fl with
    | brk => exact False.elim hq
    | cont => exact False.elim hq
    | next => exact False.elim hq
    | ret u => exact I.after hq
def tG (sp : Sp) (t : TA) : TE := fun σ H Q => t σ H fun vs H1 => sp vs H1 Q L2.E0
/-- f(e, ..) -/
theorem pe_g (F : FnG X.prog X.w X.K X.mg X.base k f fd ps sp) (hr : Room k X.A) (hd : X.A.guards = some []) (hg : Gl X x) (hm : X.mg x = some (.ref f)) (hk : PySem.W.keepIn X.K (.ref f) = true) (hb : Binds X.K fd ps [])
    (ha : PA X (e :: es) t) (hdb : (x == ("__debug__" : Str)) = false := by decide) (he : starEach (e :: es) X.env = (false, eval e X.env) :: starEach es X.env := by rfl)
    (hpl : (backTo pos (starEach es X.env)).any (·.1) = false := by rfl) : PE X (.Call (.Name x p) (e :: es) [] pos) (tG sp t) :=
  ⟨fun pins s σ H Q I h => wpAny_Call_Name_kw (ld_glob I hg hm (PySem.W.callWith_K (h₀ := X.base) I.ok.mod.kin hk (thn (ha.run pos pins s σ H _ I h) fun us s1 ⟨vs, H1, I1, r, q⟩ => ⟨I1.kIn, go_fn F hr hd hb I1 r q⟩) he hpl) hdb)⟩
end

/-! ### keywords alone -/
section
variable {X : Cx} {k : Nat} {f : Addr} {fd : FuncData} {ps ks : List Str} {sp : Sp} {x : Str} {p pos : Pos} {kws : List Keyword} {tk : TA} {g : List Value → List Value → List Value} {gV : List V → List V → List V}
def tKw (n : Nat) (gV : List V → List V) (sp : Sp) (tk : TA) : TE := fun σ H Q => tk σ H fun zs H1 => zs.length = n ∧ sp (gV zs) H1 Q L2.E0
/-- f(k = v, ..) -/
theorem pe_kw (F : FnOk X.prog X.w X.K X.mg X.base L2.CX0 k f fd ps sp) (hr : Room k X.A) (hg : Gl X x) (hm : X.mg x = some (.ref f)) (hk : PySem.W.keepIn X.K (.ref f) = true) (hb : KBn X.K fd ps 0 ks g gV)
    (hkw : PK X kws tk) (hall : (backToKw pos (keywordEach kws X.env)).all (·.1.isSome) = true := by rfl) (hks : (backToKw pos (keywordEach kws X.env)).filterMap (·.1) = ks := by rfl) (hdb : (x == ("__debug__" : Str)) = false := by decide)
    (hpl : ((backTo pos (starEach [] X.env)).any (·.1) || (backToKw pos (keywordEach kws X.env)).any (·.1.isNone)) = false := by rfl) :
    PE X (.Call (.Name x p) [] kws pos) (tKw ks.length (gV []) sp tk) := by
  refine ⟨fun pins s σ H Q I h => wpAny_Call_Name_kw (ld_glob I hg hm ?_ hdb)⟩
  refine PySem.W.callWith_KW0 (h₀ := X.base) I.ok.mod.kin hk hall (thn (hkw.run pos pins s σ H _ I h) fun ws s2 ⟨zs, H2, I2, rz, l2, q2⟩ => ⟨I2.kIn, ?_⟩) hpl
  rw [hks]
  exact run_fnN (us := []) (vs := []) F hr hb L2.pass0 I2 .nil rz rfl l2 q2
end
end Gk
namespace Gk
open PySem PySem.Spec PyProof.Rows L2 PySem.Builtin.Str

/-! ### powers of great numbers -/
def CBigPow (i j : Int) : Prop := 0 ≤ j ∧ (Builtin.Int.intBits i : Int) * j ≤ 2 ^ 27
theorem op_bigpow {X : Cx} : OpR X (binaryOp .Pow) (rI CBigPow fun i j => .int (i ^ j.toNat)) := opI fun _ _ _ _ _ _ _ hc q => pow_int hc.1 hc.2 q

/-! ### repr of data -/
theorem call_reprD {X : Cx} {k : Nat} (hr : Room k X.A) (hg : X.A.guards = some []) : CallR X (.builtin "repr") (fun xs H Q => ∃ v d, xs = [v] ∧ Dp X.K H v d ∧ d.showable = true ∧ d.hasDict = false ∧
    d.depth ≤ 40 ∧ d.shown.length ≤ sizeLine ∧ Q (.str d.shown) H) := by
  intro pins s σ H xs us Q I r h
  obtain ⟨v, d, rfl, hd, hs, hn, hdep, hz, q⟩ := h
  obtain ⟨u, rfl, ru⟩ := vals1 r
  have hun := hr.units
  cases hd with
  | non =>
    cases ru
    exact PySem.P.repr_of_none ⟨.str _, H, I.tok _, ⟨_, rfl⟩, q⟩
  | bl b =>
    cases ru
    exact PySem.P.repr_of_bool ⟨.str _, H, I.tok _, ⟨_, rfl⟩, q⟩
  | int i =>
    obtain ⟨t, rfl⟩ := ru
    exact PySem.P.repr_of_int (of_decide_eq_true hs) ⟨.str _, H, I.tok _, ⟨_, rfl⟩, q⟩
  | str x =>
    obtain ⟨t, rfl⟩ := ru
    exact PySem.P.repr_of_str ⟨.str _, H, I.tok _, ⟨_, rfl⟩, q⟩ hz
  | lst h1 h2 =>
    rename_i a xs ds
    obtain ⟨as, rd⟩ := Dp.reads I (.list ds) (.ref a) u (.lst h1 h2) ru
    cases ru
    exact repr_of_reads' rd hs (PyData.noDict_hsm hn) hg (by omega) (fun _ _ e => e) (fun h' t tk hk => ⟨.str _, H, I.kept (t' := tk) hk, ⟨_, rfl⟩, q⟩) hz
  | tup h1 h2 =>
    rename_i a xs ds
    obtain ⟨as, rd⟩ := Dp.reads I (.tuple ds) (.ref a) u (.tup h1 h2) ru
    cases ru
    exact repr_of_reads' rd hs (PyData.noDict_hsm hn) hg (by omega) (fun _ _ e => e) (fun h' t tk hk => ⟨.str _, H, I.kept (t' := tk) hk, ⟨_, rfl⟩, q⟩) hz

/-! ### a text from behind -/
theorem rev_signs (z : Str) : ((strSliceIndices none none (-1) z.length).filterMap (z.cps[·]?)).toArray = z.cps.toList.reverse.toArray := by
  have e : strSliceIndices none none (-1) z.length = (List.range z.cps.size).reverse := by
    show sliceRange ((z.cps.size : Int) - 1) (-1) (-1) = _
    rw [PySem.W.krv_sliceRange, PySem.W.krv_range]
  rw [e, List.filterMap_reverse, PySem.W.krv_all]
def tRevT (te : TE) : TE := fun σ H Q => te σ H fun x H1 => ∃ z : Str, x = .str z ∧ z.length ≤ sizeLine ∧ Q (.str ⟨z.cps.toList.reverse.toArray⟩) H1
theorem pe_revT {X : Cx} {e : Expr} {te : TE} {k : Nat} {p1 p2 p3 pos : Pos} (he : PE X e te) : PE X (.Subscript e (.Slice none none (some (.UnaryOp .USub (.Constant (.int 1) k p1) p2)) p3) pos) (tRevT te) := by
  refine ⟨fun pins s σ H Q I h => Subscript_ (thn (he.run pins s σ H _ I h) fun v s1 ⟨x, H1, I1, r1, z, ex, hz, q⟩ => ?_)⟩
  subst ex
  obtain ⟨t, rfl⟩ := r1
  have step : PO X (some (.UnaryOp .USub (.Constant (.int 1) k p1) p2)) (tPart (tUn (rU fun i => .int (-i)) (tC (.int 1)))) := po_some (pe_un un_neg pe_int)
  refine wpAny_Slice (thn (po_none.run pins s1 σ H1 (fun o G => o = none ∧ G = H1) I1 ⟨rfl, rfl⟩) fun vl s2 ⟨l, H2, I2, pl, el, e2⟩ => ?_)
  subst e2 el
  refine thn (po_none.run pins s2 σ H2 (fun o G => o = none ∧ G = H2) I2 ⟨rfl, rfl⟩) fun vu s3 ⟨u, H3, I3, pu, eu, e3⟩ => ?_
  subst e3 eu
  refine thn (step.run pins s3 σ H3 (fun o G => o = some (-1) ∧ G = H3) I3 ⟨1, rfl, -1, rfl, rfl, rfl⟩) fun vs s4 ⟨o, H4, I4, ps, eo, e4⟩ => ?_
  subst e4 eo
  obtain ⟨l, rfl, el⟩ := IsPart.raw pl
  obtain ⟨u, rfl, eu⟩ := IsPart.raw pu
  obtain ⟨w, rfl, ew⟩ := IsPart.raw ps
  have I5 : Inv X pins σ H4 { s4 with heap := s4.heap.push { cls := .type "slice", data := .fields #[partValue l, partValue u, partValue w] } } :=
    I4.kept (t' := s4.toks) fun b ob g => Heap.get?_push_of_some _ g
  refine tail_any (T := "str") (ops := [.str z t, .ref s4.heap.objs.size]) (typeIs_str _ _ _) F.slot_str_getitem.lookup ?_ (by with_unfolding_all rfl)
  refine wpAny_getItem_str_slice (l := l) (u := u) (st := w) ⟨_, Heap.get?_push_size _ rfl, rfl, rfl⟩ (by rw [ew]; rfl) ?_
  unfold sliceMade slicePicked
  rw [el, eu, ew]
  show Made.post (if ((-1 : Int) == 1 && _) = true then _ else Made.str ⟨((strSliceIndices none none (-1) z.length).filterMap (z.cps[·]?)).toArray⟩) _ _
  rw [show ((-1 : Int) == 1) = false from rfl, Bool.false_and, if_neg Bool.false_ne_true, rev_signs]
  have hl : (⟨z.cps.toList.reverse.toArray⟩ : Str).length ≤ sizeLine := by
    show z.cps.toList.reverse.toArray.size ≤ sizeLine
    rw [List.size_toArray, List.length_reverse, Array.length_toList]
    exact hz
  exact ⟨hl, .str _, H4, I5.tok _, ⟨_, rfl⟩, q⟩

/-! ### enumerate of a text -/
def Iet (z : Str) : It := ⟨fun i _ => i < z.cps.size, fun i H v H' => ∃ T c, v = .ref T ∧ H T = none ∧ z.cps[i]? = some c ∧ H' = upd H T (.tup [.int (i : Nat), .str ⟨#[c]⟩]), fun i _ => z.cps.size ≤ i⟩
theorem turn_et {P : Program} {w : World} {K : PySem.W.Frag} {elts : List Expr} {kk : Nat} {tpos : Pos} (e it : Addr) (z : Str) (t : Tok) :
    Turn P w K (.Tuple elts kk tpos) (Iet z) [e, it] e (fun i h => ((∃ old, IsEnum h e it i old) ∧ h.IsStrIter it (strIterType z) z t i) ∧ e ≠ it ∧ i ≤ z.cps.size) where
  mem := List.mem_cons_self
  obj := fun i h st b hb => by
    obtain ⟨⟨⟨old, he⟩, ⟨o, ho, hc, hd⟩⟩, _⟩ := st
    rcases List.mem_cons.mp hb with rfl | hb
    · exact ⟨_, he, fun v g => nomatch g⟩
    · rw [List.mem_singleton.mp hb]
      exact ⟨o, ho, fun v g => by rw [hd] at g; cases g⟩
  keep := fun i h h' st k => by
    obtain ⟨⟨⟨old, he⟩, ⟨o, ho, hc, hd⟩⟩, hne⟩ := st
    exact ⟨⟨⟨old, k e List.mem_cons_self _ he⟩, o, k it (List.mem_cons_of_mem _ List.mem_cons_self) o ho, hc, hd⟩, hne⟩
  item := by
    intro X hP hw hK hc i pins s σ H E I hf st hg
    subst hP hw hK
    have hg' : i < z.cps.size := hg
    obtain ⟨st, hne, hi⟩ := st
    have D : Draws X.prog X.w X.A.in1 it [it] z.cps.size _ _ := Draws.text (show X.A.in1.handled = none from I.ok.hd hc) it z t
    have W := WalksT.enumerateD D e hne (fun q => hne (List.mem_singleton.mp q)) List.mem_cons_self
    have hel : e < s.heap.objs.size := by obtain ⟨⟨old, he⟩, _⟩ := st; exact Heap.lt_size he
    have hil : it < s.heap.objs.size := by obtain ⟨_, o, ho, _⟩ := st; exact Heap.lt_size ho
    refine W.item i s _ _ hg' st fun T vals h' tk hp hT isT mid hk => ?_
    obtain ⟨t1, x1, ⟨c, u1, hcx, rfl⟩, rfl⟩ := hp
    have nT := W.apart i T h' mid
    refine ⟨_, rfl, W.go elts kk tpos i T { s with heap := h', toks := tk } _ _ mid fun h2 st2 hk2 => ?_⟩
    obtain ⟨oT, gT, cT, nTT, dT⟩ := isT
    have gT2 := hk2 T oT nT gT
    have new : ObjOk X.prog X.w (upd H T (.tup [.int (i : Nat), .str ⟨#[c]⟩])) h2 T (.tup [.int (i : Nat), .str ⟨#[c]⟩]) :=
      ⟨by show 2 ≤ sizeLine; decide, [.int i t1, .str ⟨#[c]⟩ u1], .cons ⟨_, rfl⟩ (.cons ⟨_, rfl⟩ .nil), ⟨oT, gT2, cT, nTT, dT⟩⟩
    have I1 : Inv X pins σ (upd H T (.tup [.int (i : Nat), .str ⟨#[c]⟩])) { s with heap := h2, toks := tk } :=
      I.turnedNew (ch := [e, it]) (fun b ob hb g => hk2 b ob hb (hk b ob hb g)) hf hT new
    refine ⟨.ref T, _, I1, rfl, ⟨T, c, rfl, I.hok.fresh hT, hcx, rfl⟩, ⟨⟨?_, st2.2⟩, hne, hg'⟩, fun b hb => ?_⟩
    · exact st2.1
    · have hb' : b < s.heap.objs.size := by
        rcases List.mem_cons.mp hb with rfl | hb
        · exact hel
        · rw [List.mem_singleton.mp hb]; exact hil
      rw [upd_ne (Nat.ne_of_lt (Nat.lt_of_lt_of_le hb' hT))]
      exact (hf b hb).1
  done := by
    intro X hP hw hK hc i pins s σ H E I hf st hg
    subst hP hw hK
    obtain ⟨st, hne, hi⟩ := st
    have hg' : z.cps.size ≤ i := hg
    obtain rfl : i = z.cps.size := Nat.le_antisymm hi hg'
    have D : Draws X.prog X.w X.A.in1 it [it] z.cps.size _ _ := Draws.text (show X.A.in1.handled = none from I.ok.hd hc) it z t
    have W := WalksT.enumerateD D e hne (fun q => hne (List.mem_singleton.mp q)) List.mem_cons_self
    refine W.done s _ _ st fun h' tk hk => ⟨rfl, ?_⟩
    exact I.step (g' := s.gens) (d' := s.drawn) (ch := [e, it]) (fun b hb => ⟨(hf b hb).2.2.2.1, (hf b hb).2.1, (hf b hb).2.2.2.2.1, (hf b hb).2.2.2.2.2⟩) (fun b o _ _ hc g _ => hk b o hc g) (fun b o _ _ hc g _ => ⟨o.slots, hk b o hc g⟩)
      (fun _ _ _ _ n => n) (fun b o hc g => ⟨o, hk b o hc g⟩) (fun _ _ g => g) (fun _ _ _ g => g) (fun b ps g => ⟨#[], by rw [g]; simp⟩)
      (fun m hm => by
        obtain ⟨o, es, ep, ho, r⟩ := hm
        exact ⟨o, es, ep, hk _ o (fun q => (hf _ q).2.1 rfl) ho, r⟩)
      (fun b u g => by
        have nb : ∀ c v, H c = some v → c ∉ [e, it] := fun c v g q => by
          have g' := (hf c q).1
          rw [g'] at g; cases g
        refine (I.hok b u g).stay (fun c v hcv q => hk c v ?_ q) (fun _ q => q) fun _ _ q => q
        rcases hcv with rfl | hcv
        · exact nb _ _ g
        · exact nb _ _ hcv) I.bare
  self := fun A i s Q E st h => by
    obtain ⟨⟨⟨old, he⟩, _⟩, _⟩ := st
    exact wpAny_pyIter_enum he h
def iEnumT (ta : TA) : TI := fun σ H R => ta σ H fun vs H1 => ∃ z, vs = [.str z] ∧ R (Iet z) H1
theorem pi_enumT {X : Cx} {e : Expr} {ta : TA} {p pos tpos : Pos} {elts : List Expr} {kk : Nat} (hg : Gl X "enumerate") (hm : X.mg "enumerate" = none) (ha : PA X [e] ta) (hs : starEach [e] X.env = [(false, eval e X.env)] := by rfl) :
    PI X (.Tuple elts kk tpos) (.Call (.Name "enumerate" p) [e] [] pos) (iEnumT ta) := by
  refine ⟨fun pins s σ H R I h => Call_ (ld_blt I hg hm boot_enumerate (PyProof.Rows.callWith_type1 (thn (ha.run pos pins s σ H _ I h) fun us s1 ⟨vs, H1, I1, r1, z, ez, q⟩ => ?_) hs rfl))⟩
  subst ez
  obtain ⟨u, rfl, t, rfl⟩ := vals1 r1
  refine call_enumerate_str fun h' he hit hsz hk => wpAny_pyIter_enum he ?_
  refine ⟨s1.heap.objs.size + 1, [s1.heap.objs.size + 1, s1.heap.objs.size], _, _, H1, rfl, I1.kept (t' := s1.toks) hk, turn_et (s1.heap.objs.size + 1) s1.heap.objs.size z t, ⟨⟨⟨.none, he⟩, hit⟩, Nat.succ_ne_self _, Nat.zero_le _⟩, fun b hb => ?_, q⟩
  have hle : s1.heap.objs.size ≤ b := by
    rcases List.mem_cons.mp hb with rfl | hb
    · exact Nat.le_succ _
    · rw [List.mem_singleton.mp hb]
      exact Nat.le_refl _
  exact I1.fpOk hle (I1.hok.fresh hle)
theorem walk_et {z : Str} : Walk (Iet z) z.cps.size (fun _ => True) (fun i H v H' => ∃ T c, v = .ref T ∧ H T = none ∧ z.cps[i]? = some c ∧ H' = upd H T (.tup [.int (i : Nat), .str ⟨#[c]⟩])) :=
  ⟨fun _ _ hi _ => hi, fun _ _ => Nat.le_refl _, fun _ _ _ _ _ _ y => y⟩
end Gk
namespace Gk
open PySem PySem.Spec PyProof.Rows L2
/-! ### the box of draws -/
def Box (m : Nat) (H : Hp) (b : Addr) : Prop := ∃ x y s : Int, H b = some (.lst [.int x, .int y, .int s]) ∧ 0 ≤ s ∧ s ≤ m
theorem Box.up {m n : Nat} {H : Hp} {b : Addr} (h : Box m H b) (hn : m ≤ n) : Box n H b := by
  obtain ⟨x, y, s, e, h0, h1⟩ := h
  exact ⟨x, y, s, e, h0, by omega⟩
/-- all but the box is as it was -/
def But (b : Addr) (H H' : Hp) : Prop := ∀ a o, a ≠ b → H a = some o → H' a = some o
theorem But.refl (b : Addr) (H : Hp) : But b H H := fun _ _ _ h => h
theorem But.trans {b : Addr} {H H1 H2 : Hp} (x : But b H H1) (y : But b H1 H2) : But b H H2 := fun a o n h => y a o n (x a o n h)
theorem But.set {b : Addr} {H : Hp} {o : HO} : But b H (upd H b o) := fun a u n h => by rw [upd_ne n]; exact h
theorem But.new {b p : Addr} {H : Hp} {o : HO} (h : H p = none) : But b H (upd H p o) := fun a u _ e => by rw [upd_ne (ne_of_none e h)]; exact e
theorem But.of_same {b : Addr} {H H' : Hp} (h : Same H H') : But b H H' := fun a o _ e => h a o e
theorem same_new {H : Hp} {p : Addr} {o : HO} (h : H p = none) : Same H (upd H p o) := fun a u e => by rw [upd_ne (ne_of_none e h)]; exact e
theorem Box.same {m : Nat} {H H' : Hp} {b : Addr} (h : Box m H b) (s : Same H H') : Box m H' b := by
  obtain ⟨x, y, z, e, r⟩ := h
  exact ⟨x, y, z, s _ _ e, r⟩
theorem Box.ne {m : Nat} {H : Hp} {b p : Addr} (h : Box m H b) (hp : H p = none) : b ≠ p := by
  obtain ⟨x, y, z, e, r⟩ := h
  exact ne_of_none e hp
theorem But.seqL {b : Addr} {K : PySem.W.Frag} {H H' : Hp} {a : Addr} {xs : List V} (e : But b H H') (n : a ≠ b) (h : SqL K H a xs) : SqL K H' a xs := by
  rcases h with (h | ⟨o, h⟩) | h
  · exact .inl (.inl (e _ _ n h))
  · exact .inl (.inr ⟨o, e _ _ n h⟩)
  · exact .inr h
theorem But.seqT {b : Addr} {K : PySem.W.Frag} {H H' : Hp} {a : Addr} {xs : List V} (e : But b H H') (n : a ≠ b) (h : SqT K H a xs) : SqT K H' a xs := by
  rcases h with (h | ⟨o, h⟩) | h
  · exact .inl (.inl (e _ _ n h))
  · exact .inl (.inr ⟨o, e _ _ n h⟩)
  · exact .inr h
theorem Same.seqT {K : PySem.W.Frag} {H H' : Hp} {a : Addr} {xs : List V} (e : Same H H') (h : SqT K H a xs) : SqT K H' a xs := by
  rcases h with (h | ⟨o, h⟩) | h
  · exact .inl (.inl (e _ _ h))
  · exact .inl (.inr ⟨o, e _ _ h⟩)
  · exact .inr h
/-- what is read at an address that is not the box's -/
theorem box_not_tup {m : Nat} {K : PySem.W.Frag} {H : Hp} {b a : Addr} (h : Box m H b) {xs : List V} (t : H a = some (.tup xs)) : a ≠ b := by
  obtain ⟨x, y, z, e, r⟩ := h
  exact ne_of t e (fun q => HO.noConfusion q)

/-! ### defs with their names -/
structure Dfn (P : Program) (w : World) (K : PySem.W.Frag) (mg : Str → Option Value) (base : Heap) (k : Nat) (x : Str) (ps : List Str) (sp : Sp) : Prop where
  ex : ∃ (f : Addr) (fd : FuncData), FnOk P w K mg base L2.CX0 k f fd ps sp ∧ mg x = some (.ref f) ∧ PySem.W.keepIn K (.ref f) = true ∧ Binds K fd ps []
/-- .. where nothing is being shown -/
structure DfG (P : Program) (w : World) (K : PySem.W.Frag) (mg : Str → Option Value) (base : Heap) (k : Nat) (x : Str) (ps : List Str) (sp : Sp) : Prop where
  ex : ∃ (f : Addr) (fd : FuncData), FnG P w K mg base k f fd ps sp ∧ mg x = some (.ref f) ∧ PySem.W.keepIn K (.ref f) = true ∧ Binds K fd ps []
section
variable {X : Cx} {k j : Nat} {x : Str} {ps : List Str} {sp : Sp} {p pos : Pos} {e : Expr} {es : List Expr} {t : TA}
theorem pe_d (D : Dfn X.prog X.w X.K X.mg X.base k x ps sp) (hr : Room j X.A) (hk : k ≤ j) (hg : Gl X x) (ha : PA X (e :: es) t)
    (hdb : (x == ("__debug__" : Str)) = false := by decide) (he : starEach (e :: es) X.env = (false, eval e X.env) :: starEach es X.env := by rfl)
    (hpl : (backTo pos (starEach es X.env)).any (·.1) = false := by rfl) : PE X (.Call (.Name x p) (e :: es) [] pos) (tCall sp [] L2.E0 t) := by
  obtain ⟨f, fd, F, m, kp, b⟩ := D.ex
  exact L2.pe_call (F.mono hk) hr hg m kp b .nil L2.pass0 ha hdb he hpl
theorem pe_dg (D : DfG X.prog X.w X.K X.mg X.base k x ps sp) (hr : Room j X.A) (hd : X.A.guards = some []) (hk : k ≤ j) (hg : Gl X x) (ha : PA X (e :: es) t)
    (hdb : (x == ("__debug__" : Str)) = false := by decide) (he : starEach (e :: es) X.env = (false, eval e X.env) :: starEach es X.env := by rfl)
    (hpl : (backTo pos (starEach es X.env)).any (·.1) = false := by rfl) : PE X (.Call (.Name x p) (e :: es) [] pos) (tG sp t) := by
  obtain ⟨f, fd, F, m, kp, b⟩ := D.ex
  exact pe_g (F.weak hk) hr hd hg m kp b ha hdb he hpl
end
/-- an expression whose ways meet -/
def tMid (t : TE) : TE := fun σ H Q => ∃ Mid : V → Hp → Prop, t σ H Mid ∧ ∀ v H', Mid v H' → Q v H'
theorem pe_mid {X : Cx} {e : Expr} {t : TE} (h : PE X e t) : PE X e (tMid t) :=
  ⟨fun pins s σ H Q I ⟨M, h1, h2⟩ => thn (h.run pins s σ H M I h1) fun u s1 ⟨v, H1, I1, r, q⟩ => ⟨v, H1, I1, r, h2 v H1 q⟩⟩
/-- a test whose ways meet -/
def tMidT (t : TT) : TT := fun σ H Q => ∃ Mid : Bool → Hp → Prop, t σ H Mid ∧ ∀ b H', Mid b H' → Q b H'
/-- a def called by keywords alone -/
structure DfK (P : Program) (w : World) (K : PySem.W.Frag) (mg : Str → Option Value) (base : Heap) (k : Nat) (x : Str) (ps ks : List Str) (gV : List V → List V) (sp : Sp) : Prop where
  ex : ∃ (f : Addr) (fd : FuncData) (g : List Value → List Value → List Value), FnOk P w K mg base L2.CX0 k f fd ps sp ∧ mg x = some (.ref f) ∧ PySem.W.keepIn K (.ref f) = true ∧ KBn K fd ps 0 ks g (fun _ zs => gV zs)
theorem pe_dk {X : Cx} {k j : Nat} {x : Str} {ps ks : List Str} {sp : Sp} {gV : List V → List V} {p pos : Pos} {kws : List Keyword} {tk : TA} (D : DfK X.prog X.w X.K X.mg X.base k x ps ks gV sp) (hr : Room j X.A) (hk : k ≤ j) (hg : Gl X x)
    (hkw : PK X kws tk) (hall : (backToKw pos (keywordEach kws X.env)).all (·.1.isSome) = true := by rfl) (hks : (backToKw pos (keywordEach kws X.env)).filterMap (·.1) = ks := by rfl) (hdb : (x == ("__debug__" : Str)) = false := by decide)
    (hpl : ((backTo pos (starEach [] X.env)).any (·.1) || (backToKw pos (keywordEach kws X.env)).any (·.1.isNone)) = false := by rfl) :
    PE X (.Call (.Name x p) [] kws pos) (tKw ks.length gV sp tk) := by
  obtain ⟨f, fd, g, F, m, kp, b⟩ := D.ex
  exact pe_kw (F.mono hk) hr hg m kp b hkw hall hks hdb hpl
/-- text * n -/
theorem op_mulS {X : Cx} : OpR X (binaryOp .Mult) (fun x y H Q => ∃ z n, x = .str z ∧ y = .int n ∧ MulOk z n ∧ Q (.str (Txt.mul z n)) H) := by
  intro pins s σ H x y v u Q I rx ry h
  obtain ⟨z, n, rfl, rfl, hc, q⟩ := h
  obtain ⟨t, rfl⟩ := rx
  obtain ⟨t', rfl⟩ := ry
  exact SB.mul hc fun t2 k => ⟨.str _, H, I.tok _, ⟨_, rfl⟩, q⟩
/-- data that may be shown -/
structure Fine (d : PyData) : Prop where
  a : d.showable = true
  b : d.hasDict = false
  c : d.depth ≤ 40
  e : d.shown.length ≤ sizeLine
theorem Fine.of {d : PyData} (B : Nat) (hB : 8 ≤ B) (hB2 : B ≤ 1000) (a : d.showable = true) (b : d.hasDict = false) (c : d.depth ≤ 40) (l : d.leavesShort B = true) (w : d.weight ≤ 10000) : Fine d :=
  ⟨a, b, c, by
    have h := PyData.shown_le B hB d l
    have h2 : (B + 2) * d.weight ≤ 1002 * 10000 := Nat.mul_le_mul (by omega) w
    have h3 : sizeLine = 16777216 := sizeLine_eq
    omega⟩
theorem call_reprF {X : Cx} {k : Nat} (hr : Room k X.A) (hg : X.A.guards = some []) : CallR X (.builtin "repr") (fun xs H Q => ∃ v d, xs = [v] ∧ Dp X.K H v d ∧ Fine d ∧ Q (.str d.shown) H) :=
  fun pins s σ H xs us Q I r ⟨v, d, h1, h2, h3, q⟩ => call_reprD hr hg pins s σ H xs us Q I r ⟨v, d, h1, h2, h3.a, h3.b, h3.c, h3.e, q⟩
theorem fine_ints {a b : Int} (ha : a.natAbs < 10 ^ 20) (hb : b.natAbs < 10 ^ 20) : Fine (.list [.int a, .int b]) := by
  have len : ∀ c : Int, c.natAbs < 10 ^ 20 → (PyData.shown (.int c)).length ≤ 21 := fun c hc => by
    have h := int_text_length_le10 (a := c) (k := 20) (by decide) hc
    show (Str.ofString (toString c)).length ≤ 21
    rw [PySem.ofString_length]
    exact h
  have la := len a ha
  have lb := len b hb
  have ga : a.natAbs.log2 < 1920 := PySem.Flt.log2_lt_of (by decide) (Nat.lt_of_lt_of_le ha (by decide))
  have gb : b.natAbs.log2 < 1920 := PySem.Flt.log2_lt_of (by decide) (Nat.lt_of_lt_of_le hb (by decide))
  refine Fine.of 21 (by decide) (by decide) ?_ rfl (by simp [PyData.depth, PyData.depthAll]) ?_ (by simp only [PyData.weight, PyData.weightAll]; split <;> split <;> omega)
  · simp only [PyData.showable, PyData.showableAll, ga, gb, decide_true, Bool.and_self]
  · simp only [PyData.leavesShort, PyData.leavesShortAll, la, lb, decide_true, Bool.and_self]
/-- a promise that does not speak of what is raised, as a value -/
theorem sqL_at {K : PySem.W.Frag} {H : Hp} {a : Addr} {xs : List V} (h : H a = some (.lst xs)) : SqL K H a xs := SqL.of h
end Gk
namespace Gk
open PySem PySem.Spec PyProof.Rows L2
/-- the caller shows nothing -/
theorem caller_guards : callerA.guards = some [] := rfl
/-- the law's call, its promise told where nothing is being shown -/
theorem callG {P : Program} {w : World} {K : PySem.W.Frag} {mg mb : Str → Option Value} {k : Nat} {fa a : Addr} {fd : FuncData} {x : Str} {sp : Sp} {s1 : Shared} {vs : List Value} {ns : List Int}
    (KX : K.In s1.heap) (n1 : s1.heap.Ns mainGlobals mg) (n2 : s1.heap.Ns builtinsNs mb) (n3 : ∀ x : Str, x ≠ "__name__" → mb x = bootBuiltins x) (lim : s1.heap.NoLimit) (gen : s1.gens = #[])
    (at_ : s1.heap.get? a = some { cls := .type "list", data := .seq vs.toArray }) (iss : IntsAre vs ns) (few : ns.length ≤ sizeLine) (room : Room k callerA)
    (F : ∀ base : Heap, K.In base → base.Ns mainGlobals mg → FnG P w K mg base k fa fd [x] sp) (binds : ∀ (s : Shared) (u : Value), BindsTo s fd ⟨[u], []⟩ [(x, u)])
    (want : ∀ H : Hp, Only H → SqL K H a (ns.map V.int) → sp [.ref a] H (fun v _ => v = .bl true) L2.E0) :
    codeAny (model P w) callerA (.call (.ref fa) ⟨[.ref a], []⟩) (fun r s' => r = .ok (.ret (.bool true)) ∧ OldK s1.heap s'.heap ∧ s'.os = s1.os ∧ AllBare s'.gens) s1 := by
  have rv := L2.vals_ints iss
  have go : ∀ H : Hp, Only H → SqL K H a (ns.map V.int) → HOk P w H s1.heap → (∀ b, H b ≠ none → b = a) → (H a ≠ none → K.lookup a = none) →
      codeAny (model P w) callerA (.call (.ref fa) ⟨[.ref a], []⟩) (fun r s' => r = .ok (.ret (.bool true)) ∧ OldK s1.heap s'.heap ∧ s'.os = s1.os ∧ AllBare s'.gens) s1 := by
    intro H only there held alone apart
    have isA : ∀ {b : Addr} {u : HO}, H b = some u → b = a := fun {b u} e => alone b (fun z => by rw [e] at z; cases z)
    have free : ∀ {b : Addr} {o : Obj} {es : Array DictEntry} {ep : Nat}, s1.heap.get? b = some o → o.data = .dict es ep → H b = none := by
      intro b o es ep e d
      cases q : H b with
      | none => rfl
      | some u =>
        obtain rfl := isA q
        rw [at_] at e
        cases e
        exact Data.noConfusion (show Data.seq vs.toArray _ = Data.dict es ep from d)
    have nsB : ∀ {b : Addr} {m : Str → Option Value}, s1.heap.Ns b m → (hidT s1.heap H).Ns b m := by
      intro b m h
      obtain ⟨o, es, ep, e, d, r⟩ := h
      exact ⟨o, es, ep, hidT_get e (free e d), d, r⟩
    have KB : K.In (hidT s1.heap H) := by
      intro b o e
      refine hidT_get (KX b o e) ?_
      cases q : H b with
      | none => rfl
      | some u =>
        obtain rfl := isA q
        have z := apart (fun z => by rw [q] at z; cases z)
        rw [z] at e
        cases e
    obtain ⟨mc, c1, c2⟩ := lim
    have en : Env0 P w K mg (hidT s1.heap H) callerA [] s1 H :=
      { frames := rfl, mod := ⟨KB, nsB n1, ⟨mb, nsB n2, n3⟩, ⟨mc, nsB c1, c2⟩⟩, bs := fun b o e => of_hidT e, bsz := Nat.le_of_eq (hidT_size _ _), funs := trivial,
        frf := fun b hb => (nomatch (show b ∈ ([] : List Addr) from hb)), hok := held, bare := .of_eq gen }
    refine codeAny_mono ((F _ KB (nsB n1)).go callerA [] s1 H ⟨[.ref a], []⟩ [.ref a] [.ref a] _ room caller_guards en (binds s1 (.ref a)) (.cons rfl .nil) (want H only there)) fun r s' res => ?_
    match r, res with
    | .error _, res => exact False.elim res
    | .ok .next, res => exact False.elim res
    | .ok .brk, res => exact False.elim res
    | .ok .cont, res => exact False.elim res
    | .ok (.ret u), res =>
      obtain ⟨v, H1, os, bare, un, held1, rel, qv⟩ := res
      have qv : v = .bl true := qv
      subst qv
      obtain rfl : u = Value.bool true := rel
      refine ⟨rfl, OldK.of_keep fun b o e => ?_, os, bare⟩
      cases q : H b with
      | none => exact un.keep b o e q (fun z => (nomatch (show b ∈ ([] : List Addr) from z))) (fun z => (nomatch z))
      | some u =>
        rcases only b with z | ⟨ob, xs, z⟩
        · rw [q] at z
          cases z
        · have f1 := (held b _ z).1
          have f2 := (held1 b _ (un.frzs b ob _ z)).1
          rw [e] at f1
          cases f1
          exact f2
  cases kl : K.lookup a with
  | some o =>
    have e := KX a o kl
    rw [at_] at e
    cases e
    exact go (fun _ => none) (fun _ => .inl rfl) (.inr ⟨_, vs.toArray, _, kl, rfl, rfl, rfl, by rw [List.size_toArray, iss.length]; exact few, by simpa using rv⟩) (fun b u z => (nomatch (show (none : Option HO) = some u from z))) (fun b z => absurd rfl z) (fun z => absurd rfl z)
  | none =>
    refine go (fun b => if b = a then some (.frz { cls := .type "list", data := .seq vs.toArray } (.lst (ns.map V.int))) else none) ?_ (.inl (.inr ⟨_, if_pos rfl⟩)) ?_ ?_ (fun _ => kl)
    · intro b
      by_cases h : b = a
      · exact .inr ⟨_, _, if_pos h⟩
      · exact .inl (if_neg h)
    · intro b u z
      by_cases h : b = a
      · obtain rfl := Option.some.inj ((if_pos h).symm.trans z)
        subst h
        exact ⟨at_, by rw [List.length_map]; exact few, vs, _, rv, at_⟩
      · exact (nomatch ((if_neg h).symm.trans z))
    · intro b z
      by_cases h : b = a
      · exact h
      · exact absurd (if_neg h) z

/-- the goal behind the head -/
theorem walkG {l : PySem.W.OpenLaw} {n k : Nat} {q : Program} {loose : List Str} {XP : (Str → Option Value) → Heap → Prop} {YP : World → Heap → Prop} {d : DefRec} {K : Params → PySem.W.Frag} {sp : World → Sp} {x : Str}
    (h1 : l.most = some n) (h2 : n ≤ sizeLine) (h3 : d.params.defaults = []) (h4 : Room k callerA) (h5 : ∀ (w : World) (h : Heap), YP w h → (K w.params).In h)
    (F : ∀ (w : World) (mg : Str → Option Value) (fa : Addr) (h : Heap), (K w.params).In h → h.Ns mainGlobals mg → mg d.name = some (.ref fa) →
      ∃ fd : FuncData, (∀ (s : Shared) (u : Value), BindsTo s fd ⟨[u], []⟩ [(x, u)]) ∧ ∀ base : Heap, (K w.params).In base → base.Ns mainGlobals mg → FnG l.prog w (K w.params) mg base k fa fd [x] (sp w))
    (h6 : ∀ (w : World) (H : Hp) (a : Addr) (ns : List Int), ns.length ≤ n → Only H → SqL (K w.params) H a (ns.map V.int) → sp w [.ref a] H (fun v _ => v = .bl true) L2.E0) :
    PySem.W.WalkO q loose XP YP l.row.toRowW d [] (fun f vs => PySem.call f vs) :=
  Att.attach_call h1 h3 fun w s0 s1 mg mb fa o pm cd doc a vs ns G Y ho hd hcd hmg obj iss len gen => by
    obtain ⟨fd, hb, hF⟩ := F w mg fa _ (h5 w _ Y) G.T.g hmg
    exact callG (h5 w _ Y) G.T.g G.T.b G.T.builtins G.T.nolimit gen obj iss (Nat.le_trans len h2) h4 hF hb (fun H hO hS => h6 w H a ns len hO hS)
end Gk
namespace Gk
open PySem PySem.Spec PyProof.Rows L2
theorem mul_same (l : Addr) (its : Array Value) (n : Nat) (dd : Option Addr) (sl : Array (Option Value)) (u : Tok) :
    Meets (Builtin.«tuple.__mul__» ⟨[.ref l, .int 1 u], []⟩) (fun _ R s => s.heap.get? l = some { cls := .type "tuple", dict := dd, data := .seq its n, slots := sl } ∧ R (.ok (.ret (.ref l))) s) :=
  .of_wp fun prog w A R s h => by
    obtain ⟨hp, g, d, tk, os⟩ := s
    obtain ⟨hl, h⟩ := h
    have f1 := AutoSeq1.idx_int
    have c0 : (decide ((1 : Int) < -(2 ^ 63)) || decide ((1 : Int) ≥ 2 ^ 63)) = false := by decide
    have c1 : (its.isEmpty || (1 : Int) == 1) = true := by simp
    wp_walk using wpAny_loadPart' hl
    repeat (first
      | (refine wpAny_ite_false (decide_eq_false (by rw [c0]; exact Bool.false_ne_true)) ?_; wp_walk using wpAny_loadPart' hl)
      | (refine wpAny_ite_true (decide_eq_true (by rw [c1])) ?_; wp_walk using wpAny_loadPart' hl))
    all_goals first | exact ⟨_, rfl, h⟩ | skip
theorem mul_none (l : Addr) (its : Array Value) (n : Nat) (dd : Option Addr) (sl : Array (Option Value)) (x : Int) (u : Tok) (hx : x ≤ 0) (hx2 : -(2 ^ 63) ≤ x) (hi : its.isEmpty = false) :
    Meets (Builtin.«tuple.__mul__» ⟨[.ref l, .int x u], []⟩) (fun _ R s => s.heap.get? l = some { cls := .type "tuple", dict := dd, data := .seq its n, slots := sl } ∧
      R (.ok (.ret (Value.ref s.heap.objs.size))) { s with heap := s.heap.push { cls := Value.type "tuple", data := Data.seq #[] }, toks := s.toks }) :=
  .of_wp fun prog w A R s h => by
    obtain ⟨hp, g, d, tk, os⟩ := s
    obtain ⟨hl, h⟩ := h
    have f1 := AutoSeq1.idx_int
    have c0 : (decide (x < -(2 ^ 63)) || decide (x ≥ 2 ^ 63)) = false := by
      rw [decide_eq_false (by omega), decide_eq_false (by omega)] <;> rfl
    have c1 : (its.isEmpty || x == 1) = false := by
      rw [hi, Bool.false_or]
      exact beq_eq_false_iff_ne.mpr (by omega)
    have c2 : (decide (x ≤ 0) || its.isEmpty) = true := by
      rw [decide_eq_true hx] <;> rfl
    wp_walk using wpAny_loadPart' hl
    repeat (first
      | (refine wpAny_ite_false (decide_eq_false (by rw [c0]; exact Bool.false_ne_true)) ?_; wp_walk using wpAny_loadPart' hl)
      | (refine wpAny_ite_false (decide_eq_false (by rw [c1]; exact Bool.false_ne_true)) ?_; wp_walk using wpAny_loadPart' hl)
      | (refine wpAny_ite_true (decide_eq_true (by rw [c2])) ?_; wp_walk using wpAny_loadPart' hl))
    all_goals first | exact ⟨_, rfl, h⟩ | skip
/-- t * k, whatever object it is -/
def rRepU (K : PySem.W.Frag) : R2 := fun x y H Q => ∃ l k xs, x = .ref l ∧ y = .int k ∧ SqT K H l xs ∧ xs ≠ [] ∧ 0 ≤ k ∧ k ≤ 1000 ∧ xs.length ≤ 1000 ∧
  ∀ p H', Same H H' → SqT K H' p (List.replicate k.toNat xs).flatten → Q (.ref p) H'
section
variable {X : Cx}
theorem op_repU : OpR X (binaryOp .Mult) (rRepU X.K) := by
  intro pins s σ H x y v u Q I rx ry h
  obtain ⟨l, k, xs, rfl, rfl, hT, hne, h0, h1, hz, q⟩ := h
  by_cases h2 : 2 ≤ k
  · exact op_repT pins s σ H _ _ v u Q I rx ry ⟨l, k, xs, rfl, rfl, hT, hne, h2, h1, hz, fun p np => q p _ (same_new np) (.inl (.inl upd_same))⟩
  · cases rx
    obtain ⟨t, rfl⟩ := ry
    obtain ⟨its, r, ⟨⟨cls, dd, data, sl⟩, ho, hc, n, hd⟩, hs⟩ := I.tuple hT
    simp only at hc hd
    subst hc hd
    have many : its.length = xs.length := r.length.symm
    have full : its.toArray.isEmpty = false := by
      cases its with
      | nil => exact absurd (List.eq_nil_of_length_eq_zero many.symm) hne
      | cons a b => rfl
    by_cases h3 : k = 1
    · subst h3
      refine wpAny_binaryOp_repeat_ref (T := "tuple") (U := "int") (by decide) ⟨_, ho, rfl⟩ (fun s' => typeIs_int s' 1 t) noFill_tuple_mul F.fills_int_mul F.slot_int_rmul repeat_tuple F.slot_int_index.lookup
        (call_meets F.slot_int_rmul (typeIs_int s 1 t) F.entry_int_rmul (F.args_int_rmul_2 _ _) (int_rmul_tuple 1 t l its.toArray n dd sl)
          ⟨ho, rfl, ⟨_, ho, rfl⟩, call_meets F.slot_tuple_mul ⟨_, ho, rfl⟩ F.entry_tuple_mul (F.args_tuple_mul_2 _ _) (mul_same l its.toArray n dd sl t) ⟨ho, ?_⟩⟩)
      refine ⟨.ref l, H, I, rfl, q l H (Same.refl H) ?_⟩
      show SqT X.K H l ([xs].flatten)
      rw [List.flatten_cons, List.flatten_nil, List.append_nil]
      exact hT
    · have h4 : k = 0 := by omega
      subst h4
      refine wpAny_binaryOp_repeat_ref (T := "tuple") (U := "int") (by decide) ⟨_, ho, rfl⟩ (fun s' => typeIs_int s' 0 t) noFill_tuple_mul F.fills_int_mul F.slot_int_rmul repeat_tuple F.slot_int_index.lookup
        (call_meets F.slot_int_rmul (typeIs_int s 0 t) F.entry_int_rmul (F.args_int_rmul_2 _ _) (int_rmul_tuple 0 t l its.toArray n dd sl)
          ⟨ho, rfl, ⟨_, ho, rfl⟩, call_meets F.slot_tuple_mul ⟨_, ho, rfl⟩ F.entry_tuple_mul (F.args_tuple_mul_2 _ _) (mul_none l its.toArray n dd sl 0 t (by decide) (by decide) full) ⟨ho, ?_⟩⟩)
      have nf : H s.heap.objs.size = none := I.hok.fresh (Nat.le_refl _)
      exact ⟨.ref s.heap.objs.size, upd H s.heap.objs.size (.tup []), I.laid (t' := s.toks) (fun b ob g => Heap.get?_push_of_some _ g) (Nat.le_refl _) ⟨Nat.zero_le _, [], .nil, IsTup.new _ _⟩, rfl, q _ _ (same_new nf) (.inl (.inl upd_same))⟩
/-- t + u, whatever object it is -/
def rCatU (K : PySem.W.Frag) : R2 := fun x y H Q => ∃ a b xs ys, x = .ref a ∧ y = .ref b ∧ SqT K H a xs ∧ SqT K H b ys ∧ xs.length + ys.length ≤ sizeLine ∧ ∀ p H', Same H H' → SqT K H' p (xs ++ ys) → Q (.ref p) H'
theorem op_catU : OpR X (binaryOp .Add) (rCatU X.K) := by
  intro pins s σ H x y v u Q I rx ry h
  obtain ⟨a, b, xs, ys, rfl, rfl, ha, hb, hz, q⟩ := h
  refine op_catA pins s σ H _ _ v u Q I rx ry ⟨a, b, xs, ys, rfl, rfl, ha, hb, hz, fun e => ?_, fun _ e => ?_, fun _ _ p np => q p _ (same_new np) (.inl (.inl upd_same))⟩
  · subst e
    exact q b H (Same.refl H) hb
  · subst e
    exact q a H (Same.refl H) (by rw [List.append_nil]; exact ha)
theorem cut_whole {xs : List V} {lo hi : Option Int} (h : HT.sIx xs.length 0 lo = 0 ∧ HT.sIx xs.length xs.length hi = xs.length) : cutV xs lo hi = xs := by
  unfold cutV
  rw [h.1, h.2]
  simp
/-- t[lo:hi], whatever object it is -/
def rSlU (K : PySem.W.Frag) : V → Option Int → Option Int → Hp → VK → Prop := fun x lo hi H Q => ∃ a xs, x = .ref a ∧ SqT K H a xs ∧ ∀ p H', Same H H' → SqT K H' p (cutV xs lo hi) → Q (.ref p) H'
theorem sl_tupU : SlR X (rSlU X.K) := by
  intro pins s σ H x v vl vu lo hi sl Q I rx hs pl pu h
  obtain ⟨a, xs, rfl, hx, q⟩ := h
  exact sl_tupA pins s σ H _ v vl vu lo hi sl Q I rx hs pl pu ⟨a, xs, rfl, hx, fun e => q a H (Same.refl H) (by rw [cut_whole e]; exact hx), fun _ p np => q p _ (same_new np) (.inl (.inl upd_same))⟩
end
theorem cut_to {xs : List V} (n : Nat) : cutV xs none (some (n : Int)) = xs.take n := by
  unfold cutV
  rw [HT.sIx_none, HT.sIx_nat]
  show ((xs.drop 0).take (min n xs.length - 0)) = _
  rw [List.drop_zero, Nat.sub_zero, Nat.min_comm, List.take_eq_take_iff]
  omega
theorem cut_from {xs : List V} (n : Nat) : cutV xs (some (n : Int)) none = xs.drop n := by
  unfold cutV
  rw [HT.sIx_none, HT.sIx_nat]
  by_cases h : n ≤ xs.length
  · rw [Nat.min_eq_left h, List.take_of_length_le (by rw [List.length_drop]; exact Nat.le_refl _)]
  · rw [Nat.min_eq_right (by omega), List.drop_eq_nil_of_le (Nat.le_refl _), List.drop_eq_nil_of_le (by omega)]
    exact List.take_nil
end Gk
namespace Gk
open PySem PySem.Spec PyProof.Rows L2
/-! ### data that is easily shown and compared -/
mutual
def tame : PyData → Bool
  | .none | .bool _ => true
  | .int i => decide (i.natAbs < 10 ^ 20)
  | .str x => x.cps.all (· < 0x110000)
  | .list xs | .tuple xs => tameAll xs
  | .dict _ => false
def tameAll : List PyData → Bool
  | [] => true
  | x :: xs => tame x && tameAll xs
end
mutual
def cost : PyData → Nat
  | .none | .bool _ | .int _ => 70
  | .str x => x.cps.size + 1
  | .list xs | .tuple xs => costAll xs
  | .dict _ => 0
def costAll : List PyData → Nat
  | [] => 1
  | x :: xs => cost x + 1 + costAll xs
end
theorem int_len20 {c : Int} (hc : c.natAbs < 10 ^ 20) : (PyData.shown (.int c)).length ≤ 21 := by
  have h := int_text_length_le10 (a := c) (k := 20) (by decide) hc
  show (Str.ofString (toString c)).length ≤ 21
  rw [PySem.ofString_length]
  exact h
theorem int_log20 {c : Int} (hc : c.natAbs < 10 ^ 20) : c.natAbs.log2 < 68 := PySem.Flt.log2_lt_of (by decide) (Nat.lt_of_lt_of_le hc (by decide))
mutual
theorem tame_showable : ∀ d : PyData, tame d = true → d.showable = true
  | .none, _ => rfl
  | .bool _, _ => rfl
  | .int i, h => by
    have h1 := int_log20 (of_decide_eq_true (by simpa only [tame] using h))
    simp only [PyData.showable]
    exact decide_eq_true (by omega)
  | .str _, _ => rfl
  | .list xs, h => by simpa only [PyData.showable] using tame_showableAll xs (by simpa only [tame] using h)
  | .tuple xs, h => by simpa only [PyData.showable] using tame_showableAll xs (by simpa only [tame] using h)
  | .dict _, h => by simp [tame] at h
theorem tame_showableAll : ∀ ds : List PyData, tameAll ds = true → PyData.showableAll ds = true
  | [], _ => rfl
  | x :: xs, h => by
    simp only [tameAll, Bool.and_eq_true] at h
    simp only [PyData.showableAll, tame_showable x h.1, tame_showableAll xs h.2, Bool.and_self]
end
mutual
theorem tame_nodict : ∀ d : PyData, tame d = true → d.hasDict = false
  | .none, _ => rfl
  | .bool _, _ => rfl
  | .int _, _ => rfl
  | .str _, _ => rfl
  | .list xs, h => by simpa only [PyData.hasDict] using tame_nodictAll xs (by simpa only [tame] using h)
  | .tuple xs, h => by simpa only [PyData.hasDict] using tame_nodictAll xs (by simpa only [tame] using h)
  | .dict _, h => by simp [tame] at h
theorem tame_nodictAll : ∀ ds : List PyData, tameAll ds = true → PyData.hasDictAll ds = false
  | [], _ => rfl
  | x :: xs, h => by
    simp only [tameAll, Bool.and_eq_true] at h
    simp only [PyData.hasDictAll, tame_nodict x h.1, tame_nodictAll xs h.2, Bool.or_self]
end
mutual
theorem tame_short : ∀ d : PyData, tame d = true → d.leavesShort 21 = true
  | .none, _ => rfl
  | .bool _, _ => rfl
  | .int i, h => by
    have h1 := int_len20 (of_decide_eq_true (by simpa only [tame] using h))
    simp only [PyData.leavesShort]
    exact decide_eq_true h1
  | .str x, h => by
    have h1 : x.cps.all (· < 0x110000) = true := by simpa only [tame] using h
    simp only [PyData.leavesShort, List.all_eq_true, decide_eq_true_eq]
    intro c hc
    rw [Array.all_eq_true_iff_forall_mem] at h1
    have h2 := h1 c (Array.mem_toList_iff.mp hc)
    have h3 : c < 0x110000 := by simpa using h2
    exact Nat.lt_of_lt_of_le h3 (by decide)
  | .list xs, h => by simpa only [PyData.leavesShort] using tame_shortAll xs (by simpa only [tame] using h)
  | .tuple xs, h => by simpa only [PyData.leavesShort] using tame_shortAll xs (by simpa only [tame] using h)
  | .dict _, h => by simp [tame] at h
theorem tame_shortAll : ∀ ds : List PyData, tameAll ds = true → PyData.leavesShortAll 21 ds = true
  | [], _ => rfl
  | x :: xs, h => by
    simp only [tameAll, Bool.and_eq_true] at h
    simp only [PyData.leavesShortAll, tame_short x h.1, tame_shortAll xs h.2, Bool.and_self]
end
mutual
theorem tame_weight : ∀ d : PyData, tame d = true → d.weight ≤ cost d
  | .none, _ => Nat.zero_le _
  | .bool _, _ => Nat.zero_le _
  | .int i, h => by
    have h1 := int_log20 (of_decide_eq_true (by simpa only [tame] using h))
    simp only [PyData.weight, cost]
    split <;> omega
  | .str x, h => by
    simp only [PyData.weight, cost]
    omega
  | .list xs, h => by simpa only [PyData.weight, cost] using tame_weightAll xs (by simpa only [tame] using h)
  | .tuple xs, h => by simpa only [PyData.weight, cost] using tame_weightAll xs (by simpa only [tame] using h)
  | .dict _, h => by simp [tame] at h
theorem tame_weightAll : ∀ ds : List PyData, tameAll ds = true → PyData.weightAll ds ≤ costAll ds
  | [], _ => Nat.zero_le _
  | x :: xs, h => by
    simp only [tameAll, Bool.and_eq_true] at h
    have h1 := tame_weight x h.1
    have h2 := tame_weightAll xs h.2
    simp only [PyData.weightAll, costAll]
    omega
end
mutual
theorem tame_lay : ∀ d : PyData, tame d = true → d.canLay0 = true
  | .none, _ => rfl
  | .bool _, _ => rfl
  | .int _, _ => rfl
  | .str x, h => by
    have h1 : x.cps.all (· < 0x110000) = true := by simpa only [tame] using h
    simpa only [PyData.canLay0, PyData.strOk] using h1
  | .list xs, h => by simpa only [PyData.canLay0] using tame_layAll xs (by simpa only [tame] using h)
  | .tuple xs, h => by simpa only [PyData.canLay0] using tame_layAll xs (by simpa only [tame] using h)
  | .dict _, h => by simp [tame] at h
theorem tame_layAll : ∀ ds : List PyData, tameAll ds = true → PyData.canLayAll0 ds = true
  | [], _ => rfl
  | x :: xs, h => by
    simp only [tameAll, Bool.and_eq_true] at h
    simp only [PyData.canLayAll0, tame_lay x h.1, tame_layAll xs h.2, Bool.and_self]
end
theorem Fine.tame {d : PyData} (h : Gk.tame d = true) (hd : d.depth ≤ 40) (hc : cost d ≤ 500000) : Fine d :=
  ⟨tame_showable d h, tame_nodict d h, hd, by
    have h1 := PyData.shown_le 21 (by decide) d (tame_short d h)
    have h2 := tame_weight d h
    have h3 : sizeLine = 16777216 := sizeLine_eq
    omega⟩
theorem tame_shaped {d : PyData} (h : tame d = true) (hd : d.depth ≤ 40) : SeqAt.shaped d = true := by
  unfold SeqAt.shaped
  rw [tame_lay d h, Bool.true_and]
  exact decide_eq_true (by omega)

/-! ### data of tuples stays while other things change -/
def Keep (K : PySem.W.Frag) (H H' : Hp) : Prop := ∀ a xs, SqT K H a xs → SqT K H' a xs
theorem Keep.refl {K : PySem.W.Frag} {H : Hp} : Keep K H H := fun _ _ h => h
theorem Keep.trans {K : PySem.W.Frag} {H H1 H2 : Hp} (a : Keep K H H1) (b : Keep K H1 H2) : Keep K H H2 := fun x xs h => b x xs (a x xs h)
theorem Same.keep {K : PySem.W.Frag} {H H' : Hp} (e : Same H H') : Keep K H H' := fun _ _ h => Same.seqT e h
theorem But.keep {K : PySem.W.Frag} {H H' : Hp} {b : Addr} {m : Nat} (e : But b H H') (hb : Box m H b) : Keep K H H' := by
  intro a xs h
  obtain ⟨x, y, z, g, _⟩ := hb
  rcases h with (h | ⟨o, h⟩) | h
  · exact .inl (.inl (e _ _ (ne_of h g (fun q => HO.noConfusion q)) h))
  · exact .inl (.inr ⟨o, e _ _ (ne_of h g (fun q => HO.noConfusion q)) h⟩)
  · exact .inr h
/-- all but the box, read: a list or a tuple that is not the box -/
theorem But.keepL {K : PySem.W.Frag} {H H' : Hp} {b a : Addr} {xs : List V} (e : But b H H') (n : a ≠ b) (h : SqL K H a xs) : SqL K H' a xs := e.seqL n h
mutual
def tups : PyData → Bool
  | .none | .bool _ | .int _ | .str _ => true
  | .tuple xs => tupsAll xs
  | .list _ | .dict _ => false
def tupsAll : List PyData → Bool
  | [] => true
  | x :: xs => tups x && tupsAll xs
end
mutual
theorem Dp.keep {K : PySem.W.Frag} {H H' : Hp} (k : Keep K H H') : ∀ (d : PyData) (v : V), tups d = true → Dp K H v d → Dp K H' v d
  | .none, _, _, h => by cases h; exact .non
  | .bool _, _, _, h => by cases h; exact .bl _
  | .int _, _, _, h => by cases h; exact .int _
  | .str _, _, _, h => by cases h; exact .str _
  | .tuple ds, _, t, h => by
    cases h with
    | tup h1 h2 => exact .tup (k _ _ h1) (DpAll.keep k ds _ (by simpa only [tups] using t) h2)
  | .list _, _, t, _ => by simp [tups] at t
  | .dict _, _, t, _ => by simp [tups] at t
theorem DpAll.keep {K : PySem.W.Frag} {H H' : Hp} (k : Keep K H H') : ∀ (ds : List PyData) (vs : List V), tupsAll ds = true → DpAll K H vs ds → DpAll K H' vs ds
  | [], _, _, h => by cases h; exact .nil
  | d :: ds, _, t, h => by
    simp only [tupsAll, Bool.and_eq_true] at t
    cases h with
    | cons h1 h2 => exact .cons (Dp.keep k d _ t.1 h1) (DpAll.keep k ds _ t.2 h2)
end
section
variable {K : PySem.W.Frag} {H : Hp}
theorem DpAll.len : ∀ {vs : List V} {ds : List PyData}, DpAll K H vs ds → vs.length = ds.length
  | _, _, .nil => rfl
  | _, _, .cons _ t => by rw [List.length_cons, List.length_cons, DpAll.len t]
theorem DpAll.take : ∀ {vs : List V} {ds : List PyData} (n : Nat), DpAll K H vs ds → DpAll K H (vs.take n) (ds.take n)
  | _, _, 0, _ => .nil
  | _, _, _ + 1, .nil => .nil
  | _, _, n + 1, .cons h t => .cons h (DpAll.take n t)
theorem DpAll.drop : ∀ {vs : List V} {ds : List PyData} (n : Nat), DpAll K H vs ds → DpAll K H (vs.drop n) (ds.drop n)
  | _, _, 0, h => h
  | _, _, _ + 1, .nil => .nil
  | _, _, n + 1, .cons _ t => DpAll.drop n t
theorem DpAll.app : ∀ {vs us : List V} {ds es : List PyData}, DpAll K H vs ds → DpAll K H us es → DpAll K H (vs ++ us) (ds ++ es)
  | _, _, _, _, .nil, h => h
  | _, _, _, _, .cons h t, h2 => .cons h (DpAll.app t h2)
theorem DpAll.rep {vs : List V} {ds : List PyData} (h : DpAll K H vs ds) : ∀ n : Nat, DpAll K H (List.replicate n vs).flatten (List.replicate n ds).flatten
  | 0 => .nil
  | n + 1 => by
    rw [List.replicate_succ, List.replicate_succ, List.flatten_cons, List.flatten_cons]
    exact DpAll.app h (DpAll.rep h n)
theorem DpAll.at : ∀ {vs : List V} {ds : List PyData} {i : Nat} {v : V} {d : PyData}, DpAll K H vs ds → vs[i]? = some v → ds[i]? = some d → Dp K H v d
  | _, _, _, _, _, .nil, h, _ => by simp at h
  | _, _, 0, _, _, .cons h _, e1, e2 => by
    obtain rfl := Option.some.inj e1
    obtain rfl := Option.some.inj e2
    exact h
  | _, _, i + 1, _, _, .cons _ t, e1, e2 => DpAll.at (i := i) t (by simpa using e1) (by simpa using e2)
theorem DpAll.ints : ∀ l : List Int, DpAll K H (l.map V.int) (l.map PyData.int)
  | [] => .nil
  | i :: l => .cons (.int i) (DpAll.ints l)
end
end Gk
namespace Pf
open PySem PySem.Spec PyProof.Rows L2 Gk
def topS (i : Nat) : Stmt := PySem.Challenge.pw_pastenough_k47_shortest_histories_within.main.body.getD i (.Pass ⟨0, 0, 0, 0⟩)
abbrev sTake : Stmt := topS 29
abbrev sOf : Stmt := topS 30
abbrev sBox : Stmt := topS 28
theorem scOf : FnScope ["_law_box_here", "_law_some"] ["_law_box_here", "_law_some"] (defScope sOf) := ⟨rfl, rfl, rfl, by decide +kernel, rfl, by decide +kernel, by decide +kernel⟩
theorem scBox : FnScope ["_law_script", "_law_k", "_law_digits", "_law_own"] ["_law_script", "_law_k"] (defScope sBox) := ⟨rfl, rfl, rfl, by decide +kernel, rfl, by decide +kernel, by decide +kernel⟩
theorem scTake : FnScope ["_law_box_here", "_law_many", "_law_digit", "_law_drawn"] ["_law_box_here", "_law_many"] (defScope sTake) := ⟨rfl, rfl, rfl, by decide +kernel, rfl, by decide +kernel, by decide +kernel⟩
def spTake : Sp := fun vs H Q _ => ∃ (b : Addr) (n : Int) (m : Nat), vs = [.ref b, .int n] ∧ 0 < n ∧ n < 1073741824 ∧ Box m H b ∧ m < 1000000000 ∧
  ∀ (d : Int) (H' : Hp), 0 ≤ d → d < n → But b H H' → Box (m + 1) H' b → (∀ p, p ≠ b → H' p = H p) → Q (.int d) H'

section
variable {P : Program} {w : World} {K : PySem.W.Frag} {mg : Str → Option Value} {base : Heap}
theorem ok_take {f : Addr} {fd : FuncData} {k : Nat} (F : L2.Fun K "_law_take" "_law_take" sTake f fd) : FnOk P w K mg base L2.CX0 (k + 1) f fd ["_law_box_here", "_law_many"] spTake := by
  refine F.ok scTake (fun vs H Q E h => ?_) (fun cdv A outer s H vs Q E hr h => ?_)
  · obtain ⟨b, n, m, rfl, _⟩ := h
    rfl
  · obtain ⟨b, n, m, rfl, n0, n1, ⟨x, y, z, hb, z0, z1⟩, hm, q⟩ := h
    refine ⟨_, pss_cons (ps_if (pt_cmpR op_gt (pe_ix ix_list (pv 0) pe_int (fun _ _ => rfl)) pe_int (nomark _))
        (pss_cons (ps_set (i := 2) scTake.nd rfl (.inl rfl) (pe_op op_mod (pe_ix ix_list (pv 0) pe_int (fun _ _ => rfl)) (pv 1)))
        (pss_cons (ps_asg (pe_op op_fdiv (pe_ix ix_list (pv 0) pe_int (fun _ _ => rfl)) (pv 1)) (pg_sub (pv 0) pe_int set_list))
        (pss_one (ps_ret (pv 2))))) pss_nil)
      (pss_cons (ps_asg (pe_op op_add (pe_ix ix_list (pv 0) pe_int (fun _ _ => rfl)) pe_int) (pg_sub (pv 0) pe_int set_list))
      (pss_cons (ps_set (i := 3) scTake.nd rfl (.inl rfl) (pe_op op_mod (pe_op op_mul (pe_op op_add (pe_op op_add (pe_ix ix_list (pv 0) pe_int (fun _ _ => rfl))
          (pe_op op_mul (pe_op op_mul pe_int (pe_ix ix_list (pv 0) pe_int (fun _ _ => rfl))) (pe_ix ix_list (pv 0) pe_int (fun _ _ => rfl)))) pe_int) pe_int) pe_int))
      (pss_cons (ps_set (i := 3) scTake.nd rfl (.inl rfl) (pe_op op_mod (pe_op op_mul (pv 3) (pe_op op_add (pe_op op_mod (pv 3) pe_int) (pe_op op_mul pe_int (pe_ix ix_list (pv 0) pe_int (fun _ _ => rfl))))) pe_int))
      (pss_one (ps_ret (pe_op op_mod (pe_op op_add (pe_op op_fdiv (pv 3) pe_int) (pe_op op_fdiv (pv 3) pe_int)) (pv 1))))))), ?_⟩
    refine ⟨.ref b, rfl, b, _, 0, .int x, rfl, rfl, SqL.of hb, rfl, x, 0, rfl, rfl, _, rfl, ite2 (fun e => ?_) (fun e => ?_)⟩
    · refine ⟨.ref b, rfl, b, _, 0, .int x, rfl, rfl, SqL.of hb, rfl, .int n, rfl, x, n, rfl, rfl, n0, ?_⟩
      refine ⟨.ref b, rfl, b, _, 0, .int x, rfl, rfl, SqL.of hb, rfl, .int n, rfl, x, n, rfl, rfl, ⟨n0, n1⟩, ?_⟩
      refine ⟨.ref b, rfl, b, _, _, 0, rfl, rfl, hb, rfl, ?_⟩
      refine ⟨.int (x % n), rfl, q _ _ (Int.emod_nonneg _ (by omega)) (Int.emod_lt_of_pos _ n0) But.set ⟨_, _, _, upd_same, z0, by omega⟩ fun p hp => upd_ne hp⟩
    · have hz : (z + 1 : Int) < 2 ^ 64 := by omega
      refine ⟨.ref b, rfl, b, _, 2, .int z, rfl, rfl, SqL.of hb, rfl, z, 1, rfl, rfl, ?_⟩
      refine ⟨.ref b, rfl, b, _, _, 2, rfl, rfl, hb, rfl, ?_⟩
      have h1 : upd H b (.lst [.int x, .int y, .int (z + 1)]) b = some (.lst [.int x, .int y, .int (z + 1)]) := upd_same
      refine ⟨.ref b, rfl, b, _, 1, .int y, rfl, rfl, SqL.of h1, rfl, .ref b, rfl, b, _, 2, .int (z + 1), rfl, rfl, SqL.of h1, rfl, _, _, rfl, rfl, .inl ⟨by decide, by decide⟩,
        .ref b, rfl, b, _, 2, .int (z + 1), rfl, rfl, SqL.of h1, rfl, _, _, rfl, rfl, .inr ⟨by omega, hz⟩, _, _, rfl, rfl, _, _, rfl, rfl, _, _, rfl, rfl, .inr ⟨by decide, by decide⟩, _, _, rfl, rfl, by show (0 : Int) < 2305843009213693921; decide, ?_⟩
      refine ⟨_, rfl, _, rfl, _, _, rfl, rfl, by show (0 : Int) < 1000033; decide, .ref b, rfl, b, _, 2, .int (z + 1), rfl, rfl, SqL.of h1, rfl, _, _, rfl, rfl, .inl ⟨by decide, by decide⟩, _, _, rfl, rfl, _, _, rfl, rfl,
        .inl ⟨Int.lt_of_lt_of_le (by decide) (Int.emod_nonneg _ (by decide)), Int.lt_trans (Int.emod_lt_of_pos _ (by decide)) (by decide)⟩, _, _, rfl, rfl, by show (0 : Int) < 2305843009213693907; decide, ?_⟩
      refine ⟨_, rfl, _, _, rfl, rfl, ⟨by decide, by decide⟩, _, rfl, _, _, rfl, rfl, ⟨by decide, by decide⟩, _, _, rfl, rfl, .int n, rfl, _, n, rfl, rfl, n0, ?_⟩
      exact q _ _ (Int.emod_nonneg _ (by omega)) (Int.emod_lt_of_pos _ n0) But.set ⟨_, _, _, h1, by omega, by omega⟩ fun p hp => upd_ne hp
def spOf (K : PySem.W.Frag) : Sp := fun vs H Q _ => ∃ (b a : Addr) (xs : List V) (m : Nat), vs = [.ref b, .ref a] ∧ SqL K H a xs ∧ a ≠ b ∧ 0 < xs.length ∧ xs.length ≤ 1000 ∧ Box m H b ∧ m < 1000000000 ∧
  ∀ (i : Nat) (v : V) (H' : Hp), xs[i]? = some v → But b H H' → Box (m + 1) H' b → (∀ p, p ≠ b → H' p = H p) → Q v H'
theorem ok_of {f : Addr} {fd : FuncData} {k : Nat} (D : Dfn P w K mg base k "_law_take" ["_law_box_here", "_law_many"] spTake) (ml : mg "len" = none)
    (F : L2.Fun K "_law_of" "_law_of" sOf f fd) : FnOk P w K mg base L2.CX0 (k + 1) f fd ["_law_box_here", "_law_some"] (spOf K) := by
  refine F.ok scOf (fun vs H Q E h => ?_) (fun cdv A outer s H vs Q E hr h => ?_)
  · obtain ⟨b, a, xs, m, rfl, _⟩ := h
    rfl
  · obtain ⟨b, a, xs, m, rfl, hS, hne, hl, hl2, hb, hm, q⟩ := h
    refine ⟨_, pss_one (ps_ret (pe_ix ix_list (pv 1) (pe_d D hr (Nat.le_refl _) (by rfl) (pa_cons (pv 0) (pa_cons (pe_callB call_len_seq (by rfl) ml PySem.boot_len (pa_cons (pv 1) pa_nil)) pa_nil))) (fun _ _ => rfl))), ?_⟩
    refine ⟨.ref a, rfl, .ref b, rfl, .ref a, rfl, a, xs, rfl, .inl hS, b, _, m, rfl, by omega, by omega, hb, hm, fun d H' d0 d1 bt bx same => ?_⟩
    have hi : d.toNat < xs.length := by omega
    have g : xs[d.toNat]? = some xs[d.toNat] := List.getElem?_eq_getElem hi
    have ga : atI xs d = some xs[d.toNat] := by
      have := atI_nat g
      rwa [Int.toNat_of_nonneg d0] at this
    exact ⟨a, xs, d, _, rfl, rfl, bt.seqL hne hS, ga, q _ _ H' g bt bx same⟩
def spBox (K : PySem.W.Frag) : Sp := fun vs H Q _ => ∃ (a : Addr) (ns : List Int) (k : Int), vs = [.ref a, .int k] ∧ SqL K H a (ns.map V.int) ∧ ns.length ≤ 63 ∧ 0 ≤ k ∧ k ≤ 1000 ∧
  ∀ p x y, H p = none → Q (.ref p) (upd H p (.lst [.int x, .int y, .int 0]))
theorem flag_small (c : Bool) : -(2 ^ 64) < (if c = true then (1 : Int) else 0) ∧ (if c = true then (1 : Int) else 0) < 2 ^ 64 := by cases c <;> decide
theorem bits60 : CBigPow 10 60 := ⟨by decide, by decide +kernel⟩
theorem bits300 : CBigPow (10 ^ (60 : Int).toNat) 5 := ⟨by decide, by decide +kernel⟩
theorem ok_box {f : Addr} {fd : FuncData} (ml : mg "len" = none) (ma : mg "abs" = none) (mi : mg "int" = none)
    (F : L2.Fun K "_law_box" "_law_box" sBox f fd) : FnOk P w K mg base L2.CX0 1 f fd ["_law_script", "_law_k"] (spBox K) := by
  refine F.ok scBox (fun vs H Q E h => ?_) (fun cdv A outer s H vs Q E hr h => ?_)
  · obtain ⟨a, ns, k, rfl, _⟩ := h
    rfl
  · obtain ⟨a, ns, k, rfl, hS, hl, k0, k1, q⟩ := h
    refine ⟨_, C8.pss_cut (ps_set (i := 2) scBox.nd rfl (.inl rfl) (pe_ifExp (pt_cmpR op_lt (pv 1) (pe_callB call_len_seq (by rfl) ml PySem.boot_len (pa_cons (pv 0) pa_nil)) (nomark _))
        (pe_ix ix_list (pv 0) (pv 1) (fun _ _ => rfl)) (pe_op op_add (pe_op op_mul pe_int (pv 1)) pe_int)))
      (pss_cons (ps_set (i := 3) scBox.nd rfl (.inl rfl) (pe_op op_mul (pe_op op_mod (pe_callB call_abs (by rfl) ma (by decide +kernel) (pa_cons (pv 2) pa_nil)) (pe_op op_bigpow (pe_op op_bigpow pe_int pe_int) pe_int))
          (pe_callTy call_int1 (by rfl) mi (by decide +kernel) (pa_cons (pe_cmpR op_ge (pe_callB call_abs (by rfl) ma (by decide +kernel) (pa_cons (pv 2) pa_nil)) (pe_op op_bigpow pe_int pe_int) (nomark _)) pa_nil))))
      (pss_one (ps_ret (pe_lst (pa_cons (pv 3) (pa_cons (pe_op op_mod (pe_op op_add (pe_op op_add (pe_op op_mul (pe_op op_mod (pv 2) pe_int) pe_int) (pe_op op_mul (pe_op op_mul pe_int (pv 1)) (pv 1))) pe_int) pe_int) (pa_cons pe_int pa_nil))))))), ?_⟩
    refine ⟨fun σ H' => H' = H ∧ ∃ d : Int, σ = [some (.ref a), some (.int k), some (.int d), none], ?_, fun σ' H' hM => ?_⟩
    · refine ⟨.int k, rfl, .ref a, rfl, a, _, rfl, .inl hS, _, _, rfl, rfl, _, rfl, ite2 (fun e => ?_) (fun e => ?_)⟩
      · have hk : k < (ns.map V.int).length := of_decide_eq_true e
        rw [List.length_map] at hk
        have g : (ns.map V.int)[k.toNat]? = some (.int ns[k.toNat]) := by
          rw [List.getElem?_map, List.getElem?_eq_getElem (by omega)]; rfl
        have ga := atI_nat g
        rw [Int.toNat_of_nonneg k0] at ga
        exact ⟨.ref a, rfl, .int k, rfl, a, _, k, _, rfl, rfl, hS, ga, rfl, _, rfl⟩
      · exact ⟨.int k, rfl, _, _, rfl, rfl, .inl ⟨by decide, by decide⟩, _, _, rfl, rfl, rfl, _, rfl⟩
    · obtain ⟨rfl, d, rfl⟩ := hM
      refine ⟨.int d, rfl, d, rfl, _, _, rfl, rfl, bits60, _, _, rfl, rfl, bits300, _, _, rfl, rfl, by show (0 : Int) < (10 ^ (60 : Int).toNat) ^ (5 : Int).toNat; decide +kernel, ?_⟩
      refine ⟨.int d, rfl, d, rfl, _, _, rfl, rfl, ⟨by decide, by decide +kernel⟩, _, _, rfl, rfl, .inr ⟨_, rfl, _, _, rfl, rfl, .inr ?_, ?_⟩⟩
      · exact flag_small _
      · refine ⟨_, rfl, .int d, rfl, _, _, rfl, rfl, by show (0 : Int) < 2305843009213693951; decide, _, _, rfl, rfl, .inr ⟨by decide, by decide⟩, .int k, rfl, _, _, rfl, rfl, .inl ⟨by decide, by decide⟩, .int k, rfl, _, _, rfl, rfl, .inr ⟨by omega, by omega⟩,
          _, _, rfl, rfl, _, _, rfl, rfl, _, _, rfl, rfl, by show (0 : Int) < 2305843009213693921; decide, by show 3 ≤ sizeLine; decide, fun p hp => q p _ _ hp⟩
end
end Pf
namespace Pf
open PySem PySem.Spec PyProof.Rows L2 Gk
abbrev sRow : Stmt := topS 31
abbrev nRow : List Str := ["_law_box_here", "_law_most", "_law_size", "_law_kind", "_law_piece", "_law_found", "_law_is_kept", "_law_turn"]
theorem scRow : FnScope nRow ["_law_box_here", "_law_most"] (defScope sRow) := ⟨rfl, rfl, rfl, by decide +kernel, rfl, by decide +kernel, by decide +kernel⟩
/-- outcomes -/
def Bits (l : List Int) : Prop := ∀ o ∈ l, o = 0 ∨ o = 1
theorem Bits.nil : Bits [] := fun _ h => (nomatch h)
theorem Bits.snoc {l : List Int} {o : Int} (h : Bits l) (h0 : 0 ≤ o) (h1 : o < 2) : Bits (l ++ [o]) := fun x hx => by
  rcases List.mem_append.mp hx with g | g
  · exact h x g
  · rw [List.mem_singleton.mp g]
    omega
theorem Bits.rep {l : List Int} (h : Bits l) (n : Nat) : Bits (List.replicate n l).flatten := fun x hx => by
  obtain ⟨m, hm, hx⟩ := List.mem_flatten.mp hx
  rw [(List.mem_replicate.mp hm).2] at hx
  exact h x hx
theorem Bits.take {l : List Int} (h : Bits l) (n : Nat) : Bits (l.take n) := fun x hx => h x (List.mem_of_mem_take hx)
theorem rep_map (n : Nat) (l : List Int) : (List.replicate n (l.map V.int)).flatten = ((List.replicate n l).flatten).map V.int := by
  induction n with
  | zero => rfl
  | succ n ih => rw [List.replicate_succ, List.replicate_succ, List.flatten_cons, List.flatten_cons, List.map_append, ih]
theorem rep_len (n : Nat) (l : List Int) : ((List.replicate n l).flatten).length = n * l.length := by
  induction n with
  | zero => simp
  | succ n ih => rw [List.replicate_succ, List.flatten_cons, List.length_append, ih, Nat.succ_mul, Nat.add_comm]
theorem last_some {l : List Int} (h : 0 < l.length) : ∃ o, o ∈ l ∧ atI (l.map V.int) (-1) = some (V.int o) := by
  have e : l ≠ [] := fun z => by rw [z] at h; exact absurd h (Nat.lt_irrefl 0)
  refine ⟨l.getLast e, List.getLast_mem e, ?_⟩
  have g : l.map V.int = (l.dropLast.map V.int) ++ [V.int (l.getLast e)] := by
    rw [← List.map_singleton, ← List.map_append, List.dropLast_concat_getLast]
  rw [g]
  exact atI_last _ _
theorem but_local {b D : Addr} {H H1 H2 : Hp} (nD : H D = none) (h : But b H H1) (g : ∀ a o, a ≠ b → a ≠ D → H1 a = some o → H2 a = some o) : But b H H2 := fun a o n e => g a o n (fun z => by rw [z, nD] at e; cases e) (h a o n e)
section
variable {P : Program} {w : World} {K : PySem.W.Frag} {mg : Str → Option Value} {base : Heap}
def spRow (K : PySem.W.Frag) : Sp := fun vs H Q _ => ∃ (b : Addr) (most : Int) (m : Nat), vs = [.ref b, .int most] ∧ 1 ≤ most ∧ most ≤ 64 ∧ Box m H b ∧ m ≤ 1000000 ∧
  ∀ H' p l, But b H H' → Box (m + 150) H' b → SqT K H' p (l.map V.int) → 1 ≤ l.length → (l.length : Int) ≤ most → Bits l → Q (.ref p) H'
theorem ok_row {f : Addr} {fd : FuncData} (DT : Dfn P w K mg base 1 "_law_take" ["_law_box_here", "_law_many"] spTake) (mr : mg "range" = none) (mn : mg "min" = none) (mt : mg "tuple" = none) (ml : mg "len" = none)
    (F : L2.Fun K "_law_row" "_law_row" sRow f fd) : FnOk P w K mg base L2.CX0 2 f fd ["_law_box_here", "_law_most"] (spRow K) := by
  refine F.ok scRow (fun vs H Q E h => ?_) (fun cdv A outer s H vs Q E hr h => ?_)
  · obtain ⟨b, most, m, rfl, _⟩ := h
    rfl
  · obtain ⟨b, most, m, rfl, m1, m2, hb, hm, q⟩ := h
    refine ⟨_, C8.pss_cut (ps_par (i := 2) (j := 3) (by rfl) scRow.nd rfl rfl (by decide) rfl rfl (pa_cons (pe_op op_add pe_int (pe_d DT hr (by decide) (by rfl) (pa_cons (pv 0) (pa_cons (pv 1) pa_nil)))) (pa_cons (pe_d DT hr (by decide) (by rfl) (pa_cons (pv 0) (pa_cons pe_int pa_nil))) pa_nil)) (by rfl))
      (pss_cons (ps_if (pt_cmpR op_eq (pv 3) pe_int (nomark _))
        (pss_one (ps_ret (pe_op op_catU (pe_op op_repU (pe_tup (pa_cons pe_int pa_nil)) (pe_op op_sub (pv 2) pe_int)) (pe_tup (pa_cons pe_int pa_nil))))) pss_nil)
      (pss_cons (ps_if (pt_cmpR op_eq (pv 3) pe_int (nomark _))
        (pss_cons (ps_setLc (i := 4) (own := [("_law_turn", 7)]) (g := gName 7) (by rfl) scRow.nd rfl rfl (sw_true rfl rfl rfl (by decide +kernel)) (pi_range1 rfl mr (pa_cons (pe_op op_add pe_int (pe_d DT hr (by decide) (by rfl) (pa_cons (pv 0) (pa_cons (pe_callB (call_min2 rfl) (by rfl) mn (by decide +kernel) (pa_cons (pv 2) (pa_cons pe_int pa_nil))) pa_nil)))) pa_nil))
            (blkOk_by (N := nRow) (sc := defScope sRow) (by decide +kernel)) (fun _ _ _ _ _ => pg_name (i := 7) scRow.nd rfl (.inl rfl)) (fun _ _ _ _ _ => pts_nil)
            (fun _ _ _ _ _ => pe_d DT hr (by decide) (by rfl) (pa_cons (pv 0) (pa_cons pe_int pa_nil))))
        (pss_one (ps_ret (pe_callTy call_tuple_of (by rfl) mt (by decide +kernel) (pa_cons (pe_slice sl_list (pe_op op_rep (pv 4) (pv 2)) po_none (po_some (pv 2))) pa_nil))))) pss_nil)
      (pss_cons (ps_set (i := 5) scRow.nd rfl (.inl rfl) (pe_lst (pa_cons (pe_d DT hr (by decide) (by rfl) (pa_cons (pv 0) (pa_cons pe_int pa_nil))) pa_nil)))
      (pss_cons (ps_while PassesOwn.never (pt_cmpR op_lt (pe_callB call_len_seq (by rfl) ml PySem.boot_len (pa_cons (pv 5) pa_nil)) (pv 2) (nomark _))
        (pss_cons (ps_set (i := 6) scRow.nd rfl (.inl rfl) (pe_mid (pe_and (pe_cmpR op_eq (pv 3) pe_int (nomark _)) (pe_one (pe_cmpR op_gt (pe_d DT hr (by decide) (by rfl) (pa_cons (pv 0) (pa_cons pe_int pa_nil))) pe_int (nomark _))))))
        (pss_one (ps_expr (pe_bm PySem.F.plainAttrs_list PySem.F.slot_list_append PySem.F.type_list_append mt_append (pv 5) (pa_cons (pe_mid (pe_ifExp (pt_val (pv 6)) (pe_ix ix_list (pv 5) (pe_un un_neg pe_int) (fun _ _ => rfl))
            (pe_d DT hr (by decide) (by rfl) (pa_cons (pv 0) (pa_cons pe_int pa_nil))))) pa_nil))))))
      (pss_one (ps_ret (pe_callTy call_tuple_of (by rfl) mt (by decide +kernel) (pa_cons (pv 5) pa_nil)))))))), ?_⟩
    refine ⟨fun σ H2 => ∃ z k : Int, σ = [some (.ref b), some (.int most), some (.int z), some (.int k), none, none, none, none] ∧ 1 ≤ z ∧ z ≤ most ∧ 0 ≤ k ∧ k < 5 ∧ But b H H2 ∧ Box (m + 1 + 1) H2 b, ?_, fun σ' H2 hM => ?_⟩
    · exact ⟨.ref b, rfl, .int most, rfl, b, most, m, rfl, by omega, by omega, hb, by omega, fun d H1 d0 d1 bt1 bx1 sm1 => ⟨_, _, rfl, rfl, .ref b, rfl, b, 5, m + 1, rfl, by decide, by decide, bx1, by omega,
        fun k H2 k0 k1 bt2 bx2 sm2 => ⟨_, _, rfl, 1 + d, k, rfl, by omega, by omega, k0, k1, bt1.trans bt2, bx2⟩⟩⟩
    obtain ⟨z, k, rfl, size1, size2, k0, k1, bt, bx2⟩ := hM
    refine ⟨.int k, rfl, rfl, _, rfl, ite2 (fun e => ?_) (fun e => ?_)⟩
    · refine ⟨by show 1 ≤ sizeLine; decide, fun p np => ⟨.int z, rfl, z, 1, rfl, rfl, p, z - 1, [.int 1], rfl, rfl, .inl (.inl upd_same), List.cons_ne_nil _ _, by omega, by omega, by show 1 ≤ 1000; decide, fun p2 H3 s3 t3 => ⟨by show 1 ≤ sizeLine; decide, fun p4 np4 => ?_⟩⟩⟩
      refine ⟨p2, p4, _, [.int 0], rfl, rfl, Same.seqT (same_new np4) t3, .inl (.inl upd_same), ?_, fun p5 H5 s5 t5 => ?_⟩
      · show ((List.replicate (z - 1).toNat [V.int 1]).flatten).length + 1 ≤ sizeLine
        rw [show [V.int 1] = [(1 : Int)].map V.int from rfl, rep_map, List.length_map, rep_len]
        show (z - 1).toNat * 1 + 1 ≤ sizeLine
        exact Nat.le_trans (show _ ≤ 100 by omega) (by decide)
      · rw [show [V.int 1] = [(1 : Int)].map V.int from rfl, rep_map, show [V.int 0] = [(0 : Int)].map V.int from rfl, ← List.map_append] at t5
        refine q H5 p5 _ (((bt.trans (But.new np)).trans (But.of_same s3)).trans ((But.new np4).trans (But.of_same s5))) ?_ t5 ?_ ?_ ?_
        · exact (((((bx2.same (same_new np)).same s3).same (same_new np4)).same s5)).up (by omega)
        · rw [List.length_append]
          exact Nat.le_add_left _ _
        · rw [List.length_append, rep_len]
          show (((z - 1).toNat * 1 + 1 : Nat) : Int) ≤ most
          omega
        · exact Bits.snoc (Bits.rep (fun o ho => by rw [List.mem_singleton.mp ho]; exact .inr rfl) _) (by decide) (by decide)
    · refine ⟨.int k, rfl, rfl, _, rfl, ite2 (fun e1 => ?_) (fun e1 => ?_)⟩
      · refine ⟨.ref b, rfl, .int z, rfl, z, 4, rfl, b, _, m + 2, rfl, by split <;> omega, by split <;> omega, bx2, by omega, fun d3 H3 g0 g1 bt3 bx3 sm3 => ?_⟩
        have d34 : d3 < 4 := by
          have : (if (4 : Int) < z then (4 : Int) else z) ≤ 4 := by split <;> omega
          omega
        refine ⟨_, _, rfl, rfl, 1 + d3, rfl, by omega, by omega, fun D nD => lc_range (lo := 0) (n := (1 + d3).toNat)
          (fun i H' => But b H3 H' ∧ Box (m + 3 + i) H' b ∧ ∃ l : List Int, l.length = i ∧ H' D = some (.lst (l.map V.int)) ∧ Bits l) ⟨But.new nD, bx3.same (same_new nD), [], rfl, upd_same, Bits.nil⟩ (fun i H4 hi hp => ?_) (fun H4 hp => ?_)⟩
        · obtain ⟨bt4, bx4, l, hl, hD, hB⟩ := hp
          have nDb : D ≠ b := (bx3.ne nD).symm
          refine ⟨rfl, .ref b, rfl, b, 2, _, rfl, by decide, by decide, bx4, by omega, fun d5 H5 e0 e2 bt5 bx5 sm5 => ⟨l.map V.int, (sm5 D nDb).trans hD, ?_, ?_, ?_, l ++ [d5], ?_, ?_, Bits.snoc hB e0 e2⟩⟩
          · rw [List.length_map, hl]
            exact small1000 (by omega)
          · refine but_local nD (bt4.trans bt5) fun a o n1 n2 h => ?_
            rw [upd_ne n2]
            exact h
          · obtain ⟨x1, x2, x3, g1, g2⟩ := bx5
            exact ⟨x1, x2, x3, by rw [upd_ne nDb.symm]; exact g1, g2.1, by have := g2.2; omega⟩
          · rw [List.length_append, hl]
            rfl
          · rw [upd_same, List.map_append]
            rfl
        · obtain ⟨bt4, bx4, l, hl, hD, hB⟩ := hp
          have hz : l.length ≤ 4 := by omega
          have hz1 : 1 ≤ l.length := by omega
          have hlen : (List.replicate z.toNat l).flatten.length = z.toNat * l.length := rep_len _ _
          have hmul : z.toNat ≤ z.toNat * l.length := Nat.le_mul_of_pos_right _ hz1
          have hmul2 : z.toNat * l.length ≤ 64 * 4 := Nat.mul_le_mul (by omega) hz
          refine ⟨.ref D, rfl, .int z, rfl, D, z, l.map V.int, rfl, rfl, hD, by omega, by omega, ?_, fun p np => ?_⟩
          · rw [List.length_map]
            exact Nat.le_trans (show _ ≤ 256 by rw [Nat.mul_comm]; exact hmul2) (by decide)
          · refine ⟨.int z, rfl, z, rfl, p, _, rfl, .inl (.inl upd_same), fun p2 np2 => ?_⟩
            refine ⟨p2, _, rfl, .inl ⟨.inl (.inl upd_same), fun p3 np3 => ?_⟩⟩
            have ec : cutV (List.replicate z.toNat (l.map V.int)).flatten none (some z) = (((List.replicate z.toNat l).flatten).take z.toNat).map V.int := by
              have := cut_to (xs := (List.replicate z.toNat (l.map V.int)).flatten) z.toNat
              rw [Int.toNat_of_nonneg (by omega)] at this
              rw [this, rep_map, List.map_take]
            have lt : (((List.replicate z.toNat l).flatten).take z.toNat).length = z.toNat := by
              rw [List.length_take, hlen]
              omega
            have new3 : ∀ {G : Hp} {a : Addr} {u : HO}, G a = none → But b G (upd G a u) := fun h => But.new h
            refine q _ p3 (((List.replicate z.toNat l).flatten).take z.toNat) ((((bt.trans bt3).trans bt4).trans (But.new np)).trans ((But.new np2).trans (But.new np3))) ?_ ?_ ?_ ?_ ((Bits.rep hB _).take _)
            · exact (((bx4.same (same_new np)).same (same_new np2)).same (same_new np3)).up (by omega)
            · refine .inl (.inl ?_)
              rw [upd_same, ec]
            · rw [lt]
              omega
            · rw [lt]
              omega
      · refine ⟨.ref b, rfl, b, 2, m + 2, rfl, by decide, by decide, bx2, by omega, fun d3 H3 g0 g1 bt3 bx3 sm3 => ⟨by show 1 ≤ sizeLine; decide, fun D nD => ?_⟩⟩
        have nDb : D ≠ b := (bx3.ne nD).symm
        have nDH : H D = none := by
          cases hh : H D with
          | none => rfl
          | some u =>
            have := (bt.trans bt3) D u nDb hh
            rw [nD] at this
            cases this
        refine while_by (fun σ H' => ∃ (l : List Int) (y6 : Option V), σ = [some (.ref b), some (.int most), some (.int z), some (.int k), none, some (.ref D), y6, none] ∧ But b H H' ∧ Box (m + 3 + 2 * l.length) H' b ∧ H' D = some (.lst (l.map V.int)) ∧ 1 ≤ l.length ∧ l.length ≤ z.toNat ∧ Bits l)
          (fun σ H' => match H' D with
            | some (HO.lst xs) => z.toNat - xs.length
            | _ => 0) ⟨[d3], none, rfl, (bt.trans bt3).trans (But.new nD), (bx3.same (same_new nD)).up (by omega), upd_same, Nat.le_refl _, by show 1 ≤ z.toNat; omega, Bits.snoc Bits.nil g0 g1⟩
          (fun σ H4 hp => ?_) (fun σ H Q Q' hq h => ?_)
        · obtain ⟨l, y6, rfl, bt4, bx4, hD, l1, l2, hB⟩ := hp
          refine ⟨.ref D, rfl, D, _, rfl, .inl (.inl (.inl hD)), .int z, rfl, _, _, rfl, rfl, _, rfl, ite2 (fun e2 => ?_) (fun e2 => ?_)⟩
          · have hlt : ((l.map V.int).length : Int) < z := of_decide_eq_true e2
            rw [List.length_map] at hlt
            refine ⟨fun v H' => (∃ c : Bool, v = .bl c) ∧ But b H4 H' ∧ Box (m + 3 + 2 * l.length + 1) H' b ∧ H' D = some (.lst (l.map V.int)), ?_, fun v H5 hv => ?_⟩
            · refine ⟨.int k, rfl, rfl, _, rfl, ite2 (fun _ => ?_) (fun _ => ?_)⟩
              · exact ⟨.ref b, rfl, b, 4, _, rfl, by decide, by decide, bx4, by omega, fun d5 H5 e0 e2 bt5 bx5 sm5 => ⟨_, _, rfl, rfl, ⟨_, rfl⟩, bt5, bx5, (sm5 D nDb).trans hD⟩⟩
              · exact ⟨⟨_, rfl⟩, But.refl _ _, bx4.up (by omega), hD⟩
            · obtain ⟨⟨c, rfl⟩, bt5, bx5, hD5⟩ := hv
              refine ⟨.ref D, rfl, .inl ⟨rfl, _, .inl (.inl hD5)⟩, fun v H' => (∃ o : Int, v = .int o ∧ 0 ≤ o ∧ o < 2) ∧ But b H5 H' ∧ Box (m + 3 + 2 * l.length + 2) H' b ∧ H' D = some (.lst (l.map V.int)), ?_, fun v H6 hv => ?_⟩
              · refine ⟨.bl c, rfl, c, rfl, ite2 (fun _ => ?_) (fun _ => ?_)⟩
                · obtain ⟨o, ho, hat⟩ := last_some (l := l) l1
                  refine ⟨.ref D, rfl, 1, rfl, D, _, _, _, rfl, rfl, .inl (.inl hD5), hat, ⟨o, rfl, ?_⟩, But.refl _ _, bx5.up (by omega), hD5⟩
                  have := hB o ho
                  omega
                · exact ⟨.ref b, rfl, b, 2, _, rfl, by decide, by decide, bx5, by omega, fun d6 H6 e0 e2 bt6 bx6 sm6 => ⟨⟨d6, rfl, e0, e2⟩, bt6, bx6, (sm6 D nDb).trans hD5⟩⟩
              · obtain ⟨⟨o, rfl, o0, o1⟩, bt6, bx6, hD6⟩ := hv
                refine ⟨D, _, _, rfl, rfl, hD6, ?_, ⟨l ++ [o], _, rfl, ?_, ?_, ?_, ?_, ?_, Bits.snoc hB o0 o1⟩, ?_⟩
                · rw [List.length_map]
                  exact small1000 (by omega)
                · refine but_local nDH ((bt4.trans bt5).trans bt6) fun a o n1 n2 h => ?_
                  rw [upd_ne n2]
                  exact h
                · obtain ⟨x1, x2, x3, g1, g2⟩ := bx6
                  refine ⟨x1, x2, x3, by rw [upd_ne nDb.symm]; exact g1, g2.1, ?_⟩
                  rw [List.length_append]
                  have := g2.2
                  show x3 ≤ ((m + 3 + 2 * (l.length + 1) : Nat) : Int)
                  omega
                · rw [upd_same, List.map_append]
                  rfl
                · rw [List.length_append]
                  exact Nat.le_add_left _ _
                · rw [List.length_append]
                  show l.length + 1 ≤ _
                  omega
                · show (match upd H6 D (.lst (l.map V.int ++ [V.int o])) D with
                    | some (HO.lst xs) => z.toNat - xs.length
                    | _ => 0) < (match H4 D with
                    | some (HO.lst xs) => z.toNat - xs.length
                    | _ => 0)
                  rw [upd_same, hD]
                  show z.toNat - (l.map V.int ++ [V.int o]).length < z.toNat - (l.map V.int).length
                  rw [List.length_append, List.length_map]
                  show z.toNat - (l.length + 1) < z.toNat - l.length
                  omega
          · refine ⟨.ref D, rfl, D, _, rfl, .inl ⟨.inl (.inl hD), fun p np => ?_⟩⟩
            exact q _ p l (bt4.trans (But.new np)) ((bx4.same (same_new np)).up (by omega)) (.inl (.inl upd_same)) l1 (by omega) hB
        · obtain ⟨v, h1, a, xs, h2, h3, v2, h4, i, j, h5, h6, c, h7, h8⟩ := h
          exact ⟨v, h1, a, xs, h2, h3, v2, h4, i, j, h5, h6, c, h7, hq _ _ h8⟩
end
end Pf
namespace Gk
open PySem PySem.Spec PyProof.Rows L2 PySem.Builtin.Str
/-! ### enumerate of a tuple -/
theorem enum_newT (l : Addr) (its : Array Value) :
    Meets (Builtin.«enumerate.__new__» ⟨[.type "enumerate", .ref l], []⟩) (fun _ R s => Heap.IsTuple s.heap l its ∧
      R (.ok (.ret (.ref (s.heap.push { cls := .type "tuple_iterator", data := .fields #[.ref l, .int 0 0] }).objs.size)))
        { s with heap := (s.heap.push { cls := .type "tuple_iterator", data := .fields #[.ref l, .int 0 0] }).push { cls := .type "enumerate", data := .fields #[.none, .bool false, .ref s.heap.objs.size, rawInt 0, .none, .none] } }) :=
  .of_wp fun prog w A R s h => by
    obtain ⟨hp, g, d, tk, os⟩ := s
    obtain ⟨hL, h⟩ := h
    have hsub := sub_enumerate
    obtain ⟨⟨oc, od, dt, sl⟩, hl, hcl, n, hdt⟩ := id hL
    replace hcl : oc = .type "tuple" := hcl
    replace hdt : dt = .seq its n := hdt
    subst hcl hdt
    wp_walk using wpAny_loadPart' hl
    refine wpAny_stack_any fun st => wpAny_pure ?_
    split
    · rename_i c _ _ _ _ _
      cases (c == Value.type "enumerate") <;>
      · wp_walk using wpAny_loadPart' hl, wpAny_pyIter_tuple hL
        exact ⟨_, rfl, h⟩
    · wp_walk using wpAny_loadPart' hl, wpAny_pyIter_tuple hL
      exact ⟨_, rfl, h⟩
section
variable {prog : Program} {w : World} {A : Around} {E : Value → Shared → Prop} {s : Shared}
theorem enumT {l : Addr} {its : Array Value} {Q : Value → Shared → Prop} (hL : s.heap.IsTuple l its)
    (h : ∀ h', IsEnum h' (s.heap.objs.size + 1) s.heap.objs.size 0 .none → h'.IsTupleIter s.heap.objs.size l 0 → (∀ b o, s.heap.get? b = some o → h'.get? b = some o) → Q (.ref (s.heap.objs.size + 1)) { s with heap := h' }) :
    wpAny (model prog w) A (call (.type "enumerate") [.ref l]) Q E s := by
  refine callType_new F.called_enumerate (by decide) (F.typeCall_enumerate_1 _) (F.newCall_enumerate_1 _) (fun obj => F.args_object_init_2 obj _) F.entry_enumerate_new (enum_newT l its) ⟨hL, ?_⟩
  have hz : (s.heap.push { cls := .type "tuple_iterator", data := .fields #[.ref l, .int 0 0] }).objs.size = s.heap.objs.size + 1 := Heap.size_push ..
  show _ ∧ _
  rw [hz]
  have he : IsEnum ((s.heap.push { cls := .type "tuple_iterator", data := .fields #[.ref l, .int 0 0] }).push { cls := .type "enumerate", data := .fields #[.none, .bool false, .ref s.heap.objs.size, rawInt 0, .none, .none] }) (s.heap.objs.size + 1) s.heap.objs.size 0 .none := by
    have g := Heap.get?_push_size (s.heap.push { cls := .type "tuple_iterator", data := .fields #[.ref l, .int 0 0] }) (o := { cls := .type "enumerate", data := .fields #[.none, .bool false, .ref s.heap.objs.size, rawInt 0, .none, .none] }) rfl
    rw [hz] at g
    exact g
  exact ⟨⟨_, he, rfl⟩, h _ he ⟨_, Heap.get?_push_of_some _ (Heap.get?_push_size _ rfl), rfl, rfl⟩ fun b o x => Heap.get?_push_of_some _ (Heap.get?_push_of_some _ x)⟩
end
def Ient (K : PySem.W.Frag) (a : Addr) (N : Nat) : It := ⟨fun i H => i < N ∧ ∃ xs : List V, SqT K H a xs ∧ xs.length = N,
  fun i H v H' => ∃ T x, v = .ref T ∧ H T = none ∧ (∀ xs, SqT K H a xs → xs[i]? = some x) ∧ H' = upd H T (.tup [.int (i : Nat), x]), fun i H => N ≤ i ∧ ∃ xs : List V, SqT K H a xs ∧ xs.length = N⟩
theorem turn_ent {P : Program} {w : World} {K : PySem.W.Frag} {elts : List Expr} {kk : Nat} {tpos : Pos} (e it a : Addr) (N : Nat) :
    Turn P w K (.Tuple elts kk tpos) (Ient K a N) [e, it] e (fun i h => ((∃ old, IsEnum h e it i old) ∧ h.IsTupleIter it a i) ∧ e ≠ it ∧ i ≤ N) where
  mem := List.mem_cons_self
  obj := fun i h st b hb => by
    obtain ⟨⟨⟨old, he⟩, ⟨o, ho, hc, hd⟩⟩, _⟩ := st
    rcases List.mem_cons.mp hb with rfl | hb
    · exact ⟨_, he, fun v g => nomatch g⟩
    · rw [List.mem_singleton.mp hb]
      exact ⟨o, ho, fun v g => by rw [hd] at g; cases g⟩
  keep := fun i h h' st k => by
    obtain ⟨⟨⟨old, he⟩, ⟨o, ho, hc, hd⟩⟩, hne⟩ := st
    exact ⟨⟨⟨old, k e List.mem_cons_self _ he⟩, o, k it (List.mem_cons_of_mem _ List.mem_cons_self) o ho, hc, hd⟩, hne⟩
  item := by
    intro X hP hw hK hc i pins s σ H E I hf st hg
    subst hP hw hK
    obtain ⟨hlt, xs, hq, hN⟩ := hg
    obtain ⟨st, hne, hi⟩ := st
    obtain ⟨its, rv, tup, hz⟩ := I.tuple hq
    have hlen : its.toArray.size = N := by rw [List.size_toArray, ← hN]; exact rv.length.symm
    have nat : a ≠ it := fun z => by
      obtain ⟨o1, g1, c1, _⟩ := tup
      obtain ⟨_, o2, g2, c2, _⟩ := st
      rw [z, g2] at g1
      cases g1
      rw [c2] at c1
      exact absurd c1 (by decide)
    have D : Draws X.prog X.w X.A.in1 it [it, a] its.toArray.size _ _ := Draws.tuple (show X.A.in1.handled = none from I.ok.hd hc) it a nat its.toArray
    have nea : e ≠ a := fun z => by
      obtain ⟨o1, g1, c1, _⟩ := tup
      obtain ⟨⟨old, g2⟩, _⟩ := st
      rw [z] at g2
      rw [g2] at g1
      cases g1
      exact absurd (show Value.type "enumerate" = Value.type "tuple" from c1) (by decide)
    have W := WalksT.enumerateD D e hne (fun q => (List.mem_cons.mp q).elim hne fun q => nea (List.mem_singleton.mp q)) List.mem_cons_self
    have hel : e < s.heap.objs.size := by obtain ⟨⟨old, he⟩, _⟩ := st; exact Heap.lt_size he
    have hil : it < s.heap.objs.size := by obtain ⟨_, o, ho, _⟩ := st; exact Heap.lt_size ho
    refine W.item i s _ _ (by rw [hlen]; exact hlt) ⟨st.1, st.2, tup⟩ fun T vals h' tk hp hT isT mid hk => ?_
    obtain ⟨t1, x1, hx1, rfl⟩ := hp
    have nT := W.apart i T h' mid
    obtain ⟨y, hy⟩ : ∃ y, xs[i]? = some y := ⟨xs[i]'(by omega), List.getElem?_eq_getElem (by omega)⟩
    obtain ⟨u, hu, ru⟩ := rv.get hy
    have hx1 : its.toArray[i]? = some x1 := hx1
    rw [List.getElem?_toArray, hu] at hx1
    obtain rfl := Option.some.inj hx1
    refine ⟨_, rfl, W.go elts kk tpos i T { s with heap := h', toks := tk } _ _ mid fun h2 st2 hk2 => ?_⟩
    obtain ⟨oT, gT, cT, nTT, dT⟩ := isT
    have gT2 := hk2 T oT nT gT
    have new : ObjOk X.prog X.w (upd H T (.tup [.int (i : Nat), y])) h2 T (.tup [.int (i : Nat), y]) :=
      ⟨by show 2 ≤ sizeLine; decide, [.int i t1, u], .cons ⟨_, rfl⟩ (.cons ru .nil), ⟨oT, gT2, cT, nTT, dT⟩⟩
    have I1 : Inv X pins σ (upd H T (.tup [.int (i : Nat), y])) { s with heap := h2, toks := tk } :=
      I.turnedNew (ch := [e, it]) (fun b ob hb g => hk2 b ob hb (hk b ob hb g)) hf hT new
    refine ⟨.ref T, _, I1, rfl, ⟨T, y, rfl, I.hok.fresh hT, fun ys hys => ?_, rfl⟩, ⟨⟨st2.1, st2.2.1⟩, hne, hlt⟩, fun b hb => ?_⟩
    · rw [I.tuple_inj hys hq]
      exact hy
    · have hb' : b < s.heap.objs.size := by
        rcases List.mem_cons.mp hb with rfl | hb
        · exact hel
        · rw [List.mem_singleton.mp hb]; exact hil
      rw [upd_ne (Nat.ne_of_lt (Nat.lt_of_lt_of_le hb' hT))]
      exact (hf b hb).1
  done := by
    intro X hP hw hK hc i pins s σ H E I hf st hg
    subst hP hw hK
    obtain ⟨hge, xs, hq, hN⟩ := hg
    obtain ⟨st, hne, hi⟩ := st
    obtain ⟨its, rv, tup, hz⟩ := I.tuple hq
    have hlen : its.toArray.size = N := by rw [List.size_toArray, ← hN]; exact rv.length.symm
    obtain rfl : i = N := Nat.le_antisymm hi hge
    have nat : a ≠ it := fun z => by
      obtain ⟨o1, g1, c1, _⟩ := tup
      obtain ⟨_, o2, g2, c2, _⟩ := st
      rw [z, g2] at g1
      cases g1
      rw [c2] at c1
      exact absurd c1 (by decide)
    have nea : e ≠ a := fun z => by
      obtain ⟨o1, g1, c1, _⟩ := tup
      obtain ⟨⟨old, g2⟩, _⟩ := st
      rw [z] at g2
      rw [g2] at g1
      cases g1
      exact absurd (show Value.type "enumerate" = Value.type "tuple" from c1) (by decide)
    have D : Draws X.prog X.w X.A.in1 it [it, a] its.toArray.size _ _ := Draws.tuple (show X.A.in1.handled = none from I.ok.hd hc) it a nat its.toArray
    have W := WalksT.enumerateD D e hne (fun q => (List.mem_cons.mp q).elim hne fun q => nea (List.mem_singleton.mp q)) List.mem_cons_self
    rw [← hlen] at st
    refine W.done s _ _ ⟨st.1, st.2, tup⟩ fun h' tk hk => ⟨rfl, ?_⟩
    exact I.step (g' := s.gens) (d' := s.drawn) (ch := [e, it]) (fun b hb => ⟨(hf b hb).2.2.2.1, (hf b hb).2.1, (hf b hb).2.2.2.2.1, (hf b hb).2.2.2.2.2⟩) (fun b o _ _ hc g _ => hk b o hc g) (fun b o _ _ hc g _ => ⟨o.slots, hk b o hc g⟩)
      (fun _ _ _ _ n => n) (fun b o hc g => ⟨o, hk b o hc g⟩) (fun _ _ g => g) (fun _ _ _ g => g) (fun b ps g => ⟨#[], by rw [g]; simp⟩)
      (fun m hm => by
        obtain ⟨o, es, ep, ho, r⟩ := hm
        exact ⟨o, es, ep, hk _ o (fun q => (hf _ q).2.1 rfl) ho, r⟩)
      (fun b u g => by
        have nb : ∀ c v, H c = some v → c ∉ [e, it] := fun c v g q => by
          have g' := (hf c q).1
          rw [g'] at g; cases g
        refine (I.hok b u g).stay (fun c v hcv q => hk c v ?_ q) (fun _ q => q) fun _ _ q => q
        rcases hcv with rfl | hcv
        · exact nb _ _ g
        · exact nb _ _ hcv) I.bare
  self := fun A i s Q E st h => by
    obtain ⟨⟨⟨old, he⟩, _⟩, _⟩ := st
    exact wpAny_pyIter_enum he h
def iEnumU (K : PySem.W.Frag) (ta : TA) : TI := fun σ H R => ta σ H fun vs H1 => ∃ a xs, vs = [.ref a] ∧ SqT K H1 a xs ∧ R (Ient K a xs.length) H1
theorem pi_enumU {X : Cx} {e : Expr} {ta : TA} {p pos tpos : Pos} {elts : List Expr} {kk : Nat} (hg : Gl X "enumerate") (hm : X.mg "enumerate" = none) (ha : PA X [e] ta) (hs : starEach [e] X.env = [(false, eval e X.env)] := by rfl) :
    PI X (.Tuple elts kk tpos) (.Call (.Name "enumerate" p) [e] [] pos) (iEnumU X.K ta) := by
  refine ⟨fun pins s σ H R I h => Call_ (ld_blt I hg hm boot_enumerate (PyProof.Rows.callWith_type1 (thn (ha.run pos pins s σ H _ I h) fun us s1 ⟨vs, H1, I1, r1, a, xs, ez, hq, q⟩ => ?_) hs rfl))⟩
  subst ez
  obtain ⟨u, rfl, r2⟩ := vals1 r1
  cases r2
  obtain ⟨its, rv, tup, hz⟩ := I1.tuple hq
  refine enumT tup fun h' he hit hk => wpAny_pyIter_enum he ?_
  refine ⟨s1.heap.objs.size + 1, [s1.heap.objs.size + 1, s1.heap.objs.size], _, _, H1, rfl, I1.kept (t' := s1.toks) hk, turn_ent (s1.heap.objs.size + 1) s1.heap.objs.size a xs.length, ⟨⟨⟨.none, he⟩, hit⟩, Nat.succ_ne_self _, Nat.zero_le _⟩, fun b hb => ?_, q⟩
  have hle : s1.heap.objs.size ≤ b := by
    rcases List.mem_cons.mp hb with rfl | hb
    · exact Nat.le_succ _
    · rw [List.mem_singleton.mp hb]
      exact Nat.le_refl _
  exact I1.fpOk hle (I1.hok.fresh hle)
theorem walk_ent {K : PySem.W.Frag} {a : Addr} {xs : List V} : Walk (Ient K a xs.length) xs.length (fun H => SqT K H a xs) (fun i H v H' => ∃ T x, v = .ref T ∧ H T = none ∧ xs[i]? = some x ∧ H' = upd H T (.tup [.int (i : Nat), x])) :=
  ⟨fun i _ hi g => ⟨hi, xs, g, rfl⟩, fun _ g => ⟨Nat.le_refl _, xs, g, rfl⟩, fun i H v H' _ g y => by
    obtain ⟨T, x, h1, h2, h3, h4⟩ := y
    exact ⟨T, x, h1, h2, h3 xs g, h4⟩⟩
end Gk
namespace Gk
open PySem PySem.Spec PyProof.Rows L2
/-- a pair (branch, outcome) -/
def pd (x : Int × Int) : PyData := .tuple [.int x.1, .int x.2]
def PairsAt (K : PySem.W.Frag) (H : Hp) (p : Addr) (l : List (Int × Int)) : Prop := Dp K H (.ref p) (.tuple (l.map pd))
theorem tups_pd : ∀ l : List (Int × Int), tupsAll (l.map pd) = true
  | [] => rfl
  | x :: l => by
    show (tups (pd x) && tupsAll (l.map pd)) = true
    rw [tups_pd l]
    rfl
theorem PairsAt.keep {K : PySem.W.Frag} {H H' : Hp} {p : Addr} {l : List (Int × Int)} (h : PairsAt K H p l) (k : Keep K H H') : PairsAt K H' p l :=
  Dp.keep k _ _ (by simpa only [tups] using tups_pd l) h
theorem pairs_keep {K : PySem.W.Frag} {H H' : Hp} {as : List V} {l : List (Int × Int)} (h : DpAll K H as (l.map pd)) (k : Keep K H H') : DpAll K H' as (l.map pd) := DpAll.keep k _ _ (tups_pd l) h
theorem keep_lst {K : PySem.W.Frag} {H : Hp} {D : Addr} {xs : List V} {o : HO} (h : H D = some (.lst xs)) : Keep K H (upd H D o) := by
  intro a ys g
  rcases g with (g | ⟨u, g⟩) | g
  · exact .inl (.inl (by rw [upd_ne (ne_of g h (fun q => HO.noConfusion q))]; exact g))
  · exact .inl (.inr ⟨u, by rw [upd_ne (ne_of g h (fun q => HO.noConfusion q))]; exact g⟩)
  · exact .inr g
/-- one pair more in the list at D -/
theorem pairs_snoc {K : PySem.W.Frag} {H : Hp} {D T : Addr} {as : List V} {l : List (Int × Int)} {x y : Int} {o : HO} (h : DpAll K H as (l.map pd)) (hD : H D = some (.lst as)) (nT : H T = none) :
    DpAll K (upd (upd H T (.tup [.int x, .int y])) D o) (as ++ [.ref T]) ((l ++ [(x, y)]).map pd) := by
  have nd : D ≠ T := ne_of_none hD nT
  have hD2 : (upd H T (.tup [.int x, .int y])) D = some (.lst as) := by rw [upd_ne nd]; exact hD
  have k := (Same.keep (K := K) (same_new (o := HO.tup [V.int x, V.int y]) nT)).trans (keep_lst (o := o) hD2)
  rw [List.map_append]
  refine DpAll.app (pairs_keep h k) (.cons (.tup (.inl (.inl ?_)) (.cons (.int x) (.cons (.int y) .nil))) .nil)
  rw [upd_ne nd.symm, upd_same]
theorem pair_at {K : PySem.W.Frag} {H : Hp} {v : V} {x : Int × Int} (h : Dp K H v (pd x)) : ∃ a, v = .ref a ∧ SqT K H a [.int x.1, .int x.2] := by
  cases h with
  | tup h1 h2 =>
    cases h2 with
    | cons a b =>
      cases a
      cases b with
      | cons c d =>
        cases c
        cases d
        exact ⟨_, rfl, h1⟩
theorem DpAll.set {K : PySem.W.Frag} {H : Hp} {v : V} {d : PyData} (hv : Dp K H v d) : ∀ {vs : List V} {ds : List PyData} (i : Nat), DpAll K H vs ds → DpAll K H (vs.set i v) (ds.set i d)
  | _, _, _, .nil => .nil
  | _, _, 0, .cons _ t => .cons hv t
  | _, _, i + 1, .cons h t => .cons h (DpAll.set hv i t)
theorem lc_len {K : PySem.W.Frag} {H : Hp} {as : List V} {l : List (Int × Int)} (h : DpAll K H as (l.map pd)) : as.length = l.length := by
  have := DpAll.len h
  rwa [List.length_map] at this
/-- branches and outcomes -/
def Fair (l : List (Int × Int)) : Prop := ∀ x ∈ l, (0 ≤ x.1 ∧ x.1 ≤ 7) ∧ (x.2 = 0 ∨ x.2 = 1)
theorem Fair.nil : Fair [] := fun _ h => (nomatch h)
theorem Fair.snoc {l : List (Int × Int)} {x y : Int} (h : Fair l) (a : 0 ≤ x) (b : x ≤ 7) (c : y = 0 ∨ y = 1) : Fair (l ++ [(x, y)]) := fun z hz => by
  rcases List.mem_append.mp hz with g | g
  · exact h z g
  · rw [List.mem_singleton.mp g]
    exact ⟨⟨a, b⟩, c⟩
theorem Fair.take {l : List (Int × Int)} (h : Fair l) (n : Nat) : Fair (l.take n) := fun x hx => h x (List.mem_of_mem_take hx)
theorem tame_pd : ∀ {l : List (Int × Int)}, Fair l → tameAll (l.map pd) = true
  | [], _ => rfl
  | x :: l, h => by
    have h1 := h x List.mem_cons_self
    show (tame (pd x) && tameAll (l.map pd)) = true
    rw [tame_pd fun z hz => h z (List.mem_cons_of_mem _ hz), Bool.and_true]
    simp only [pd, tame, tameAll, Bool.and_true, Bool.and_eq_true, decide_eq_true_eq]
    omega
theorem cost_pd : ∀ l : List (Int × Int), costAll (l.map pd) = 1 + 144 * l.length
  | [] => rfl
  | x :: l => by
    show cost (pd x) + 1 + costAll (l.map pd) = _
    rw [cost_pd l, List.length_cons]
    simp only [pd, cost, costAll]
    omega
theorem depth_pd : ∀ l : List (Int × Int), PyData.depthAll (l.map pd) ≤ 1
  | [] => by decide
  | x :: l => by
    show max (PyData.depth (pd x)) (PyData.depthAll (l.map pd)) ≤ 1
    have h := depth_pd l
    have h2 : PyData.depth (pd x) = 1 := by simp [pd, PyData.depth, PyData.depthAll]
    omega
end Gk
namespace Pf
open PySem PySem.Spec PyProof.Rows L2 Gk
abbrev sLoop : Stmt := topS 32
abbrev nLoop : List Str := ["_law_box_here", "_law_most", "_law_homes", "_law_row_here", "_law_kind", "_law_some", "_law_first", "_law_found", "_law_deed", "_law_at"]
theorem scLoop : FnScope nLoop ["_law_box_here", "_law_most", "_law_homes"] (defScope sLoop) := ⟨rfl, rfl, rfl, by decide +kernel, rfl, by decide +kernel, by decide +kernel⟩
section
variable {P : Program} {w : World} {K : PySem.W.Frag} {mg : Str → Option Value} {base : Heap}
def spLoop (K : PySem.W.Frag) : Sp := fun vs H Q _ => ∃ (b : Addr) (most homes : Int) (m : Nat), vs = [.ref b, .int most, .int homes] ∧ 1 ≤ most ∧ most ≤ 64 ∧ 1 ≤ homes ∧ homes ≤ 8 ∧ Box m H b ∧ m ≤ 999000 ∧
  ∀ H' p l, But b H H' → Box (m + 250) H' b → PairsAt K H' p l → 1 ≤ l.length → (l.length : Int) ≤ most → Fair l → Q (.ref p) H'
theorem ok_loop {f : Addr} {fd : FuncData} (DT : Dfn P w K mg base 1 "_law_take" ["_law_box_here", "_law_many"] spTake) (DR : Dfn P w K mg base 2 "_law_row" ["_law_box_here", "_law_most"] (spRow K)) (mt : mg "tuple" = none) (me : mg "enumerate" = none) (ml : mg "len" = none)
    (F : L2.Fun K "_law_loop" "_law_loop" sLoop f fd) : FnOk P w K mg base L2.CX0 3 f fd ["_law_box_here", "_law_most", "_law_homes"] (spLoop K) := by
  refine F.ok scLoop (fun vs H Q E h => ?_) (fun cdv A outer s H vs Q E hr h => ?_)
  · obtain ⟨b, most, homes, m, rfl, _⟩ := h
    rfl
  · obtain ⟨b, most, homes, m, rfl, m1, m2, h1, h2, hb, hm, q⟩ := h
    refine ⟨_, C8.pss_cut (ps_asg (pe_tup (pa_cons (pe_d DR hr (by decide) (by rfl) (pa_cons (pv 0) (pa_cons (pv 1) pa_nil))) (pa_cons (pe_d DT hr (by decide) (by rfl) (pa_cons (pv 0) (pa_cons pe_int pa_nil)))
          (pa_cons (pe_op op_add pe_int (pe_d DT hr (by decide) (by rfl) (pa_cons (pv 0) (pa_cons (pv 2) pa_nil)))) pa_nil))))
        (pg_tup (by rfl) (pgs_cons (pg_name (i := 3) scLoop.nd rfl (.inl rfl)) (pgs_cons (pg_name (i := 4) scLoop.nd rfl (.inl rfl)) (pgs_cons (pg_name (i := 5) scLoop.nd rfl (.inr rfl)) pgs_nil)))))
      (pss_cons (ps_set (i := 6) scLoop.nd rfl (.inr rfl) (pe_d DT hr (by decide) (by rfl) (pa_cons (pv 0) (pa_cons (pe_op op_sub pe_int (pv 5)) pa_nil))))
      (pss_cons (ps_if (pt_cmpR op_eq (pv 4) pe_int (nomark _))
        (pss_one (ps_ret (pe_callTy call_tuple_of (by rfl) mt (by decide +kernel) (pa_cons (pe_lc (own := [("_law_deed", 8)]) (g := gName 8) (by rfl) scLoop.nd (pi_tup (pv 3)) (blkOk_by (N := nLoop) (sc := defScope sLoop) (by decide +kernel))
          (fun _ _ _ _ _ => pg_name (i := 8) scLoop.nd rfl (.inl rfl)) (fun _ _ _ _ _ => pts_nil) (fun _ _ _ _ _ => pe_tup (pa_cons (pv 6) (pa_cons (pv 8) pa_nil)))) pa_nil)))) pss_nil)
      (pss_cons (ps_if (pt_cmpR op_eq (pv 4) pe_int (nomark _))
        (pss_one (ps_ret (pe_callTy call_tuple_of (by rfl) mt (by decide +kernel) (pa_cons (pe_lc (own := [("_law_at", 9), ("_law_deed", 8)]) (g := gTup K 2 (gCons (gName 9) (gCons (gName 8) gNil))) (by rfl) scLoop.nd (pi_enumU rfl me (pa_cons (pv 3) pa_nil)) (blkOk_by (N := nLoop) (sc := defScope sLoop) (by decide +kernel))
          (fun _ _ _ _ _ => pg_tup rfl (pgs_cons (pg_name (i := 9) scLoop.nd rfl (.inl rfl)) (pgs_cons (pg_name (i := 8) scLoop.nd rfl (.inl rfl)) pgs_nil))) (fun _ _ _ _ _ => pts_nil)
          (fun _ _ _ _ _ => pe_tup (pa_cons (pe_op op_add (pv 6) (pe_op op_mod (pv 9) (pv 5))) (pa_cons (pv 8) pa_nil)))) pa_nil)))) pss_nil)
      (pss_cons (ps_setLc (i := 7) (own := [("_law_deed", 8)]) (g := gName 8) (by rfl) scLoop.nd rfl rfl (sw_true rfl rfl rfl (by decide +kernel)) (pi_tup (pv 3)) (blkOk_by (N := nLoop) (sc := defScope sLoop) (by decide +kernel))
          (fun _ _ _ _ _ => pg_name (i := 8) scLoop.nd rfl (.inl rfl)) (fun _ _ _ _ _ => pts_nil) (fun _ _ _ _ _ => pe_tup (pa_cons (pe_op op_add (pv 6) (pe_d DT hr (by decide) (by rfl) (pa_cons (pv 0) (pa_cons (pv 5) pa_nil)))) (pa_cons (pv 8) pa_nil))))
      (C8.pss_cut (ps_if (PW.pt (pw_and (pt_cmpR op_eq (pv 4) pe_int (nomark _)) (pw_and1 (pt_cmpR op_gt (pe_callB call_len_seq (by rfl) ml PySem.boot_len (pa_cons (pv 7) pa_nil)) pe_int (nomark _)))))
        (pss_one (ps_asg (pe_tup (pa_cons (pe_ix ix_tup (pe_ix ix_list (pv 7) (pe_un un_neg pe_int) (fun _ _ => rfl)) pe_int (fun _ _ => rfl)) (pa_cons (pe_ix ix_tup (pe_ix ix_list (pv 7) pe_int (fun _ _ => rfl)) pe_int (fun _ _ => rfl)) pa_nil)))
          (pg_sub (pv 7) (pe_un un_neg pe_int) set_list))) pss_nil)
      (pss_one (ps_ret (pe_callTy call_tuple_of (by rfl) mt (by decide +kernel) (pa_cons (pv 7) pa_nil))))))))), ?_⟩
    refine ⟨fun σ H2 => ∃ (r : Addr) (os : List Int) (k z : Int), σ = [some (.ref b), some (.int most), some (.int homes), some (.ref r), some (.int k), some (.int z), none, none, none, none] ∧ SqT K H2 r (os.map V.int) ∧ 1 ≤ os.length ∧ (os.length : Int) ≤ most ∧ Bits os ∧ 1 ≤ z ∧ z ≤ 8 ∧ But b H H2 ∧ Box (m + 152) H2 b, ?_, fun σ' H2 hM => ?_⟩
    · refine ⟨.ref b, rfl, .int most, rfl, b, most, m, rfl, m1, m2, hb, by omega, fun H1 r os bt1 bx1 sq l1 l2 hB => ⟨.ref b, rfl, b, 4, m + 150, rfl, by decide, by decide, bx1, by omega, fun k H2 k0 k1 bt2 bx2 sm2 =>
        ⟨.ref b, rfl, .int homes, rfl, b, homes, m + 150 + 1, rfl, by omega, by omega, bx2, by omega, fun d H3 d0 d1 bt3 bx3 sm3 => ⟨_, _, rfl, rfl, by show 3 ≤ sizeLine; decide, fun p np => ?_⟩⟩⟩⟩
      refine ⟨p, _, rfl, .inl (.inl upd_same), rfl, _, _, rfl, _, _, rfl, _, _, rfl, rfl, r, os, k, 1 + d, rfl, ?_, l1, l2, hB, by omega, by omega, ((bt1.trans bt2).trans bt3).trans (But.new np), bx3.same (same_new np)⟩
      exact Same.seqT (same_new np) ((But.keep bt3 bx2 _ _) ((But.keep bt2 bx1 _ _) sq))
    · obtain ⟨r, os, k, z, rfl, sq, l1, l2, hB, z1, z2, bt, bx⟩ := hM
      refine ⟨.ref b, rfl, .int z, rfl, _, _, rfl, rfl, b, 9 - z, m + 152, rfl, by omega, by omega, bx, by omega, fun d H3 d0 d1 bt3 bx3 sm3 => ?_⟩
      have sq3 : SqT K H3 r (os.map V.int) := But.keep bt3 bx _ _ sq
      have btA : But b H H3 := bt.trans bt3
      have len64 : os.length ≤ 64 := by omega
      have at_os : ∀ {i : Nat} {x : V}, (os.map V.int)[i]? = some x → ∃ o, os[i]? = some o ∧ x = .int o ∧ (o = 0 ∨ o = 1) := by
        intro i x hx
        rw [List.getElem?_map] at hx
        cases e : os[i]? with
        | none => rw [e] at hx; cases hx
        | some o =>
          rw [e] at hx
          exact ⟨o, rfl, (Option.some.inj hx).symm, hB o (List.mem_of_getElem? e)⟩
      have fin : ∀ (H5 : Hp) (D : Addr) (as : List V) (l : List (Int × Int)), But b H H5 → Box (m + 240) H5 b → H5 D = some (.lst as) → DpAll K H5 as (l.map pd) → l.length = os.length → Fair l →
          ∀ p, H5 p = none → Q (.ref p) (upd H5 p (.tup as)) := fun H5 D as l b5 x5 hD hA hl hF p np =>
        q _ p l (b5.trans (But.new np)) ((x5.same (same_new np)).up (by omega)) (.tup (.inl (.inl upd_same)) (pairs_keep hA (Same.keep (same_new np)))) (by omega) (by omega) hF
      refine ⟨.int k, rfl, rfl, _, rfl, ite2 (fun e => ?_) (fun e => ?_)⟩
      · refine ⟨.ref r, rfl, r, rfl, ⟨_, sq3⟩, fun D nD => lc_tup (K := K) (a := r) (xs := os.map V.int)
          (fun i H' => Same H3 H' ∧ ∃ (as : List V) (l : List (Int × Int)), H' D = some (.lst as) ∧ DpAll K H' as (l.map pd) ∧ l.length = i ∧ Fair l) ⟨same_new nD, [], [], upd_same, .nil, rfl, Fair.nil⟩
          (fun i H' _ hp => Same.seqT hp.1 sq3) (fun i x H4 hx hp => ?_) (fun H4 hp => ?_)⟩
        · obtain ⟨sm, as, l, hD, hA, hl, hF⟩ := hp
          obtain ⟨o, ho, rfl, ob⟩ := at_os hx
          have hi : i < os.length := (List.getElem?_eq_some_iff.mp ho).1
          refine ⟨rfl, .int d, rfl, .int o, rfl, by show 2 ≤ sizeLine; decide, fun T nT => ⟨as, by rw [upd_ne (ne_of_none hD nT)]; exact hD, ?_, ?_, as ++ [.ref T], l ++ [(d, o)], upd_same, pairs_snoc hA hD nT, ?_, Fair.snoc hF d0 (by omega) ob⟩⟩
          · rw [lc_len hA]
            exact small1000 (by omega)
          · intro a u h
            rw [upd_ne (ne_of_none h nD)]
            exact same_new nT a u (sm a u h)
          · rw [List.length_append, hl]
            rfl
        · obtain ⟨sm, as, l, hD, hA, hl, hF⟩ := hp
          rw [List.length_map] at hl
          exact ⟨D, as, rfl, .inl ⟨.inl (.inl hD), fin H4 D as l (btA.trans (But.of_same sm)) ((bx3.same sm).up (by omega)) hD hA hl hF⟩⟩
      · refine ⟨.int k, rfl, rfl, _, rfl, ite2 (fun e2 => ?_) (fun e2 => ?_)⟩
        · refine ⟨.ref r, rfl, r, _, rfl, sq3, fun D nD => lc_it walk_ent
            (fun i H' => Same H3 H' ∧ ∃ (as : List V) (l : List (Int × Int)), H' D = some (.lst as) ∧ DpAll K H' as (l.map pd) ∧ l.length = i ∧ Fair l) ⟨same_new nD, [], [], upd_same, .nil, rfl, Fair.nil⟩
            (fun i H' _ hp => Same.seqT hp.1 sq3) (fun i x H4 H5 hi hp hy => ?_) (fun H4 hp => ?_)⟩
          · obtain ⟨sm, as, l, hD, hA, hl, hF⟩ := hp
            obtain ⟨R, x, rfl, nR, hx, rfl⟩ := hy
            obtain ⟨o, ho, rfl, ob⟩ := at_os hx
            have hi : i < os.length := (List.getElem?_eq_some_iff.mp ho).1
            have hD4 : (upd H4 R (.tup [.int (i : Nat), .int o])) D = some (.lst as) := by rw [upd_ne (ne_of_none hD nR)]; exact hD
            have hA4 : DpAll K (upd H4 R (.tup [.int (i : Nat), .int o])) as (l.map pd) := pairs_keep hA (Same.keep (same_new nR))
            have hmod0 : 0 ≤ (i : Int) % z := Int.emod_nonneg _ (by omega)
            have hmod1 : (i : Int) % z < z := Int.emod_lt_of_pos _ (by omega)
            refine ⟨R, _, rfl, .inl (.inl upd_same), rfl, _, _, rfl, _, _, rfl, rfl, rfl, .int d, rfl, .int (i : Nat), rfl, .int z, rfl, _, _, rfl, rfl, by show (0 : Int) < z; omega, _, _, rfl, rfl, .int o, rfl, by show 2 ≤ sizeLine; decide,
              fun T nT => ⟨as, by rw [upd_ne (ne_of_none hD4 nT)]; exact hD4, ?_, ?_, as ++ [.ref T], l ++ [(d + (i : Int) % z, o)], upd_same, pairs_snoc hA4 hD4 nT, ?_, Fair.snoc hF (by omega) (by omega) ob⟩⟩
            · rw [lc_len hA]
              exact small1000 (by omega)
            · intro a u h
              rw [upd_ne (ne_of_none h nD)]
              exact same_new nT a u (same_new nR a u (sm a u h))
            · rw [List.length_append, hl]
              rfl
          · obtain ⟨sm, as, l, hD, hA, hl, hF⟩ := hp
            rw [List.length_map] at hl
            exact ⟨D, as, rfl, .inl ⟨.inl (.inl hD), fin H4 D as l (btA.trans (But.of_same sm)) ((bx3.same sm).up (by omega)) hD hA hl hF⟩⟩
        · refine ⟨.ref r, rfl, r, rfl, ⟨_, sq3⟩, fun D nD => lc_tup (K := K) (a := r) (xs := os.map V.int)
            (fun i H' => But b H3 H' ∧ Box (m + 153 + i) H' b ∧ ∃ (as : List V) (l : List (Int × Int)), H' D = some (.lst as) ∧ DpAll K H' as (l.map pd) ∧ l.length = i ∧ Fair l) ⟨But.new nD, bx3.same (same_new nD), [], [], upd_same, .nil, rfl, Fair.nil⟩
            (fun i H' _ hp => But.keep hp.1 bx3 _ _ sq3) (fun i x H4 hx hp => ?_) (fun H4 hp => ?_)⟩
          · obtain ⟨bt4, bx4, as, l, hD, hA, hl, hF⟩ := hp
            obtain ⟨o, ho, rfl, ob⟩ := at_os hx
            have hi : i < os.length := (List.getElem?_eq_some_iff.mp ho).1
            have nDb : D ≠ b := (bx3.ne nD).symm
            refine ⟨rfl, .int d, rfl, .ref b, rfl, .int z, rfl, b, z, _, rfl, by omega, by omega, bx4, by omega, fun d5 H5 e0 e1 bt5 bx5 sm5 => ⟨_, _, rfl, rfl, .int o, rfl, by show 2 ≤ sizeLine; decide, fun T nT => ?_⟩⟩
            have hD5 : H5 D = some (.lst as) := (sm5 D nDb).trans hD
            have nTb : T ≠ b := (bx5.ne nT).symm
            refine ⟨as, by rw [upd_ne (ne_of_none hD5 nT)]; exact hD5, ?_, ?_, ?_, as ++ [.ref T], l ++ [(d + d5, o)], upd_same, pairs_snoc (pairs_keep hA (But.keep bt5 bx4)) hD5 nT, ?_, Fair.snoc hF (by omega) (by omega) ob⟩
            · rw [lc_len hA]
              exact small1000 (by omega)
            · refine but_local nD (bt4.trans bt5) fun a u n1 n2 h => ?_
              rw [upd_ne n2]
              exact same_new nT a u h
            · obtain ⟨x1, x2, x3, g1, g2⟩ := bx5
              exact ⟨x1, x2, x3, by rw [upd_ne nDb.symm, upd_ne nTb.symm]; exact g1, g2.1, by have := g2.2; omega⟩
            · rw [List.length_append, hl]
              rfl
          · obtain ⟨bt4, bx4, as, l, hD, hA, hl, hF⟩ := hp
            rw [List.length_map] at hl
            rw [List.length_map] at bx4
            have hal := lc_len hA
            refine ⟨fun σ H6 => ∃ (as : List V) (l : List (Int × Int)), σ = [some (.ref b), some (.int most), some (.int homes), some (.ref r), some (.int k), some (.int z), some (.int d), some (.ref D), none, none] ∧ But b H H6 ∧ Box (m + 240) H6 b ∧ H6 D = some (.lst as) ∧ DpAll K H6 as (l.map pd) ∧ l.length = os.length ∧ Fair l, ?_, fun σ' H6 hM => ?_⟩
            · refine ⟨.int k, rfl, rfl, _, rfl, ite2 (fun e3 => ?_) (fun e3 => ?_)⟩
              · refine ⟨.ref D, rfl, D, _, rfl, .inl (.inl (.inl hD)), _, _, rfl, rfl, _, rfl, ite2 (fun e4 => ?_) (fun e4 => ?_)⟩
                · have h0 : 0 < l.length := by omega
                  have g0 : as[0]? = some (as[0]'(by omega)) := List.getElem?_eq_getElem (by omega)
                  have gl : as[l.length - 1]? = some (as[l.length - 1]'(by omega)) := List.getElem?_eq_getElem (by omega)
                  have k0 : (l.map pd)[0]? = some (pd (l[0]'(by omega))) := by rw [List.getElem?_map, List.getElem?_eq_getElem (by omega)]; rfl
                  have kl : (l.map pd)[l.length - 1]? = some (pd (l[l.length - 1]'(by omega))) := by rw [List.getElem?_map, List.getElem?_eq_getElem (by omega)]; rfl
                  obtain ⟨a0, ea0, sa0⟩ := pair_at (DpAll.at hA g0 k0)
                  obtain ⟨al, eal, sal⟩ := pair_at (DpAll.at hA gl kl)
                  have f0 := hF _ (List.getElem_mem (show 0 < l.length by omega))
                  have fl := hF _ (List.getElem_mem (show l.length - 1 < l.length by omega))
                  have ix : ixN as.length (-1) = some (l.length - 1) := by
                    unfold ixN
                    rw [if_neg (by decide), if_pos (by omega)]
                    congr 1
                    omega
                  have hat : atI as (-1) = some (.ref al) := by
                    unfold atI
                    rw [ix]
                    exact gl.trans (congrArg some eal)
                  have hat0 : atI as 0 = some (.ref a0) := atI_nat (j := 0) (g0.trans (congrArg some ea0))
                  refine ⟨.ref D, rfl, 1, rfl, D, as, -1, .ref al, rfl, rfl, .inl (.inl hD), hat, al, _, 0, .int (l[l.length - 1]'(by omega)).1, rfl, rfl, sal, rfl, .ref D, rfl, D, as, 0, .ref a0, rfl, rfl, .inl (.inl hD), hat0, a0, _, 1, .int (l[0]'(by omega)).2, rfl, rfl, sa0, rfl,
                    by show 2 ≤ sizeLine; decide, fun T nT => ?_⟩
                  have nDT : D ≠ T := ne_of_none hD nT
                  have hD7 : (upd H4 T (.tup [.int (l[l.length - 1]'(by omega)).1, .int (l[0]'(by omega)).2])) D = some (.lst as) := by rw [upd_ne nDT]; exact hD
                  have nDb : D ≠ b := (bx3.ne nD).symm
                  have nDH : H D = none := by
                    cases hh : H D with
                    | none => rfl
                    | some u =>
                      have := btA D u nDb hh
                      rw [nD] at this
                      cases this
                  refine ⟨.ref D, rfl, 1, rfl, D, as, -1, l.length - 1, rfl, rfl, hD7, ix, as.set (l.length - 1) (.ref T), l.set (l.length - 1) ((l[l.length - 1]'(by omega)).1, (l[0]'(by omega)).2), rfl, ?_, ?_, upd_same, ?_, ?_, ?_⟩
                  · refine but_local nDH (btA.trans bt4) fun a u n1 n2 h => ?_
                    rw [upd_ne n2]
                    exact same_new nT a u h
                  · have nbT := bx4.ne nT
                    obtain ⟨x1, x2, x3, g1, g2⟩ := bx4
                    exact ⟨x1, x2, x3, by rw [upd_ne nDb.symm, upd_ne nbT]; exact g1, g2.1, by have := g2.2; omega⟩
                  · have kk := (Same.keep (K := K) (same_new (o := HO.tup [.int (l[l.length - 1]'(by omega)).1, .int (l[0]'(by omega)).2]) nT)).trans (keep_lst (o := .lst (as.set (l.length - 1) (.ref T))) hD7)
                    rw [List.map_set]
                    refine DpAll.set (.tup (.inl (.inl ?_)) (.cons (.int _) (.cons (.int _) .nil))) _ (pairs_keep hA kk)
                    rw [upd_ne nDT.symm, upd_same]
                  · rw [List.length_set]
                    exact hl
                  · intro y hy
                    rcases List.mem_or_eq_of_mem_set hy with g | g
                    · exact hF y g
                    · rw [g]
                      exact ⟨fl.1, f0.2⟩
                · exact ⟨as, l, rfl, btA.trans bt4, bx4.up (by omega), hD, hA, hl, hF⟩
              · exact ⟨as, l, rfl, btA.trans bt4, bx4.up (by omega), hD, hA, hl, hF⟩
            · obtain ⟨as, l, rfl, bt6, bx6, hD6, hA6, hl6, hF6⟩ := hM
              exact ⟨.ref D, rfl, D, as, rfl, .inl ⟨.inl (.inl hD6), fin H6 D as l bt6 bx6 hD6 hA6 hl6 hF6⟩⟩
end
end Pf
namespace Gk
open PySem PySem.Spec PyProof.Rows L2
/-! ### data whose equality is being the same -/
mutual
def exa : PyData → Bool
  | .none | .int _ | .str _ => true
  | .list xs | .tuple xs => exaAll xs
  | .bool _ | .dict _ => false
def exaAll : List PyData → Bool
  | [] => true
  | x :: xs => exa x && exaAll xs
end
mutual
theorem eqv_exa : ∀ d e : PyData, exa d = true → exa e = true → PyData.eqv d e = true → d = e
  | .none, .none, _, _, _ => rfl
  | .int i, .int j, _, _, h => by
    simp only [PyData.eqv, beq_iff_eq] at h
    rw [h]
  | .str x, .str y, _, _, h => by
    simp only [PyData.eqv, beq_iff_eq] at h
    rw [h]
  | .list xs, .list ys, a, b, h => by
    simp only [PyData.eqv] at h
    rw [eqv_exaAll xs ys (by simpa only [exa] using a) (by simpa only [exa] using b) h]
  | .tuple xs, .tuple ys, a, b, h => by
    simp only [PyData.eqv] at h
    rw [eqv_exaAll xs ys (by simpa only [exa] using a) (by simpa only [exa] using b) h]
  | .none, .int _, _, _, h | .none, .str _, _, _, h | .none, .list _, _, _, h | .none, .tuple _, _, _, h => by simp [PyData.eqv] at h
  | .int _, .none, _, _, h | .int _, .str _, _, _, h | .int _, .list _, _, _, h | .int _, .tuple _, _, _, h => by simp [PyData.eqv] at h
  | .str _, .none, _, _, h | .str _, .int _, _, _, h | .str _, .list _, _, _, h | .str _, .tuple _, _, _, h => by simp [PyData.eqv] at h
  | .list _, .none, _, _, h | .list _, .int _, _, _, h | .list _, .str _, _, _, h | .list _, .tuple _, _, _, h => by simp [PyData.eqv] at h
  | .tuple _, .none, _, _, h | .tuple _, .int _, _, _, h | .tuple _, .str _, _, _, h | .tuple _, .list _, _, _, h => by simp [PyData.eqv] at h
  | .bool _, _, a, _, _ | .dict _, _, a, _, _ => by simp [exa] at a
  | .none, .bool _, _, b, _ | .none, .dict _, _, b, _ | .int _, .bool _, _, b, _ | .int _, .dict _, _, b, _ | .str _, .bool _, _, b, _ | .str _, .dict _, _, b, _ => by simp [exa] at b
  | .list _, .bool _, _, b, _ | .list _, .dict _, _, b, _ | .tuple _, .bool _, _, b, _ | .tuple _, .dict _, _, b, _ => by simp [exa] at b
theorem eqv_exaAll : ∀ xs ys : List PyData, exaAll xs = true → exaAll ys = true → PyData.eqvAll xs ys = true → xs = ys
  | [], [], _, _, _ => rfl
  | x :: xs, y :: ys, a, b, h => by
    simp only [exaAll, Bool.and_eq_true] at a b
    simp only [PyData.eqvAll, Bool.and_eq_true] at h
    rw [eqv_exa x y a.1 b.1 h.1, eqv_exaAll xs ys a.2 b.2 h.2]
  | [], _ :: _, _, _, h => by simp [PyData.eqvAll] at h
  | _ :: _, [], _, _, h => by simp [PyData.eqvAll] at h
end
theorem eqv_same {d : PyData} (h : tame d = true) : PyData.eqv d d = true := SeqAt.eqv_refl d (tame_lay d h)
/-- an item of a row or of a loop -/
structure Item (d : PyData) : Prop where
  e : exa d = true
  t : tups d = true
  m : tame d = true
  dp : d.depth ≤ 1
  c : cost d ≤ 143
def Plain (ds : List PyData) : Prop := ∀ d ∈ ds, Item d
theorem Plain.exa : ∀ {ds : List PyData}, Plain ds → exaAll ds = true
  | [], _ => rfl
  | x :: xs, h => by
    simp only [exaAll, (h x List.mem_cons_self).e, Plain.exa fun z hz => h z (List.mem_cons_of_mem _ hz), Bool.and_self]
theorem Plain.tups : ∀ {ds : List PyData}, Plain ds → tupsAll ds = true
  | [], _ => rfl
  | x :: xs, h => by
    simp only [tupsAll, (h x List.mem_cons_self).t, Plain.tups fun z hz => h z (List.mem_cons_of_mem _ hz), Bool.and_self]
theorem Plain.tame : ∀ {ds : List PyData}, Plain ds → tameAll ds = true
  | [], _ => rfl
  | x :: xs, h => by
    simp only [tameAll, (h x List.mem_cons_self).m, Plain.tame fun z hz => h z (List.mem_cons_of_mem _ hz), Bool.and_self]
theorem Plain.depth : ∀ {ds : List PyData}, Plain ds → PyData.depthAll ds ≤ 1
  | [], _ => Nat.zero_le _
  | x :: xs, h => by
    have h1 := (h x List.mem_cons_self).dp
    have h2 := Plain.depth fun z hz => h z (List.mem_cons_of_mem _ hz)
    simp only [PyData.depthAll]
    omega
theorem Plain.cost : ∀ {ds : List PyData}, Plain ds → costAll ds ≤ 1 + 144 * ds.length
  | [], _ => by decide
  | x :: xs, h => by
    have h1 := (h x List.mem_cons_self).c
    have h2 := Plain.cost fun z hz => h z (List.mem_cons_of_mem _ hz)
    simp only [costAll, List.length_cons]
    omega
theorem Plain.sub {ds es : List PyData} (h : Plain ds) (s : ∀ d ∈ es, d ∈ ds) : Plain es := fun d hd => h d (s d hd)
theorem Plain.take {ds : List PyData} (h : Plain ds) (n : Nat) : Plain (ds.take n) := h.sub fun _ g => List.mem_of_mem_take g
theorem Plain.drop {ds : List PyData} (h : Plain ds) (n : Nat) : Plain (ds.drop n) := h.sub fun _ g => List.mem_of_mem_drop g
theorem Plain.app {ds es : List PyData} (h : Plain ds) (g : Plain es) : Plain (ds ++ es) := fun d hd => (List.mem_append.mp hd).elim (h d) (g d)
theorem Plain.rep {ds : List PyData} (h : Plain ds) (n : Nat) : Plain (List.replicate n ds).flatten := fun x hx => by
  obtain ⟨m, hm, hx⟩ := List.mem_flatten.mp hx
  rw [(List.mem_replicate.mp hm).2] at hx
  exact h x hx
theorem plain_pd {l : List (Int × Int)} (h : Fair l) : Plain (l.map pd) := fun d hd => by
  obtain ⟨x, hx, rfl⟩ := List.mem_map.mp hd
  have g := h x hx
  refine ⟨rfl, rfl, ?_, by simp [pd, PyData.depth, PyData.depthAll], by simp only [pd, Gk.cost, costAll]; omega⟩
  simp only [pd, Gk.tame, tameAll, Bool.and_true, Bool.and_eq_true, decide_eq_true_eq]
  omega
theorem plain_bits {l : List Int} (h : ∀ o ∈ l, o = 0 ∨ o = 1) : Plain (l.map PyData.int) := fun d hd => by
  obtain ⟨x, hx, rfl⟩ := List.mem_map.mp hd
  have g := h x hx
  refine ⟨rfl, rfl, ?_, by simp [PyData.depth], by simp only [Gk.cost]; omega⟩
  simp only [Gk.tame, decide_eq_true_eq]
  omega
theorem Plain.fine {ds : List PyData} (h : Plain ds) (hl : ds.length ≤ 1000) : Fine (.tuple ds) := by
  have h1 := h.depth
  have h2 := h.cost
  refine Fine.tame (by simpa only [Gk.tame] using h.tame) ?_ ?_
  · simp only [PyData.depth]
    omega
  · simp only [Gk.cost]
    omega
theorem Plain.shaped {ds : List PyData} (h : Plain ds) : SeqAt.shaped (.tuple ds) = true := by
  have h1 := h.depth
  refine tame_shaped (by simpa only [Gk.tame] using h.tame) ?_
  simp only [PyData.depth]
  omega
def ItsAt (K : PySem.W.Frag) (H : Hp) (p : Addr) (ds : List PyData) : Prop := Dp K H (.ref p) (.tuple ds)
theorem ItsAt.keep {K : PySem.W.Frag} {H H' : Hp} {p : Addr} {ds : List PyData} (h : ItsAt K H p ds) (hp : Plain ds) (k : Keep K H H') : ItsAt K H' p ds :=
  Dp.keep k _ _ (by simpa only [Gk.tups] using hp.tups) h
theorem ItsAt.out {K : PySem.W.Frag} {H : Hp} {p : Addr} {ds : List PyData} (h : ItsAt K H p ds) : ∃ xs, SqT K H p xs ∧ DpAll K H xs ds ∧ xs.length = ds.length := by
  cases h with
  | tup a b => exact ⟨_, a, b, DpAll.len b⟩
theorem plain_eq {ds es : List PyData} (h : Plain ds) (g : Plain es) : PyData.eqv (.tuple ds) (.tuple es) = true ↔ ds = es :=
  ⟨fun e => PyData.tuple.inj (eqv_exa _ _ (by simpa only [Gk.exa] using h.exa) (by simpa only [Gk.exa] using g.exa) e), fun e => by
    rw [e]
    exact eqv_same (by simpa only [Gk.tame] using g.tame)⟩

/-! ### roots -/
def Rep {α : Type} (l : List α) (s : Nat) : Prop := (List.replicate (l.length / s) (l.take s)).flatten = l
structure RootIs {α : Type} (l : List α) (s : Nat) : Prop where
  lo : 1 ≤ s
  hi : s ≤ l.length
  rep : Rep l s
  least : ∀ t, 1 ≤ t → t < s → ¬ Rep l t
theorem flat_len {α : Type} (n : Nat) (l : List α) : ((List.replicate n l).flatten).length = n * l.length := by
  induction n with
  | zero => simp
  | succ n ih => rw [List.replicate_succ, List.flatten_cons, List.length_append, ih, Nat.succ_mul, Nat.add_comm]
theorem Rep.many {α : Type} {l : List α} {s : Nat} (h : Rep l s) (hs : s ≤ l.length) : s * (l.length / s) = l.length := by
  have e := congrArg List.length h
  rw [flat_len, List.length_take, Nat.min_eq_left hs, Nat.mul_comm] at e
  exact e
theorem RootIs.one {α : Type} {l : List α} {s t : Nat} (a : RootIs l s) (b : RootIs l t) : s = t := by
  by_cases h : s < t
  · exact absurd a.rep (b.least s a.lo h)
  · by_cases g : t < s
    · exact absurd b.rep (a.least t b.lo g)
    · omega
theorem rep_all {α : Type} {l : List α} (h : 1 ≤ l.length) : Rep l l.length := by
  unfold Rep
  rw [Nat.div_self h, List.take_length]
  show [l].flatten = l
  simp
theorem flat_mul {α : Type} (x : List α) (k : Nat) : ∀ m : Nat, (List.replicate m (List.replicate k x).flatten).flatten = (List.replicate (m * k) x).flatten
  | 0 => by simp
  | m + 1 => by
    rw [List.replicate_succ, List.flatten_cons, flat_mul x k m, Nat.succ_mul, Nat.add_comm (m * k) k, ← List.replicate_append_replicate, List.flatten_append]
theorem root_again {α : Type} {l : List α} {s t : Nat} (a : RootIs l s) (b : RootIs (l.take s) t) : t = s := by
  have hl : (l.take s).length = s := by rw [List.length_take]; exact Nat.min_eq_left a.hi
  have ht : t ≤ s := by have := b.hi; rwa [hl] at this
  by_cases h : t < s
  · refine absurd ?_ (a.least t b.lo h)
    have r1 := a.rep
    have r2 := b.rep
    have m1 := Rep.many a.rep a.hi
    have m2 := Rep.many b.rep b.hi
    rw [hl] at m2
    unfold Rep at r1 r2 ⊢
    rw [hl] at r2
    have e1 : l.length / t = l.length / s * (s / t) := by
      have : l.length = t * (l.length / s * (s / t)) := by
        have h2 : t * (s / t) * (l.length / s) = l.length := by
          rw [m2]
          exact m1
        rw [Nat.mul_comm (l.length / s) (s / t), ← Nat.mul_assoc]
        exact h2.symm
      exact Nat.div_eq_of_eq_mul_right b.lo this
    have e2 : (l.take s).take t = l.take t := by rw [List.take_take, Nat.min_eq_left ht]
    rw [e2] at r2
    rw [e1, ← flat_mul, r2, r1]
  · omega
/-! ### turned -/
def rot {α : Type} (l : List α) (k : Nat) : List α := l.drop k ++ l.take k
theorem rot_len {α : Type} (l : List α) (k : Nat) : (rot l k).length = l.length := by
  unfold rot
  rw [List.length_append, List.length_drop, List.length_take]
  omega
theorem rot_at {α : Type} {l : List α} {k i : Nat} (hk : k < l.length) (hi : i < l.length) : (rot l k)[i]? = l[(i + k) % l.length]? := by
  unfold rot
  by_cases h : i < l.length - k
  · rw [List.getElem?_append_left (by rw [List.length_drop]; exact h), List.getElem?_drop, Nat.mod_eq_of_lt (by omega), Nat.add_comm]
  · rw [List.getElem?_append_right (by rw [List.length_drop]; omega), List.length_drop, List.getElem?_take_of_lt (by omega)]
    have : (i + k) % l.length = i - (l.length - k) := by
      rw [Nat.mod_eq_sub_mod (by omega), Nat.mod_eq_of_lt (by omega)]
      omega
    rw [this]
theorem rot_back {α : Type} {l : List α} {j k : Nat} (hk : k < l.length) (h : (j = 0 ∧ k = 0) ∨ j + k = l.length) : rot (rot l k) j = l := by
  rcases h with ⟨rfl, rfl⟩ | h
  · unfold rot
    simp
  · have hj : (l.drop k).length = j := by rw [List.length_drop]; omega
    show (rot l k).drop j ++ (rot l k).take j = l
    unfold rot
    rw [← hj, List.drop_left, List.take_left, List.take_append_drop]
/-! ### rules whose written part is named -/
def rLen2 (K : PySem.W.Frag) : List V → Hp → VK → Prop := fun xs H Q => ∃ p ys, xs = [.ref p] ∧ (SqL K H p ys ∨ SqT K H p ys) ∧ Q (.int ys.length) H
theorem call_lenK {X : Cx} (K : PySem.W.Frag) (h : X.K = K := by rfl) : CallR X (.builtin "len") (rLen2 K) := by
  subst h
  exact call_len_seq
theorem ix_tupK {X : Cx} (K : PySem.W.Frag) (h : X.K = K := by rfl) : IxR X (rIxT K) := by
  subst h
  exact ix_tup
theorem ix_listK {X : Cx} (K : PySem.W.Frag) (h : X.K = K := by rfl) : IxR X (rIxL K) := by
  subst h
  exact ix_list
end Gk
namespace Gk
open PySem PySem.Spec PyProof.Rows L2
/-! ### values of any kind: data with lists and dicts, away from what changes -/
mutual
inductive Dv (M : Addr → Prop) (K : PySem.W.Frag) (H : Hp) : V → PyData → Prop
  | non : Dv M K H .non .none
  | bl (b : Bool) : Dv M K H (.bl b) (.bool b)
  | int (i : Int) : Dv M K H (.int i) (.int i)
  | str (x : Str) : Dv M K H (.str x) (.str x)
  | lst {a : Addr} {xs : List V} {ds : List PyData} : H a = some (.lst xs) → ¬ M a → (a == sysModules) = false → DvAll M K H xs ds → Dv M K H (.ref a) (.list ds)
  | tup {a : Addr} {xs : List V} {ds : List PyData} : Rd H a (.tup xs) → ¬ M a → DvAll M K H xs ds → Dv M K H (.ref a) (.tuple ds)
  | tupK {a : Addr} {xs : List V} {ds : List PyData} : (∃ (o : Obj) (its : Array Value) (n : Nat), K.lookup a = some o ∧ o.cls = .type "tuple" ∧ o.data = .seq its n ∧ its.size ≤ sizeLine ∧ Vals xs its.toList) → DvAll M K H xs ds → Dv M K H (.ref a) (.tuple ds)
  | dct {a : Addr} {kvs : List (Key × V)} {ks : List Str} {xs : List V} {ds : List PyData} : H a = some (.dK kvs) → ¬ M a → kvs = (ks.map Sum.inr).zip xs → ks.length = ds.length → DvAll M K H xs ds →
      Dv M K H (.ref a) (.dict ((ks.map PyData.str).zip ds))
inductive DvAll (M : Addr → Prop) (K : PySem.W.Frag) (H : Hp) : List V → List PyData → Prop
  | nil : DvAll M K H [] []
  | cons {v : V} {vs : List V} {d : PyData} {ds : List PyData} : Dv M K H v d → DvAll M K H vs ds → DvAll M K H (v :: vs) (d :: ds)
end
/-- what does not belong to M stays -/
def Off (M : Addr → Prop) (H H' : Hp) : Prop := ∀ a o, ¬ M a → H a = some o → H' a = some o
theorem Off.refl {M : Addr → Prop} {H : Hp} : Off M H H := fun _ _ _ h => h
theorem Off.trans {M : Addr → Prop} {H H1 H2 : Hp} (x : Off M H H1) (y : Off M H1 H2) : Off M H H2 := fun a o n h => y a o n (x a o n h)
theorem Off.same {M : Addr → Prop} {H H' : Hp} (s : Same H H') : Off M H H' := fun a o _ h => s a o h
theorem Off.but {M : Addr → Prop} {H H' : Hp} {b : Addr} (s : But b H H') (hb : M b) : Off M H H' := fun a o n h => s a o (fun z => n (by rw [z]; exact hb)) h
theorem Off.mut {M : Addr → Prop} {H : Hp} {D : Addr} {o : HO} (hb : M D) : Off M H (upd H D o) := fun a u n h => by
  rw [upd_ne (fun z => n (by rw [z]; exact hb))]
  exact h
theorem Off.rd {M : Addr → Prop} {H H' : Hp} {a : Addr} {o : HO} (k : Off M H H') (n : ¬ M a) (h : Rd H a o) : Rd H' a o := h.elim (fun h => .inl (k _ _ n h)) fun ⟨ob, h⟩ => .inr ⟨ob, k _ _ n h⟩
theorem rd_some {H : Hp} {a : Addr} {o : HO} (h : Rd H a o) : ∃ u, H a = some u := h.elim (fun h => ⟨_, h⟩) fun ⟨ob, h⟩ => ⟨_, h⟩
mutual
theorem Dv.keep {M M' : Addr → Prop} {K : PySem.W.Frag} {H H' : Hp} (k : Off M H H') (m : ∀ a o, H a = some o → ¬ M a → ¬ M' a) : ∀ {v : V} {d : PyData}, Dv M K H v d → Dv M' K H' v d
  | _, _, .non => .non
  | _, _, .bl b => .bl b
  | _, _, .int i => .int i
  | _, _, .str x => .str x
  | _, _, .lst h n s r => .lst (k _ _ n h) (m _ _ h n) s (DvAll.keep k m r)
  | _, _, .tup h n r => .tup (k.rd n h) (let ⟨_, e⟩ := rd_some h; m _ _ e n) (DvAll.keep k m r)
  | _, _, .tupK h r => .tupK h (DvAll.keep k m r)
  | _, _, .dct h n e l r => .dct (k _ _ n h) (m _ _ h n) e l (DvAll.keep k m r)
theorem DvAll.keep {M M' : Addr → Prop} {K : PySem.W.Frag} {H H' : Hp} (k : Off M H H') (m : ∀ a o, H a = some o → ¬ M a → ¬ M' a) : ∀ {vs : List V} {ds : List PyData}, DvAll M K H vs ds → DvAll M' K H' vs ds
  | _, _, .nil => .nil
  | _, _, .cons h t => .cons (Dv.keep k m h) (DvAll.keep k m t)
end
section
variable {M : Addr → Prop} {K : PySem.W.Frag} {H H' : Hp}
theorem Dv.off {v : V} {d : PyData} (h : Dv M K H v d) (k : Off M H H') : Dv M K H' v d := h.keep k fun _ _ _ n => n
theorem DvAll.off {vs : List V} {ds : List PyData} (h : DvAll M K H vs ds) (k : Off M H H') : DvAll M K H' vs ds := h.keep k fun _ _ _ n => n
theorem DvAll.len : ∀ {vs : List V} {ds : List PyData}, DvAll M K H vs ds → vs.length = ds.length
  | _, _, .nil => rfl
  | _, _, .cons _ t => by rw [List.length_cons, List.length_cons, DvAll.len t]
theorem DvAll.take : ∀ {vs : List V} {ds : List PyData} (n : Nat), DvAll M K H vs ds → DvAll M K H (vs.take n) (ds.take n)
  | _, _, 0, _ => .nil
  | _, _, _ + 1, .nil => .nil
  | _, _, n + 1, .cons h t => .cons h (DvAll.take n t)
theorem DvAll.drop : ∀ {vs : List V} {ds : List PyData} (n : Nat), DvAll M K H vs ds → DvAll M K H (vs.drop n) (ds.drop n)
  | _, _, 0, h => h
  | _, _, _ + 1, .nil => .nil
  | _, _, n + 1, .cons _ t => DvAll.drop n t
theorem DvAll.app : ∀ {vs us : List V} {ds es : List PyData}, DvAll M K H vs ds → DvAll M K H us es → DvAll M K H (vs ++ us) (ds ++ es)
  | _, _, _, _, .nil, h => h
  | _, _, _, _, .cons h t, h2 => .cons h (DvAll.app t h2)
theorem DvAll.rev : ∀ {vs : List V} {ds : List PyData}, DvAll M K H vs ds → DvAll M K H vs.reverse ds.reverse
  | _, _, .nil => .nil
  | _, _, .cons h t => by
    rw [List.reverse_cons, List.reverse_cons]
    exact DvAll.app (DvAll.rev t) (.cons h .nil)
theorem DvAll.at : ∀ {vs : List V} {ds : List PyData} {i : Nat} {v : V}, DvAll M K H vs ds → vs[i]? = some v → ∃ d, ds[i]? = some d ∧ Dv M K H v d
  | _, _, _, _, .nil, h => by simp at h
  | _, _, 0, _, .cons h _, e => by
    obtain rfl := Option.some.inj e
    exact ⟨_, rfl, h⟩
  | _, _, i + 1, _, .cons _ t, e => DvAll.at (i := i) t (by simpa using e)
end
/-- the keys and the values of a dict's entries, as they are read -/
theorem pairs_reads {P : Program} {w : World} {h : Heap} : ∀ {es : List DictEntry} {ks : List Str} {xs : List V} {vs : List (Key × Value)} {us : List Value}, ks.length = xs.length → KV ((ks.map Sum.inr).zip xs) vs → Pairs (mixKind P w) es vs →
    (∃ us, Vals xs us ∧ es.map (·.val) = us) ∧ ReadsAll h (es.map (·.key)) (ks.map PyData.str) []
  | es, [], [], vs, us, _, r, p => by
    cases r
    cases p
    exact ⟨⟨[], .nil, rfl⟩, .nil⟩
  | es, k :: ks, x :: xs, vs, us, l, r, p => by
    cases r with
    | cons r1 r2 =>
      cases p with
      | cons p1 p2 p3 =>
        obtain ⟨⟨us', v', e'⟩, rd⟩ := pairs_reads (us := []) (by simpa using l) r2 p3
        obtain ⟨r1a, r1b⟩ := r1
        refine ⟨⟨_ :: us', .cons r1b v', by rw [List.map_cons, e', p2]⟩, ?_⟩
        rw [← r1a] at p1
        have p1' : Value.isStrOf k _ = true := p1
        obtain ⟨t, et⟩ := Value.isStrOf_shape p1'
        rw [List.map_cons, List.map_cons, et]
        exact ReadsAll.cons (as := []) (bs := []) (Reads.str k t) rd
  | _, [], _ :: _, _, _, l, _, _ => by simp at l
  | _, _ :: _, [], _, _, l, _, _ => by simp at l
section
variable {X : Cx} {M : Addr → Prop} {pins : List (Addr × Obj)} {σ : L2.St} {H : Hp} {s : Shared}
mutual
theorem Dv.reads (I : Inv X pins σ H s) : ∀ {v : V} {d : PyData} {u : Value}, Dv M X.K H v d → RelV v u → ∃ as, Reads s.heap u d as ∧ sysModules ∉ as
  | _, _, u, .non, r => by cases r; exact ⟨[], .none, fun z => nomatch z⟩
  | _, _, u, .bl b, r => by cases r; exact ⟨[], .bool b, fun z => nomatch z⟩
  | _, _, u, .int i, r => by obtain ⟨t, rfl⟩ := r; exact ⟨[], .int i t, fun z => nomatch z⟩
  | _, _, u, .str x, r => by obtain ⟨t, rfl⟩ := r; exact ⟨[], .str x t, fun z => nomatch z⟩
  | _, _, u, .lst (a := a) h n sm ra, r => by
    cases r
    obtain ⟨hz, its, k, rv, ho⟩ := I.hok _ _ h
    obtain ⟨as, rd, na⟩ := DvAll.reads I ra rv
    refine ⟨a :: as, .list ho rfl rfl (by simpa using rd), fun z => ?_⟩
    rcases List.mem_cons.mp z with z | z
    · rw [z] at sm
      exact absurd sm (by simp)
    · exact na z
  | _, _, u, .tup h n ra, r => by
    cases r
    obtain ⟨its, rv, ⟨o, ho, hc, k, hd⟩, _⟩ := I.tuple (.inl h)
    obtain ⟨as, rd, na⟩ := DvAll.reads I ra rv
    exact ⟨as, .tuple ho hc hd (by simpa using rd), na⟩
  | _, _, u, .tupK h ra, r => by
    cases r
    obtain ⟨its, rv, ⟨o, ho, hc, k, hd⟩, _⟩ := I.tuple (.inr h)
    obtain ⟨as, rd, na⟩ := DvAll.reads I ra rv
    exact ⟨as, .tuple ho hc hd (by simpa using rd), na⟩
  | _, _, u, .dct (a := a) (ks := ks) (xs := xs) h n e l ra, r => by
    cases r
    obtain ⟨hz, sm, vs, kv, o, es, ep, ho, ex, hd, _, ps, _⟩ := I.hok _ _ h
    rw [e] at kv
    have hl := DvAll.len ra
    obtain ⟨⟨us, vu, eu⟩, rk⟩ := pairs_reads (P := X.prog) (w := X.w) (h := s.heap) (us := []) (l.trans hl.symm) kv ps
    obtain ⟨as, rd, na⟩ := DvAll.reads I ra vu
    rw [← eu] at rd
    refine ⟨a :: [] ++ as, .dict ho ex.1 hd ?_ ?_, fun z => ?_⟩
    · rw [List.map_fst_zip (by rw [List.length_map]; omega)]
      exact rk
    · rw [List.map_snd_zip (by rw [List.length_map]; omega)]
      exact rd
    · rcases List.mem_cons.mp z with z | z
      · rw [z] at sm
        exact absurd sm (by simp)
      · exact na z
theorem DvAll.reads (I : Inv X pins σ H s) : ∀ {vs : List V} {ds : List PyData} {us : List Value}, DvAll M X.K H vs ds → Vals vs us → ∃ as, ReadsAll s.heap us ds as ∧ sysModules ∉ as
  | _, _, _, .nil, r => by cases r; exact ⟨[], .nil, fun z => nomatch z⟩
  | _, _, _, .cons h t, r => by
    cases r with
    | cons r1 r2 =>
      obtain ⟨as, q1, n1⟩ := Dv.reads I h r1
      obtain ⟨bs, q2, n2⟩ := DvAll.reads I t r2
      exact ⟨as ++ bs, .cons q1 q2, fun z => (List.mem_append.mp z).elim n1 n2⟩
end
end
end Gk
namespace Gk
open PySem PySem.Spec PyProof.Rows L2
mutual
def fin : PyData → Nat → Bool
  | .none, _ | .bool _, _ => true
  | .int i, B => decide (i.natAbs ≤ B)
  | .str x, _ => x.cps.all (· < 0x110000)
  | .list xs, B | .tuple xs, B => finAll xs B
  | .dict kvs, B => finKv kvs B
def finAll : List PyData → Nat → Bool
  | [], _ => true
  | x :: xs, B => fin x B && finAll xs B
def finKv : List (PyData × PyData) → Nat → Bool
  | [], _ => true
  | (k, v) :: r, B => fin k B && fin v B && finKv r B
end
mutual
def big : PyData → Nat
  | .none | .bool _ | .int _ => 70
  | .str x => x.cps.size + 1
  | .list xs | .tuple xs => bigAll xs
  | .dict kvs => bigKv kvs
def bigAll : List PyData → Nat
  | [] => 1
  | x :: xs => big x + 1 + bigAll xs
def bigKv : List (PyData × PyData) → Nat
  | [] => 1
  | (k, v) :: r => big k + big v + 2 + bigKv r
end
mutual
theorem fin_facts {B : Nat} (hB : B < 10 ^ 20) : ∀ d : PyData, fin d B = true → d.showable = true ∧ d.leavesShort 21 = true ∧ d.weight ≤ big d
  | .none, _ => ⟨rfl, rfl, Nat.zero_le _⟩
  | .bool _, _ => ⟨rfl, rfl, Nat.zero_le _⟩
  | .int i, h => by
    simp only [fin, decide_eq_true_eq] at h
    have h1 := int_log20 (c := i) (by omega)
    have h2 := int_len20 (c := i) (by omega)
    refine ⟨?_, ?_, ?_⟩
    · simp only [PyData.showable]
      exact decide_eq_true (by omega)
    · simp only [PyData.leavesShort]
      exact decide_eq_true h2
    · simp only [PyData.weight, big]
      split <;> omega
  | .str x, h => by
    have h1 : tame (.str x) = true := by simpa only [fin, tame] using h
    exact ⟨rfl, tame_short _ h1, by simp only [PyData.weight, big]; omega⟩
  | .list xs, h => by
    have := fin_factsAll hB xs (by simpa only [fin] using h)
    simpa only [PyData.showable, PyData.leavesShort, PyData.weight, big] using this
  | .tuple xs, h => by
    have := fin_factsAll hB xs (by simpa only [fin] using h)
    simpa only [PyData.showable, PyData.leavesShort, PyData.weight, big] using this
  | .dict kvs, h => by
    have := fin_factsKv hB kvs (by simpa only [fin] using h)
    simpa only [PyData.showable, PyData.leavesShort, PyData.weight, big] using this
theorem fin_factsAll {B : Nat} (hB : B < 10 ^ 20) : ∀ ds : List PyData, finAll ds B = true → PyData.showableAll ds = true ∧ PyData.leavesShortAll 21 ds = true ∧ PyData.weightAll ds ≤ bigAll ds
  | [], _ => ⟨rfl, rfl, Nat.zero_le _⟩
  | x :: xs, h => by
    simp only [finAll, Bool.and_eq_true] at h
    obtain ⟨a1, a2, a3⟩ := fin_facts hB x h.1
    obtain ⟨b1, b2, b3⟩ := fin_factsAll hB xs h.2
    refine ⟨by simp only [PyData.showableAll, a1, b1, Bool.and_self], by simp only [PyData.leavesShortAll, a2, b2, Bool.and_self], ?_⟩
    simp only [PyData.weightAll, bigAll]
    omega
theorem fin_factsKv {B : Nat} (hB : B < 10 ^ 20) : ∀ kvs : List (PyData × PyData), finKv kvs B = true → PyData.showableKv kvs = true ∧ PyData.leavesShortKv 21 kvs = true ∧ PyData.weightKv kvs ≤ bigKv kvs
  | [], _ => ⟨rfl, rfl, Nat.zero_le _⟩
  | (k, v) :: r, h => by
    simp only [finKv, Bool.and_eq_true] at h
    obtain ⟨a1, a2, a3⟩ := fin_facts hB k h.1.1
    obtain ⟨c1, c2, c3⟩ := fin_facts hB v h.1.2
    obtain ⟨b1, b2, b3⟩ := fin_factsKv hB r h.2
    refine ⟨by simp only [PyData.showableKv, a1, b1, c1, Bool.and_self], by simp only [PyData.leavesShortKv, a2, b2, c2, Bool.and_self], ?_⟩
    simp only [PyData.weightKv, bigKv]
    omega
end
/-- data that may be shown, of any kind -/
structure Show (d : PyData) : Prop where
  a : d.showable = true
  c : d.depth ≤ 40
  e : d.shown.length ≤ sizeLine
theorem Show.of {d : PyData} {B : Nat} (hB : B < 10 ^ 20) (h : fin d B = true) (hd : d.depth ≤ 40) (hc : big d ≤ 500000) : Show d := by
  obtain ⟨a1, a2, a3⟩ := fin_facts hB d h
  refine ⟨a1, hd, ?_⟩
  have h1 := PyData.shown_le 21 (by decide) d a2
  have h3 : sizeLine = 16777216 := sizeLine_eq
  omega
theorem call_reprV {X : Cx} {k : Nat} (M : Addr → Prop) (hr : Room k X.A) (hg : X.A.guards = some []) : CallR X (.builtin "repr") (fun xs H Q => ∃ v d, xs = [v] ∧ Dv M X.K H v d ∧ Show d ∧ Q (.str d.shown) H) := by
  intro pins s σ H xs us Q I r h
  obtain ⟨v, d, rfl, hd, sh, q⟩ := h
  obtain ⟨u, rfl, ru⟩ := vals1 r
  have hun := hr.units
  have hc := sh.c
  obtain ⟨as, rd, na⟩ := Dv.reads I hd ru
  cases hd with
  | non =>
    cases ru
    exact PySem.P.repr_of_none ⟨.str _, H, I.tok _, ⟨_, rfl⟩, q⟩
  | bl b =>
    cases ru
    exact PySem.P.repr_of_bool ⟨.str _, H, I.tok _, ⟨_, rfl⟩, q⟩
  | int i =>
    obtain ⟨t, rfl⟩ := ru
    exact PySem.P.repr_of_int (of_decide_eq_true sh.a) ⟨.str _, H, I.tok _, ⟨_, rfl⟩, q⟩
  | str x =>
    obtain ⟨t, rfl⟩ := ru
    exact PySem.P.repr_of_str ⟨.str _, H, I.tok _, ⟨_, rfl⟩, q⟩ sh.e
  | lst _ _ _ _ =>
    cases ru
    exact repr_of_reads' rd sh.a (fun _ => na) hg (by omega) (fun _ _ e => e) (fun h' t tk hk => ⟨.str _, H, I.kept (t' := tk) hk, ⟨_, rfl⟩, q⟩) sh.e
  | tupK _ _ =>
    cases ru
    exact repr_of_reads' rd sh.a (fun _ => na) hg (by omega) (fun _ _ e => e) (fun h' t tk hk => ⟨.str _, H, I.kept (t' := tk) hk, ⟨_, rfl⟩, q⟩) sh.e
  | tup _ _ _ =>
    cases ru
    exact repr_of_reads' rd sh.a (fun _ => na) hg (by omega) (fun _ _ e => e) (fun h' t tk hk => ⟨.str _, H, I.kept (t' := tk) hk, ⟨_, rfl⟩, q⟩) sh.e
  | dct _ _ _ _ _ =>
    cases ru
    exact repr_of_reads' rd sh.a (fun _ => na) hg (by omega) (fun _ _ e => e) (fun h' t tk hk => ⟨.str _, H, I.kept (t' := tk) hk, ⟨_, rfl⟩, q⟩) sh.e
/-- a list of written items, its place told apart from the table of modules -/
def tLstN (t : TA) : TE := fun σ H Q => t σ H fun xs H1 => xs.length ≤ sizeLine ∧ ∀ p, H1 p = none → (p == sysModules) = false → Q (.ref p) (upd H1 p (.lst xs))
theorem not_modules {X : Cx} {pins : List (Addr × Obj)} {σ : L2.St} {H : Hp} {s : Shared} (I : Inv X pins σ H s) : (s.heap.objs.size == sysModules) = false := beq_eq_false_iff_ne.mpr (Nat.ne_of_gt I.big)
theorem pe_lstN {X : Cx} {es : List Expr} {t : TA} {pos : Pos} (h : PA X es t) : PE X (.List es pos) (tLstN t) :=
  ⟨fun pins s σ H Q I hq => wpAny_List_spliced (thn (h.run pos pins s σ H _ I hq) fun us s1 ⟨xs, H1, I1, r, z, q⟩ => ⟨by rw [← r.length]; exact z, .ref s1.heap.objs.size, upd H1 s1.heap.objs.size (.lst xs),
    I1.laid (t' := s1.toks) (fun b u e => Heap.get?_push_of_some _ e) (Nat.le_refl _) ⟨z, us, 0, r, Heap.get?_push_size _ rfl⟩, rfl, q _ (I1.hok.fresh (Nat.le_refl _)) (not_modules I1)⟩)⟩
/-- what isinstance says of such a value -/
def tyD : PyData → Value
  | .none => .type "NoneType"
  | .bool _ => .type "bool"
  | .int _ => .type "int"
  | .str _ => .type "str"
  | .list _ => .type "list"
  | .tuple _ => .type "tuple"
  | .dict _ => .type "dict"
theorem Dv.ty {M : Addr → Prop} {K : PySem.W.Frag} {H : Hp} {v : V} {d : PyData} (h : Dv M K H v d) : TyX K H v (tyD d) := by
  cases h with
  | non => exact .base .non
  | bl b => exact .base (.bl b)
  | int i => exact .base (.int i)
  | str x => exact .base (.str x)
  | lst h _ _ _ => exact .base (.lst h)
  | tup h _ _ =>
    rcases h with h | ⟨o, h⟩
    · exact .base (.tup h)
    · exact .fTuple h
  | tupK h _ =>
    obtain ⟨o, _, _, e, c, _⟩ := h
    exact .kTuple e c
  | dct h _ _ _ _ => exact .base (.dK h)
def isTup : PyData → Bool
  | .tuple _ => true
  | _ => false
def isIn : PyData → Bool
  | .int _ | .bool _ => true
  | _ => false
def isBo : PyData → Bool
  | .bool _ => true
  | _ => false
theorem kit_tup {K : PySem.W.Frag} (d : PyData) : PySem.W.kitOne K (tyD d) (.type "tuple") = some (isTup d) := by
  have t : ∀ x ∈ ["NoneType", "bool", "int", "str", "list", "dict"], kitB x "tuple" = some false := by decide +kernel
  cases d with
  | none => exact L2.kit_ty (t "NoneType" (by decide))
  | bool _ => exact L2.kit_ty (t "bool" (by decide))
  | int _ => exact L2.kit_ty (t "int" (by decide))
  | str _ => exact L2.kit_ty (t "str" (by decide))
  | list _ => exact L2.kit_ty (t "list" (by decide))
  | dict _ => exact L2.kit_ty (t "dict" (by decide))
  | tuple _ => exact L2.kit_ty (show kitB "tuple" "tuple" = some true by decide +kernel)
theorem kit_int {K : PySem.W.Frag} (d : PyData) : PySem.W.kitOne K (tyD d) (.type "int") = some (isIn d) := by
  have t : ∀ x ∈ ["NoneType", "str", "list", "tuple", "dict"], kitB x "int" = some false := by decide +kernel
  have u : ∀ x ∈ ["bool", "int"], kitB x "int" = some true := by decide +kernel
  cases d with
  | none => exact L2.kit_ty (t "NoneType" (by decide))
  | bool _ => exact L2.kit_ty (u "bool" (by decide))
  | int _ => exact L2.kit_ty (u "int" (by decide))
  | str _ => exact L2.kit_ty (t "str" (by decide))
  | list _ => exact L2.kit_ty (t "list" (by decide))
  | dict _ => exact L2.kit_ty (t "dict" (by decide))
  | tuple _ => exact L2.kit_ty (t "tuple" (by decide))
theorem kit_bool {K : PySem.W.Frag} (d : PyData) : PySem.W.kitOne K (tyD d) (.type "bool") = some (isBo d) := by
  have t : ∀ x ∈ ["NoneType", "int", "str", "list", "tuple", "dict"], kitB x "bool" = some false := by decide +kernel
  cases d with
  | none => exact L2.kit_ty (t "NoneType" (by decide))
  | int _ => exact L2.kit_ty (t "int" (by decide))
  | str _ => exact L2.kit_ty (t "str" (by decide))
  | list _ => exact L2.kit_ty (t "list" (by decide))
  | dict _ => exact L2.kit_ty (t "dict" (by decide))
  | tuple _ => exact L2.kit_ty (t "tuple" (by decide))
  | bool _ => exact L2.kit_ty (show kitB "bool" "bool" = some true by decide +kernel)
end Gk
namespace Gk
open PySem PySem.Spec PyProof.Rows L2
/-! ### expressions that make data -/
theorem same_new2 {H : Hp} {p : Addr} {o o' : HO} (h : H p = none) : Same H (upd (upd H p o) p o') := fun a u e => by
  rw [upd_ne (ne_of_none e h), upd_ne (ne_of_none e h)]; exact e
/-- what M speaks of stands on the heap -/
def Stands (M : Addr → Prop) (H : Hp) : Prop := ∀ a, M a → ∃ o, H a = some o
theorem Stands.same {M : Addr → Prop} {H H' : Hp} (h : Stands M H) (s : Same H H') : Stands M H' := fun a m => by
  obtain ⟨o, e⟩ := h a m
  exact ⟨o, s _ _ e⟩
theorem Stands.new {M : Addr → Prop} {H : Hp} {p : Addr} (h : Stands M H) (n : H p = none) : ¬ M p := fun m => by
  obtain ⟨o, e⟩ := h p m
  rw [n] at e; cases e
def Mk (M : Addr → Prop) (K : PySem.W.Frag) (t : TE) (σ : L2.St) (H0 : Hp) (d : PyData) : Prop :=
  ∀ (H : Hp) (M' : Addr → Prop) (Q : VK), Same H0 H → (∀ a, M a → M' a) → (∀ a, M' a → M a ∨ H0 a = none) → Stands M' H → (∀ v H', Same H H' → Dv M' K H' v d → Q v H') → t σ H Q
def MkA (M : Addr → Prop) (K : PySem.W.Frag) (t : TA) (σ : L2.St) (H0 : Hp) (ds : List PyData) : Prop :=
  ∀ (H : Hp) (M' : Addr → Prop) (Q : List V → Hp → Prop), Same H0 H → (∀ a, M a → M' a) → (∀ a, M' a → M a ∨ H0 a = none) → Stands M' H → (∀ vs H', Same H H' → DvAll M' K H' vs ds → Q vs H') → t σ H Q
theorem none_of {H H' : Hp} {p : Addr} (s : Same H H') (n : H' p = none) : H p = none := by
  cases e : H p with
  | none => rfl
  | some o => rw [s _ _ e] at n; cases n
section
variable {M : Addr → Prop} {K : PySem.W.Frag} {σ : L2.St} {H0 : Hp}
theorem mk_c {v : V} {d : PyData} (h : ∀ M H, Dv M K H v d) : Mk M K (tC v) σ H0 d := fun H M' Q s u w z q => q _ _ (Same.refl _) (h M' H)
theorem mk_int {i : Int} : Mk M K (tC (.int i)) σ H0 (.int i) := mk_c fun _ _ => .int i
theorem mk_str {x : Str} : Mk M K (tC (.str x)) σ H0 (.str x) := mk_c fun _ _ => .str x
theorem mk_non : Mk M K (tC .non) σ H0 .none := mk_c fun _ _ => .non
theorem mk_bl {b : Bool} : Mk M K (tC (.bl b)) σ H0 (.bool b) := mk_c fun _ _ => .bl b
theorem mk_neg {i : Int} : Mk M K (tUn (rU fun i => .int (-i)) (tC (.int i))) σ H0 (.int (-i)) := fun H M' Q s u w z q => ⟨_, rfl, q _ _ (Same.refl _) (.int _)⟩
theorem mk_pow {i j : Int} (c : CPow i j) : Mk M K (tOp (rI CPow fun i j => .int (i ^ j.toNat)) (tC (.int i)) (tC (.int j))) σ H0 (.int (i ^ j.toNat)) :=
  fun H M' Q s u w z q => ⟨_, _, rfl, rfl, c, q _ _ (Same.refl _) (.int _)⟩
theorem mk_var {i : Nat} {v : V} {d : PyData} (e : σ[i]? = some (some v)) (h : Dv M K H0 v d) : Mk M K (tVar i) σ H0 d := fun H M' Q s u w z q =>
  ⟨v, e, q _ _ (Same.refl _) (h.keep (Off.same s) fun a o ea na ma => (w a ma).elim na fun en => by rw [ea] at en; cases en)⟩
theorem mkA_nil : MkA M K tNil σ H0 [] := fun H M' Q s u w z q => q _ _ (Same.refl _) .nil
theorem mkA_cons {t : TE} {r : TA} {d : PyData} {ds : List PyData} (h : Mk M K t σ H0 d) (hr : MkA M K r σ H0 ds) : MkA M K (tCons t r) σ H0 (d :: ds) := fun H M' Q s u w z q =>
  h H M' _ s u w z fun v H1 s1 e1 => hr H1 M' _ (s.trans s1) u w (z.same s1) fun vs H2 s2 e2 => q _ _ (s1.trans s2) (.cons (e1.off (Off.same s2)) e2)
theorem mk_tup {t : TA} {ds : List PyData} (h : MkA M K t σ H0 ds) (l : ds.length ≤ 1000) : Mk M K (tTup t) σ H0 (.tuple ds) := fun H M' Q s u w z q =>
  h H M' _ s u w z fun vs H1 s1 e1 => ⟨by rw [e1.len, sizeLine_eq]; omega, fun p n => q _ _ (s1.trans (same_new n)) (.tup (.inl upd_same) ((z.same s1).new n) (e1.off (Off.same (same_new n))))⟩
theorem mk_lst {t : TA} {ds : List PyData} (h : MkA M K t σ H0 ds) (l : ds.length ≤ 1000) : Mk M K (tLstN t) σ H0 (.list ds) := fun H M' Q s u w z q =>
  h H M' _ s u w z fun vs H1 s1 e1 => ⟨by rw [e1.len, sizeLine_eq]; omega, fun p n y => q _ _ (s1.trans (same_new n)) (.lst upd_same ((z.same s1).new n) y (e1.off (Off.same (same_new n))))⟩
theorem mk_dct {t : TE} {k : Str} {d : PyData} (h : Mk M K t σ H0 d) : Mk M K (tDisp [(tC (.str k), t)]) σ H0 (.dict [(.str k, d)]) := fun H M' Q s u w z q => by
  intro p n
  show t σ _ _
  refine h _ (fun a => M' a ∨ a = p) _ (s.trans (same_new n)) (fun a ma => .inl (u a ma)) (fun a ma => ma.elim (w a) fun e => .inr (by rw [e]; exact none_of s n)) (fun a ma => ?_) fun v H1 s1 e1 => ?_
  · rcases ma with ma | rfl
    · obtain ⟨o, e⟩ := z a ma
      exact ⟨o, same_new n _ _ e⟩
    · exact ⟨_, upd_same⟩
  · have hp : H1 p = some (.dK []) := s1 _ _ upd_same
    have sm : Same H (upd H1 p (.dK [(Sum.inr k, v)])) := fun a o e => by
      rw [upd_ne (ne_of_none e n)]
      exact s1 _ _ (same_new n _ _ e)
    refine ⟨hp, [(Sum.inr k, v)], rfl, by show 1 ≤ 15; decide, q _ _ sm ?_⟩
    exact Dv.dct (ks := [k]) (xs := [v]) (ds := [d]) upd_same (z.new n) rfl rfl (.cons (e1.keep (Off.mut (.inr rfl)) fun a o _ na ma => na (.inl ma)) .nil)
theorem mk_dct0 : Mk M K tDNewK σ H0 (.dict []) := fun H M' Q s u w z q => by
  intro p n
  exact q _ _ (same_new n) (.dct (ks := []) (xs := []) (ds := []) upd_same (z.new n) rfl rfl .nil)
/-- a list of made things -/
theorem mk_some {t : TA} {ds : List PyData} {Q : VK} (h : MkA M K t σ H0 ds) (z : Stands M H0) (l : ds.length ≤ 1000) (q : ∀ p xs H', Same H0 H' → H0 p = none → H' p = some (.lst xs) → DvAll M K H' xs ds → xs.length = ds.length → Q (.ref p) H') : tLst t σ H0 Q :=
  h H0 M _ (Same.refl _) (fun _ m => m) (fun _ m => .inl m) z fun vs H1 s1 e1 => ⟨by rw [e1.len, sizeLine_eq]; omega, fun p n => q p vs _ (s1.trans (same_new n)) (none_of s1 n) upd_same (e1.off (Off.same (same_new n))) e1.len⟩
end
end Gk
namespace Gk
open PySem PySem.Spec PyProof.Rows L2
/-! ### sets of ints made by a comprehension -/
section
variable {X : Cx}
/-- {elt for target in iter}: D is the new set -/
def tSi (w : World) (src : TI) (g : TG) (te : TE) (own : List Nat) : TE := fun σ H Q => src σ H fun J G => ∀ D, G D = none → ∃ Stage : Nat → Nat → Hp → Prop,
  (∃ k, Stage 0 k (upd G D (L2.SetO w D (fun _ => false) 0))) ∧ ∀ i k G', Stage i k G' → (J.stop i G' ∧ Q (.ref D) G') ∨
    (J.go i G' ∧ ∃ After : Hp → Prop, (∀ G2, After G2 → ∃ j, j < k ∧ Stage (i + 1) j G2) ∧ ∀ x G2, J.yld i G' x G2 → g x (wipe σ own) G2 fun τ G3 => wipe τ own = wipe σ own ∧
      te τ G3 fun y G4 => ∃ (c : Int) (S : Int → Bool) (n : Nat), y = .int c ∧ G4 D = some (L2.SetO w D S n) ∧ n + 1 < scanBound ∧ After (upd G4 D (L2.SetO w D (fun j => S j || decide (j = c)) (if S c = true then n else n + 1))))
theorem pe_si {elt tg iter : Expr} {scope : Scope} {own : List (PySem.Str × Nat)} {pos : Pos} {src : TI} {g : TG} {te : TE} (calm : X.calm = true) (nd : X.N.Nodup) (walk : PI X tg iter src) (blk : BlkOk X.N X.env.scope scope own)
    (put : ∀ (s : Shared) (G : Hp) (C : Addr) (cl : List (PySem.Str × Addr)) (fp : List Addr), PG (X.blk s G scope (compEnvC scope cl C X.env) fp) tg g)
    (val : ∀ (s : Shared) (G : Hp) (C : Addr) (cl : List (PySem.Str × Addr)) (fp : List Addr), PE (X.blk s G scope (compEnvC scope cl C X.env) fp) elt te)
    (plain : ∀ x, foldedSetIterable iter X.env x = pure x := by intro _; rfl) : PE X (.SetComp elt [⟨tg, iter, [], 0⟩] scope pos) (tSi X.w src g te (own.map (·.2))) := by
  refine ⟨fun pins s σ H Q inv want => ?_⟩
  rw [PpSet.eval_SetComp]
  have free : ∀ y ∈ scope.names, y.2 = .free → ∃ c, X.env.cells.lookup y.1 = some c := fun y hy e =>
    (blk.free y hy e).elim (fun k => inv.ok.has _ (.inl k)) fun k => inv.ok.has _ (.inr k)
  refine wpAny_comprehension_free (use := none) rfl plain (closure_ok free) blk.kind (fun y hy e => by rw [blk.uniq y hy, e]) (thn (walk.run pins s σ H _ inv want) fun xv s1 got => thn got fun itv a have2 => ?_)
  obtain ⟨it, fp, tn, J, G, rfl, invA, T, stA, frA, go⟩ := have2
  refine PpSet.newSet_ok (newEnv_comp ?_)
  generalize eD : a.heap.objs.size = D
  have D0 : G D = none := invA.hok.fresh (Nat.le_of_eq eD)
  obtain ⟨Stage, ⟨k0, first⟩, turn⟩ := go D D0
  generalize eNew : ({ cls := .type "set", dict := none, data := .set #[] 0 (.fresh 0 0 (!X.w.params.followText "set-order")) } : Obj) = new
  generalize eB : ({ a with heap := a.heap.push new } : Shared) = b
  have hB : b.heap = a.heap.push new := by rw [← eB]
  have keepB : ∀ (c : Addr) (o : Obj), a.heap.get? c = some o → b.heap.get? c = some o := fun c o e => by rw [hB]; exact Heap.get?_push_of_some _ e
  have made : SetR X.w b.heap D (fun _ => false) 0 := by
    rw [hB, ← eNew, ← eD]
    exact setR_fresh X.w
  have invB : L2.Inv X pins σ (upd G D (L2.SetO X.w D (fun _ => false) 0)) b := by
    rw [← eB]
    refine invA.laid (t' := a.toks) (fun c o e => Heap.get?_push_of_some _ e) (Nat.le_of_eq eD) ?_
    have := L2.setO_new (P := X.prog) (H := upd G D (L2.SetO X.w D (fun _ => false) 0)) made
    rwa [hB] at this
  have small : ∀ c ∈ fp, c < a.heap.objs.size := fun c hc => let ⟨o, e, _⟩ := T.obj _ _ stA c hc; Heap.lt_size e
  have frB : ∀ c ∈ fp, FpOk X pins (upd G D (L2.SetO X.w D (fun _ => false) 0)) c ∧ c < b.heap.objs.size := fun c hc => by
    have lt := small c hc
    refine ⟨⟨?_, (frA c hc).2⟩, by rw [hB, Heap.size_push]; exact Nat.lt_succ_of_lt lt⟩
    rw [upd_ne (show c ≠ D by rw [← eD]; exact Nat.ne_of_lt lt)]
    exact (frA c hc).1
  have stB : tn 0 b.heap := T.keep _ _ _ stA fun c _ o e => keepB c o e
  generalize eG : upd G D (L2.SetO X.w D (fun _ => false) 0) = GB at first invB frB
  have invC := block_start invB blk nd frB
  have free0 : ∀ c ∈ fp, GB c = none := fun c hc => (frB c hc).1.1
  generalize eCl : cellsFrom (b.heap.objs.size + 1) scope.names (cloFrom X.env.cells scope.names []) = cl at invC
  have aim := put b GB b.heap.objs.size cl fp
  have made2 := val b GB b.heap.objs.size cl fp
  show codeAny (model X.prog X.w) X.A (.compStart (.SetComp elt [⟨tg, iter, [], 0⟩] scope pos) 0 (.ref it) (.ref D) (compEnvC scope cl b.heap.objs.size X.env)) (compPost (model X.prog X.w) X.A X.xe none (EP X pins σ Q) (.ref D) b.heap.objs.size) { b with heap := pushCells (b.heap.push { cls := .type "dict", data := .dict #[] }) scope.names }
  generalize eCe : compEnvC scope cl b.heap.objs.size X.env = ce at invC aim made2 ⊢
  have place : ce.locals = b.heap.objs.size := by rw [← eCe]; rfl
  generalize eC : ({ b with heap := pushCells (b.heap.push { cls := .type "dict", data := .dict #[] }) scope.names } : Shared) = c0 at invC ⊢
  have stC : tn 0 c0.heap := T.keep _ _ _ stB fun c _ o e => by
    rw [← eC]
    exact pushCells_keeps _ _ _ _ (Heap.get?_push_of_some _ e)
  have inside : ∀ {τ : L2.St} {G' : Hp} {s' : Shared}, L2.Inv (X.blk b GB scope ce fp) [] τ G' s' → (∀ c ∈ fp, G' c = none) → ∀ c ∈ fp, FpOk (X.blk b GB scope ce fp) [] G' c := fun {τ G' s'} inv' no c hc =>
    ⟨no c hc, (inv'.ok.exf c hc).1, inv'.ok.exfs c hc, .inl hc, fun x d e => (inv'.ok.exf c hc).2 x d e, fun p hp => absurd (show p ∈ ([] : List (Addr × Obj)) ++ [] from hp) (by simp)⟩
  have whole : codeAny (model X.prog X.w) X.A (.compLoop (.SetComp elt [⟨tg, iter, [], 0⟩] scope pos) 0 (.ref it) (.ref D) ce) (compPost (model X.prog X.w) X.A X.xe none (EP X pins σ Q) (.ref D) b.heap.objs.size) c0 := by
    refine PpSet.compLoopS_any (fun k s' => ∃ i G', L2.Inv (X.blk b GB scope ce fp) [] (wipe σ (own.map (·.2))) G' s' ∧ tn i s'.heap ∧ (∀ c ∈ fp, G' c = none) ∧ Stage i k G') (fun k s5 now => ?_) k0 ⟨0, GB, invC, stC, free0, first⟩
    obtain ⟨i, G5, inv5, st5, no5, stage⟩ := now
    rcases turn i k G5 stage with ⟨stop, fin⟩ | ⟨more, After, less, step⟩
    · refine thnF (T.done (X.blk b GB scope ce fp) rfl rfl rfl calm i [] s5 _ G5 (fun _ _ => False) inv5 (inside inv5 no5) st5 stop) fun r s6 ⟨hr, inv6⟩ => ?_
      subst hr
      have out := invB.call' (ch := fp) inv6.os inv6.base inv6.hok inv6.bare fun c hc => ⟨(frB c hc).1.2.2.2.1, (frB c hc).1.2.1, (frB c hc).1.2.2.2.2.1, (frB c hc).1.2.2.2.2.2⟩
      have nC : G5 b.heap.objs.size = none := by
        have z : G5 ce.locals = none := inv6.free
        rwa [place] at z
      obtain ⟨names, hm, _⟩ := inv6.loc
      have hm : s6.heap.Ns ce.locals names := hm
      rw [place] at hm
      obtain ⟨f0, f1, _, f3, f4, f5⟩ := invB.fpOk (Nat.le_refl _) nC
      exact ⟨names, hm, fun h2 sb => ⟨.ref D, G5, out.turned (t' := s6.toks) (fun c o hc e => (sb.2 c hc).trans e) f0 f1 f3 f4 f5, rfl, fin⟩⟩
    · refine thnF (T.item (X.blk b GB scope ce fp) rfl rfl rfl calm i [] s5 _ G5 (fun _ _ => False) inv5 (inside inv5 no5) st5 more) fun r s6 ⟨u, hr, h6⟩ => ?_
      subst hr
      refine thnF h6 fun _ s7 ⟨x, G7, inv7, rx, y7, st7, no7⟩ => ?_
      refine thnF (aim.run _ s7 _ G7 x u _ (inv7.pinned (inside inv7 no7) (T.obj _ _ st7)) rx (step x G7 y7)) fun _ s8 ⟨τ, G8, inv8, same8, q8⟩ => ?_
      show wpAny _ _ (pure true) _ _ s8
      refine wpAny_pure ?_
      simp only [if_true]
      refine thnF (made2.run _ s8 τ G8 _ inv8 q8) fun z s9 ⟨yv, G9, inv9, rz, c, S, n, ey, hD9, room, aft⟩ => ?_
      subst ey
      refine thnF (L2.mt_sadd (X := X.blk b GB scope ce fp) _ s9 τ G9 (.ref D) [.int c] (.ref D) [z] (fun _ G10 => After G10) inv9 rfl (.cons rz .nil) ⟨D, c, S, n, rfl, rfl, hD9, room, aft⟩) fun _ s10 ⟨_, G10, inv10, _, aft10⟩ => ?_
      obtain ⟨j, lt, stage2⟩ := less G10 aft10
      have pin : ∀ c ∈ fp, ∀ o, s7.heap.get? c = some o → s10.heap.get? c = some o ∧ G10 c = none := fun c hc o e =>
        let held := inv10.pin (c, o) (List.mem_append_right _ (List.mem_append_right _ (mem_pinsAt hc e)))
        ⟨held.1, held.2.1⟩
      refine ⟨j, lt, i + 1, G10, (inv10.unpinned (pins := [])).weak (by rw [← same8, wipe_length]) (fun q v e => ?_), T.keep _ _ _ st7 fun c hc o e => (pin c hc o e).1, fun c hc => ?_, stage2⟩
      · rw [← same8] at e
        exact (wipe_some e).1
      · obtain ⟨o, e, _⟩ := T.obj _ _ st7 c hc
        exact (pin c hc o e).2
  exact PpSet.codeAny_compStart_set whole (T.self X.A 0 _ _ _ stC whole)
end
end Gk
namespace Pf
open PySem PySem.Spec PyProof.Rows L2 Gk
theorem ps_dead {X : Cx} {st : Stmt} : PS X st (fun _ _ _ => False) := ⟨fun _ _ _ _ _ _ h => h.elim⟩
theorem bool_is : bootBuiltins "bool" = some (.type "bool") := by decide +kernel
theorem isi_is : PySem.bootBuiltins "isinstance" = some (.builtin "isinstance") := by decide +kernel
theorem pe_isi {X : Cx} {e : Expr} {te : TE} {T : Str} {n : String} {p p2 pos : Pos} (hg : Gl X "isinstance") (hm : X.mg "isinstance" = none) (he : PE X e te) (hT : Gl X T) (mT : X.mg T = none) (bT : bootBuiltins T = some (.type n)) (nT : T ≠ "__name__" := by decide) (dT : (T == ("__debug__" : Str)) = false := by decide)
    (h1 : starEach [e, .Name T p2] X.env = (false, eval e X.env) :: starEach [.Name T p2] X.env := by rfl) (h2 : starEach [.Name T p2] X.env = (false, eval (.Name T p2) X.env) :: starEach [] X.env := by rfl) (hpl : (backTo pos (starEach [.Name T p2] X.env)).any (·.1) = false := by rfl) :
    PE X (.Call (.Name "isinstance" p) [e, .Name T p2] [] pos) (tCB (rIsi X.K) (tCons te (tCons (tC (.ty n)) tNil))) :=
  pe_callB call_isi hg hm isi_is (pa_cons he (pa_cons (pe_bltn hT mT bT rfl nT dT) pa_nil h2) h1) (he := h1) (hpl := hpl)
/-- a set that a comprehension makes -/
theorem si_walk {w : World} {J : It} {n : Nat} {Gd : Hp → Prop} {Y : Nat → Hp → V → Hp → Prop} {g : TG} {te : TE} {vs : List Nat} {σ : L2.St} {H1 : Hp} {D : Addr} {Qd : Hp → Prop} (wk : Walk J n Gd Y) (Pv : Nat → Hp → Prop) (h0 : Pv 0 (upd H1 D (SetO w D (fun _ => false) 0))) (hg : ∀ i H, Pv i H → Gd H)
    (hs : ∀ i x H H', i < n → Pv i H → Y i H x H' → g x (wipe σ vs) H' fun τ G3 => wipe τ vs = wipe σ vs ∧ te τ G3 fun y G4 => ∃ (c : Int) (S : Int → Bool) (m : Nat), y = .int c ∧ G4 D = some (SetO w D S m) ∧ m + 1 < scanBound ∧ Pv (i + 1) (upd G4 D (SetO w D (fun j => S j || decide (j = c)) (if S c = true then m else m + 1))))
    (hd : ∀ H, Pv n H → Qd H) : ∃ Stage : Nat → Nat → Hp → Prop, (∃ k, Stage 0 k (upd H1 D (SetO w D (fun _ => false) 0))) ∧ ∀ i k G', Stage i k G' → (J.stop i G' ∧ Qd G') ∨
    (J.go i G' ∧ ∃ After : Hp → Prop, (∀ G2, After G2 → ∃ j, j < k ∧ Stage (i + 1) j G2) ∧ ∀ x G2, J.yld i G' x G2 → g x (wipe σ vs) G2 fun τ G3 => wipe τ vs = wipe σ vs ∧
      te τ G3 fun y G4 => ∃ (c : Int) (S : Int → Bool) (m : Nat), y = .int c ∧ G4 D = some (SetO w D S m) ∧ m + 1 < scanBound ∧ After (upd G4 D (SetO w D (fun j => S j || decide (j = c)) (if S c = true then m else m + 1)))) := by
  refine ⟨fun i k G => k = n - i ∧ i ≤ n ∧ Pv i G, ⟨n, by simp, Nat.zero_le _, h0⟩, ?_⟩
  rintro i k G ⟨rfl, hi, p⟩
  by_cases lt : i < n
  · exact .inr ⟨wk.goes i G lt (hg i G p), Pv (i + 1), fun G2 p2 => ⟨n - (i + 1), by omega, rfl, lt, p2⟩, fun x G2 y => hs i x G G2 lt p (wk.yields i G x G2 lt (hg i G p) y)⟩
  · have e : i = n := by omega
    subst e
    exact .inl ⟨wk.stops G (hg i G p), hd G p⟩
end Pf
namespace Pf
open PySem PySem.Spec PyProof.Rows L2 Gk
abbrev sBrs : Stmt := topS 6
abbrev sOuts : Stmt := topS 7
abbrev sAll : Stmt := topS 8
abbrev sTimes : Stmt := topS 15
abbrev nBrs : List Str := ["trace", "branch", "outcome"]
abbrev nOuts : List Str := ["trace", "branch", "outcome", "other"]
abbrev nAll : List Str := ["trace", "outcome", "branch"]
abbrev nTimes : List Str := ["pairs", "branch", "other", "outcome"]
theorem scBrs : FnScope nBrs ["trace"] (defScope sBrs) := ⟨rfl, rfl, rfl, by decide +kernel, rfl, by decide +kernel, by decide +kernel⟩
theorem scOuts : FnScope nOuts ["trace", "branch"] (defScope sOuts) := ⟨rfl, rfl, rfl, by decide +kernel, rfl, by decide +kernel, by decide +kernel⟩
theorem scAll : FnScope nAll ["trace"] (defScope sAll) := ⟨rfl, rfl, rfl, by decide +kernel, rfl, by decide +kernel, by decide +kernel⟩
theorem scTimes : FnScope nTimes ["pairs", "branch"] (defScope sTimes) := ⟨rfl, rfl, rfl, by decide +kernel, rfl, by decide +kernel, by decide +kernel⟩
/-- how many of the branches from 0 to 7 are in the set -/
def eight (S : Int → Bool) : Nat := (S 0).toNat + (S 1).toNat + (S 2).toNat + (S 3).toNat + (S 4).toNat + (S 5).toNat + (S 6).toNat + (S 7).toNat
theorem eight_le (S : Int → Bool) : eight S ≤ 8 := by
  have h : ∀ b : Bool, b.toNat ≤ 1 := fun b => by cases b <;> decide
  unfold eight
  have := h (S 0); have := h (S 1); have := h (S 2); have := h (S 3); have := h (S 4); have := h (S 5); have := h (S 6); have := h (S 7)
  omega
theorem eight_add {S : Int → Bool} {c : Int} (h0 : 0 ≤ c) (h1 : c ≤ 7) : eight (fun j => S j || decide (j = c)) = if S c = true then eight S else eight S + 1 := by
  have : c = 0 ∨ c = 1 ∨ c = 2 ∨ c = 3 ∨ c = 4 ∨ c = 5 ∨ c = 6 ∨ c = 7 := by omega
  rcases this with rfl | rfl | rfl | rfl | rfl | rfl | rfl | rfl
  · cases e : S 0 <;> simp [eight, e]; omega
  · cases e : S 1 <;> simp [eight, e]; omega
  · cases e : S 2 <;> simp [eight, e]; omega
  · cases e : S 3 <;> simp [eight, e]; omega
  · cases e : S 4 <;> simp [eight, e]; omega
  · cases e : S 5 <;> simp [eight, e]; omega
  · cases e : S 6 <;> simp [eight, e]; omega
  · cases e : S 7 <;> simp [eight, e]
/-- the outcomes of a branch -/
def outs (b : Int) (l : List (Int × Int)) : List Int := (l.filter fun x => decide (x.1 = b)).map (·.2)
theorem outs_take {b : Int} {l : List (Int × Int)} {i : Nat} {x : Int × Int} (h : l[i]? = some x) : outs b (l.take (i + 1)) = outs b (l.take i) ++ (if x.1 = b then [x.2] else []) := by
  unfold outs
  rw [List.take_add_one, h, List.filter_append, List.map_append]
  congr 1
  by_cases e : x.1 = b
  · simp [e]
  · simp [e]
theorem outs_len (b : Int) (l : List (Int × Int)) : (outs b l).length ≤ l.length := by
  unfold outs
  rw [List.length_map]
  exact List.length_filter_le _ _
theorem outs_bits {b : Int} {l : List (Int × Int)} (h : Fair l) : Bits (outs b l) := fun o ho => by
  unfold outs at ho
  obtain ⟨x, hx, rfl⟩ := List.mem_map.mp ho
  exact (h x (List.mem_filter.mp hx).1).2
theorem pd_at {K : PySem.W.Frag} {H : Hp} {xs : List V} {l : List (Int × Int)} (hA : DpAll K H xs (l.map pd)) {i : Nat} {v : V} (hv : xs[i]? = some v) : ∃ x a, l[i]? = some x ∧ v = .ref a ∧ SqT K H a [.int x.1, .int x.2] := by
  have hi : i < l.length := by
    have := (List.getElem?_eq_some_iff.mp hv).1
    rwa [lc_len hA] at this
  have g : (l.map pd)[i]? = some (pd l[i]) := by rw [List.getElem?_map, List.getElem?_eq_getElem hi]; rfl
  obtain ⟨a, rfl, s⟩ := pair_at (DpAll.at hA hv g)
  exact ⟨l[i], a, List.getElem?_eq_getElem hi, rfl, s⟩
theorem PairsAt.out {K : PySem.W.Frag} {H : Hp} {t : Addr} {l : List (Int × Int)} (h : PairsAt K H t l) : ∃ xs, SqT K H t xs ∧ DpAll K H xs (l.map pd) ∧ xs.length = l.length := by
  obtain ⟨xs, a, b, c⟩ := ItsAt.out h
  exact ⟨xs, a, b, by rw [c, List.length_map]⟩
section
variable {P : Program} {w : World} {K : PySem.W.Frag} {mg : Str → Option Value} {base : Heap}
def spBrs (K : PySem.W.Frag) : Sp := fun vs H Q _ => ∃ (t : Addr) (l : List (Int × Int)), vs = [.ref t] ∧ PairsAt K H t l ∧ Fair l ∧
  ∀ H' p (bs : List Int), Same H H' → SqT K H' p (bs.map V.int) → bs.Pairwise (· < ·) → (∀ k, k ∈ bs ↔ ∃ x ∈ l, x.1 = k) → Q (.ref p) H'
theorem ok_brs {f : Addr} {fd : FuncData} {k : Nat} (mt : mg "tuple" = none) (ms : mg "sorted" = none) (F : L2.Fun K "branches" "branches" sBrs f fd) : FnOk P w K mg base L2.CX0 (k + 1) f fd ["trace"] (spBrs K) := by
  refine F.ok scBrs (fun vs H Q E h => ?_) (fun cdv A outer s H vs Q E hr h => ?_)
  · obtain ⟨t, l, rfl, _⟩ := h
    rfl
  · obtain ⟨t, l, rfl, hl, fair, q⟩ := h
    obtain ⟨xs, sq, hA, len⟩ := PairsAt.out hl
    refine ⟨_, pss_one (ps_ret (pe_callTy call_tuple_of (by rfl) mt (by decide +kernel) (pa_cons (pe_callB (cr_sortedSet (by rfl)) (by rfl) ms (by decide +kernel) (pa_cons (pe_si (own := [("branch", 1), ("outcome", 2)]) (g := gTup K 2 (gCons (gName 1) (gCons (gName 2) gNil))) (by rfl) scBrs.nd (pi_tup (pv 0))
        (blkOk_by (N := nBrs) (sc := defScope sBrs) (by decide +kernel)) (fun _ _ _ _ _ => pg_tup rfl (pgs_cons (pg_name (i := 1) scBrs.nd rfl (.inl rfl)) (pgs_cons (pg_name (i := 2) scBrs.nd rfl (.inl rfl)) pgs_nil))) (fun _ _ _ _ _ => pv 1)) pa_nil)) pa_nil))), ?_⟩
    refine ⟨.ref t, rfl, t, rfl, ⟨_, sq⟩, fun D nD => si_walk (walk_tup (K := K) (a := t) (xs := xs)) (fun i H' => Same H H' ∧ ∃ S, H' D = some (SetO w D S (eight S)) ∧ ∀ k, S k = true ↔ ∃ x ∈ l.take i, x.1 = k) ⟨same_new nD, _, upd_same, fun k => by simp⟩
      (fun i H' hp => Same.seqT hp.1 sq) (fun i x G G' hi hp hy => ?_) (fun G hp => ?_)⟩
    · obtain ⟨sm, S, hD, hS⟩ := hp
      obtain ⟨rfl, hx⟩ := hy
      obtain ⟨y, a, hy, rfl, sa⟩ := pd_at hA hx
      have fy := fair y (List.mem_of_getElem? hy)
      have e8 := eight_le S
      refine ⟨a, _, rfl, Same.seqT sm sa, rfl, _, _, rfl, _, _, rfl, rfl, rfl, .int y.1, rfl, y.1, S, eight S, rfl, hD, Nat.lt_of_le_of_lt (show eight S + 1 ≤ 9 by omega) (by decide), ?_, (fun j => S j || decide (j = y.1)), ?_, fun k => ?_⟩
      · intro c o h
        rw [upd_ne (ne_of_none h nD)]
        exact sm c o h
      · rw [upd_same, ← eight_add fy.1.1 fy.1.2]
        rfl
      · rw [List.take_add_one, hy]
        simp only [Bool.or_eq_true, decide_eq_true_eq, hS k, Option.toList_some, List.mem_append, List.mem_singleton]
        constructor
        · rintro (⟨x, hx, e⟩ | e)
          · exact ⟨x, .inl hx, e⟩
          · exact ⟨y, .inr rfl, e.symm⟩
        · rintro ⟨x, hx | rfl, e⟩
          · exact .inl ⟨x, hx, e⟩
          · exact .inr e.symm
    · obtain ⟨sm, S, hD, hS⟩ := hp
      rw [len, List.take_length] at hS
      refine ⟨D, S, eight S, rfl, hD, Nat.lt_of_le_of_lt (eight_le S) (by decide), fun ns p pw mem _ np => ⟨p, _, rfl, .inl ⟨.inl (.inl upd_same), fun p2 np2 => ?_⟩⟩⟩
      exact q _ p2 ns ((sm.trans (same_new np)).trans (same_new np2)) (.inl (.inl upd_same)) pw fun k => (mem k).trans (hS k)
/-- the outcomes of a branch of the trace -/
def spOuts (K : PySem.W.Frag) : Sp := fun vs H Q _ => ∃ (t : Addr) (l : List (Int × Int)) (b : Int), vs = [.ref t, .int b] ∧ PairsAt K H t l ∧ Fair l ∧ l.length ≤ 64 ∧ (∃ x ∈ l, x.1 = b) ∧ ∀ H' p, Same H H' → SqT K H' p ((outs b l).map V.int) → Q (.ref p) H'
theorem ok_outs {f : Addr} {fd : FuncData} (DB : Dfn P w K mg base 1 "branches" ["trace"] (spBrs K)) (mi : mg "isinstance" = none) (mb : mg "bool" = none) (mt : mg "tuple" = none) (F : L2.Fun K "outcomes_of" "outcomes_of" sOuts f fd) : FnOk P w K mg base L2.CX0 2 f fd ["trace", "branch"] (spOuts K) := by
  refine F.ok scOuts (fun vs H Q E h => ?_) (fun cdv A outer s H vs Q E hr h => ?_)
  · obtain ⟨t, l, b, rfl, _⟩ := h
    rfl
  · obtain ⟨t, l, b, rfl, hl, fair, l64, has, q⟩ := h
    obtain ⟨xs, sq, hA, len⟩ := PairsAt.out hl
    refine ⟨_, pss_cons (ps_if (PW.pt (pw_or (pt_val (pe_isi (by rfl) mi (pv 1) (by rfl) mb bool_is)) (pw_or1 (pt_cmpR op_notIn_seq (pv 1) (pe_d DB hr (by decide) (by rfl) (pa_cons (pv 0) pa_nil)) (by rfl))))) (pss_one ps_dead) pss_nil)
      (pss_one (ps_ret (pe_callTy call_tuple_of (by rfl) mt (by decide +kernel) (pa_cons (pe_lc (own := [("other", 3), ("outcome", 2)]) (g := gTup K 2 (gCons (gName 3) (gCons (gName 2) gNil))) (by rfl) scOuts.nd (pi_tup (pv 0))
        (blkOk_by (N := nOuts) (sc := defScope sOuts) (by decide +kernel)) (fun _ _ _ _ _ => pg_tup rfl (pgs_cons (pg_name (i := 3) scOuts.nd rfl (.inl rfl)) (pgs_cons (pg_name (i := 2) scOuts.nd rfl (.inl rfl)) pgs_nil)))
        (fun _ _ _ _ _ => pts_one (pt_cmpR op_eq (pv 3) (pv 1) (nomark _))) (fun _ _ _ _ _ => pv 2)) pa_nil)))), ?_⟩
    refine ⟨.int b, rfl, .int b, .ty "bool", tyD (.int b), .type "bool", _, rfl, .ty "bool", (Dv.int (M := fun _ => False) (K := K) (H := H) b).ty, kit_bool (.int b), _, rfl, ?_⟩
    refine ⟨.int b, rfl, .ref t, rfl, t, l, rfl, hl, fair, fun H1 p bs s1 t1 pw mem => ⟨p, _, rfl, .inr t1, rfl, ?_, _, rfl, ?_⟩⟩
    · rw [List.all_eq_true]
      intro v hv
      obtain ⟨k, _, rfl⟩ := List.mem_map.mp hv
      rfl
    · have isin : inV (.int b) (bs.map V.int) = true := by
        refine List.any_eq_true.mpr ⟨.int b, List.mem_map.mpr ⟨b, (mem b).mpr has, rfl⟩, ?_⟩
        show decide (b = b) = true
        simp
      rw [isin]
      have sq1 := Same.seqT s1 sq
      have hA1 := pairs_keep hA (Same.keep s1)
      refine ⟨.ref t, rfl, t, rfl, ⟨_, sq1⟩, fun D nD => lc_tup (K := K) (a := t) (xs := xs) (fun i H' => Same H1 H' ∧ H' D = some (.lst ((outs b (l.take i)).map V.int))) ⟨same_new nD, upd_same⟩ (fun i H' _ hp => Same.seqT hp.1 sq1) (fun i x H4 hx hp => ?_) (fun H4 hp => ?_)⟩
      · obtain ⟨sm, hD⟩ := hp
        obtain ⟨y, a, hy, rfl, sa⟩ := pd_at hA1 hx
        have et := outs_take (b := b) hy
        refine ⟨a, _, rfl, Same.seqT sm sa, rfl, _, _, rfl, _, _, rfl, rfl, rfl, .int y.1, rfl, .int b, rfl, rfl, _, rfl, ite2 (fun e => ?_) (fun e => ?_)⟩
        · have e1 : V.int y.1 = V.int b := of_decide_eq_true e
          injection e1 with e1
          refine ⟨.int y.2, rfl, _, hD, ?_, ?_, ?_⟩
          · have h1 := outs_len b (l.take i)
            rw [List.length_take] at h1
            rw [List.length_map]
            exact small1000 (by omega)
          · intro c o h
            rw [upd_ne (ne_of_none h nD)]
            exact sm c o h
          · rw [upd_same, et, if_pos e1, List.map_append]
            rfl
        · have e1 : y.1 ≠ b := fun z => e (decide_eq_true (by rw [z]))
          refine ⟨sm, ?_⟩
          rw [hD, et, if_neg e1, List.append_nil]
      · obtain ⟨sm, hD⟩ := hp
        rw [len, List.take_length] at hD
        exact ⟨D, _, rfl, .inl ⟨.inl (.inl hD), fun p2 np2 => q _ p2 ((s1.trans sm).trans (same_new np2)) (.inl (.inl upd_same))⟩⟩
def spAll (K : PySem.W.Frag) : Sp := fun vs H Q _ => ∃ (t : Addr) (l : List (Int × Int)), vs = [.ref t] ∧ PairsAt K H t l ∧ l.length ≤ 64 ∧ ∀ H' p, Same H H' → SqT K H' p ((l.map (·.2)).map V.int) → Q (.ref p) H'
theorem ok_all {f : Addr} {fd : FuncData} {k : Nat} (mt : mg "tuple" = none) (F : L2.Fun K "all_outcomes" "all_outcomes" sAll f fd) : FnOk P w K mg base L2.CX0 (k + 1) f fd ["trace"] (spAll K) := by
  refine F.ok scAll (fun vs H Q E h => ?_) (fun cdv A outer s H vs Q E hr h => ?_)
  · obtain ⟨t, l, rfl, _⟩ := h
    rfl
  · obtain ⟨t, l, rfl, hl, l64, q⟩ := h
    obtain ⟨xs, sq, hA, len⟩ := PairsAt.out hl
    refine ⟨_, pss_one (ps_ret (pe_callTy call_tuple_of (by rfl) mt (by decide +kernel) (pa_cons (pe_lc (own := [("branch", 2), ("outcome", 1)]) (g := gTup K 2 (gCons (gName 2) (gCons (gName 1) gNil))) (by rfl) scAll.nd (pi_tup (pv 0))
        (blkOk_by (N := nAll) (sc := defScope sAll) (by decide +kernel)) (fun _ _ _ _ _ => pg_tup rfl (pgs_cons (pg_name (i := 2) scAll.nd rfl (.inl rfl)) (pgs_cons (pg_name (i := 1) scAll.nd rfl (.inl rfl)) pgs_nil)))
        (fun _ _ _ _ _ => pts_nil) (fun _ _ _ _ _ => pv 1)) pa_nil))), ?_⟩
    refine ⟨.ref t, rfl, t, rfl, ⟨_, sq⟩, fun D nD => lc_tup (K := K) (a := t) (xs := xs) (fun i H' => Same H H' ∧ H' D = some (.lst (((l.take i).map (·.2)).map V.int))) ⟨same_new nD, upd_same⟩ (fun i H' _ hp => Same.seqT hp.1 sq) (fun i x H4 hx hp => ?_) (fun H4 hp => ?_)⟩
    · obtain ⟨sm, hD⟩ := hp
      obtain ⟨y, a, hy, rfl, sa⟩ := pd_at hA hx
      refine ⟨a, _, rfl, Same.seqT sm sa, rfl, _, _, rfl, _, _, rfl, rfl, rfl, .int y.2, rfl, _, hD, ?_, ?_, ?_⟩
      · rw [List.length_map, List.length_map, List.length_take]
        exact small1000 (by omega)
      · intro c o h
        rw [upd_ne (ne_of_none h nD)]
        exact sm c o h
      · rw [upd_same, List.take_add_one, hy, List.map_append, List.map_append]
        rfl
    · obtain ⟨sm, hD⟩ := hp
      rw [len, List.take_length] at hD
      exact ⟨D, _, rfl, .inl ⟨.inl (.inl hD), fun p2 np2 => q _ p2 (sm.trans (same_new np2)) (.inl (.inl upd_same))⟩⟩
def spTimes (K : PySem.W.Frag) : Sp := fun vs H Q _ => ∃ (t : Addr) (l : List (Int × Int)) (b : Int), vs = [.ref t, .int b] ∧ PairsAt K H t l ∧ l.length ≤ 64 ∧ ∀ H', Same H H' → Q (.int (outs b l).length) H'
theorem ok_times {f : Addr} {fd : FuncData} {k : Nat} (ml : mg "len" = none) (F : L2.Fun K "_times" "_times" sTimes f fd) : FnOk P w K mg base L2.CX0 (k + 1) f fd ["pairs", "branch"] (spTimes K) := by
  refine F.ok scTimes (fun vs H Q E h => ?_) (fun cdv A outer s H vs Q E hr h => ?_)
  · obtain ⟨t, l, b, rfl, _⟩ := h
    rfl
  · obtain ⟨t, l, b, rfl, hl, l64, q⟩ := h
    obtain ⟨xs, sq, hA, len⟩ := PairsAt.out hl
    refine ⟨_, pss_one (ps_ret (pe_callB call_len_seq (by rfl) ml PySem.boot_len (pa_cons (pe_lc (own := [("other", 2), ("outcome", 3)]) (g := gTup K 2 (gCons (gName 2) (gCons (gName 3) gNil))) (by rfl) scTimes.nd (pi_tup (pv 0))
        (blkOk_by (N := nTimes) (sc := defScope sTimes) (by decide +kernel)) (fun _ _ _ _ _ => pg_tup rfl (pgs_cons (pg_name (i := 2) scTimes.nd rfl (.inl rfl)) (pgs_cons (pg_name (i := 3) scTimes.nd rfl (.inl rfl)) pgs_nil)))
        (fun _ _ _ _ _ => pts_one (pt_cmpR op_eq (pv 2) (pv 1) (nomark _))) (fun _ _ _ _ _ => pv 2)) pa_nil))), ?_⟩
    refine ⟨.ref t, rfl, t, rfl, ⟨_, sq⟩, fun D nD => lc_tup (K := K) (a := t) (xs := xs) (fun i H' => Same H H' ∧ ∃ zs : List V, H' D = some (.lst zs) ∧ zs.length = (outs b (l.take i)).length) ⟨same_new nD, [], upd_same, rfl⟩ (fun i H' _ hp => Same.seqT hp.1 sq) (fun i x H4 hx hp => ?_) (fun H4 hp => ?_)⟩
    · obtain ⟨sm, zs, hD, lz⟩ := hp
      obtain ⟨y, a, hy, rfl, sa⟩ := pd_at hA hx
      have et := outs_take (b := b) hy
      have h1 := outs_len b (l.take i)
      rw [List.length_take] at h1
      refine ⟨a, _, rfl, Same.seqT sm sa, rfl, _, _, rfl, _, _, rfl, rfl, rfl, .int y.1, rfl, .int b, rfl, rfl, _, rfl, ite2 (fun e => ?_) (fun e => ?_)⟩
      · have e1 : V.int y.1 = V.int b := of_decide_eq_true e
        injection e1 with e1
        refine ⟨.int y.1, rfl, _, hD, small1000 (by omega), ?_, _, upd_same, ?_⟩
        · intro c o h
          rw [upd_ne (ne_of_none h nD)]
          exact sm c o h
        · rw [et, if_pos e1, List.length_append, List.length_append, lz]
          rfl
      · have e1 : y.1 ≠ b := fun z => e (decide_eq_true (by rw [z]))
        exact ⟨sm, zs, hD, by rw [et, if_neg e1, List.append_nil, lz]⟩
    · obtain ⟨sm, zs, hD, lz⟩ := hp
      rw [len, List.take_length] at lz
      refine ⟨D, zs, rfl, .inl (.inl (.inl hD)), ?_⟩
      rw [lz]
      exact q _ sm
end
end Pf
namespace Fold
/-- a number by its digits, the lowest one first -/
def num : List Bool → Nat
  | [] => 0
  | b :: r => b.toNat + 2 * num r
/-- the digits at their places, modulo w -/
def zig (w : Nat) : Nat → List Bool → Nat
  | _, [] => 0
  | k, b :: r => (if b then 2 ^ (k % w) else 0) ^^^ zig w (k + 1) r
/-- the pieces of a number -/
def pie (w : Nat) : Nat → Nat → Nat
  | 0, _ => 0
  | f + 1, n => (n % 2 ^ w) ^^^ pie w f (n / 2 ^ w)

theorem num_lt : ∀ l : List Bool, num l < 2 ^ l.length
  | [] => by decide
  | b :: r => by
    have h := num_lt r
    have hb : b.toNat ≤ 1 := by cases b <;> decide
    rw [List.length_cons, Nat.pow_succ]
    show b.toNat + 2 * num r < _
    omega
theorem zig_app (w : Nat) : ∀ (a b : List Bool) (k : Nat), zig w k (a ++ b) = zig w k a ^^^ zig w (k + a.length) b
  | [], b, k => by simp [zig]
  | c :: a, b, k => by
    show (if c then 2 ^ (k % w) else 0) ^^^ zig w (k + 1) (a ++ b) = ((if c then 2 ^ (k % w) else 0) ^^^ zig w (k + 1) a) ^^^ zig w (k + (a.length + 1)) b
    rw [zig_app w a b (k + 1), Nat.xor_assoc, show k + 1 + a.length = k + (a.length + 1) by omega]
theorem zig_shift (w : Nat) (hw : 0 < w) : ∀ (l : List Bool) (k : Nat), zig w (k + w) l = zig w k l
  | [], _ => rfl
  | b :: r, k => by
    show (if b then 2 ^ ((k + w) % w) else 0) ^^^ zig w (k + w + 1) r = (if b then 2 ^ (k % w) else 0) ^^^ zig w (k + 1) r
    rw [Nat.add_mod_right, show k + w + 1 = (k + 1) + w by omega, zig_shift w hw r (k + 1)]
/-- few digits: the number itself -/
theorem zig_few (w : Nat) : ∀ (l : List Bool) (k : Nat), k + l.length ≤ w → zig w k l = 2 ^ k * num l
  | [], k, _ => by simp [zig, num]
  | b :: r, k, h => by
    rw [List.length_cons] at h
    have ih := zig_few w r (k + 1) (by omega)
    show (if b then 2 ^ (k % w) else 0) ^^^ zig w (k + 1) r = 2 ^ k * (b.toNat + 2 * num r)
    rw [ih, Nat.mod_eq_of_lt (show k < w by omega)]
    cases b with
    | false =>
      show 0 ^^^ 2 ^ (k + 1) * num r = 2 ^ k * (0 + 2 * num r)
      rw [Nat.zero_xor, Nat.zero_add, Nat.pow_succ, Nat.mul_assoc]
    | true =>
      show 2 ^ k ^^^ 2 ^ (k + 1) * num r = 2 ^ k * (1 + 2 * num r)
      have e1 : 2 ^ (k + 1) * num r = 2 ^ k * (2 * num r) := by rw [Nat.pow_succ, Nat.mul_assoc]
      rw [e1, Nat.mul_add, Nat.mul_one]
      apply Nat.eq_of_testBit_eq
      intro j
      have e2 : 2 ^ k + 2 ^ k * (2 * num r) = 2 ^ k * (1 + 2 * num r) + 0 := by rw [Nat.mul_add, Nat.mul_one, Nat.add_zero]
      rw [e2, Nat.testBit_xor, Nat.testBit_two_pow_mul_add _ (Nat.two_pow_pos k)]
      have e3 : 2 ^ k * (2 * num r) = 2 ^ k * (2 * num r) + 0 := (Nat.add_zero _).symm
      rw [e3, Nat.testBit_two_pow_mul_add _ (Nat.two_pow_pos k)]
      by_cases hj : j < k
      · rw [if_pos hj, if_pos hj, Nat.testBit_two_pow]
        have : ¬ k = j := by omega
        simp [this]
      · rw [if_neg hj, if_neg hj, Nat.testBit_two_pow]
        by_cases e : k = j
        · subst e
          rw [Nat.sub_self]
          simp [Nat.testBit_zero, Nat.add_mod]
        · obtain ⟨m, hm⟩ : ∃ m, j - k = m + 1 := ⟨j - k - 1, by omega⟩
          rw [hm, Nat.testBit_succ, Nat.testBit_succ]
          have a1 : (2 * num r) / 2 = num r := by omega
          have a2 : (1 + 2 * num r) / 2 = num r := by omega
          rw [a1, a2]
          simp [e]
theorem num_app : ∀ a b : List Bool, num (a ++ b) = num a + 2 ^ a.length * num b
  | [], b => by simp [num]
  | c :: a, b => by
    show c.toNat + 2 * num (a ++ b) = c.toNat + 2 * num a + 2 ^ (a.length + 1) * num b
    rw [num_app a b, Nat.pow_succ, Nat.mul_add, Nat.add_assoc, Nat.mul_comm (2 ^ a.length) 2, Nat.mul_assoc]
theorem pie_zig (w : Nat) (hw : 0 < w) : ∀ (f : Nat) (l : List Bool), l.length ≤ f → pie w f (num l) = zig w 0 l
  | 0, l, h => by
    cases l with
    | nil => rfl
    | cons b r => simp at h
  | f + 1, l, h => by
    show (num l % 2 ^ w) ^^^ pie w f (num l / 2 ^ w) = _
    by_cases hl : l.length ≤ w
    · have h1 : num l < 2 ^ w := Nat.lt_of_lt_of_le (num_lt l) (Nat.pow_le_pow_right (by decide) hl)
      rw [Nat.mod_eq_of_lt h1, Nat.div_eq_of_lt h1, zig_few w l 0 (by omega), Nat.pow_zero, Nat.one_mul]
      have := pie_zig w hw f [] (Nat.zero_le _)
      rw [show pie w f 0 = 0 from this, Nat.xor_zero]
    · have e : l = l.take w ++ l.drop w := (List.take_append_drop w l).symm
      have ht : (l.take w).length = w := by rw [List.length_take]; omega
      have hn : num l = num (l.take w) + 2 ^ w * num (l.drop w) := by
        conv => lhs; rw [e, num_app, ht]
      have h1 : num (l.take w) < 2 ^ w := by have := num_lt (l.take w); rwa [ht] at this
      have hm : num l % 2 ^ w = num (l.take w) := by rw [hn, Nat.add_mul_mod_self_left, Nat.mod_eq_of_lt h1]
      have hd : num l / 2 ^ w = num (l.drop w) := by rw [hn, Nat.add_mul_div_left _ _ (Nat.two_pow_pos w), Nat.div_eq_of_lt h1, Nat.zero_add]
      rw [hm, hd, pie_zig w hw f (l.drop w) (by rw [List.length_drop]; omega)]
      conv => rhs; rw [e, zig_app, ht, zig_shift w hw (l.drop w) 0, zig_few w (l.take w) 0 (by omega), Nat.pow_zero, Nat.one_mul]
theorem pie_zero (w : Nat) : ∀ f, pie w f 0 = 0
  | 0 => rfl
  | f + 1 => by
    show 0 % 2 ^ w ^^^ pie w f (0 / 2 ^ w) = 0
    rw [Nat.zero_mod, Nat.zero_div, pie_zero w f]
    rfl
theorem pie_lt (w : Nat) : ∀ f n, pie w f n < 2 ^ w
  | 0, _ => Nat.two_pow_pos w
  | f + 1, n => Nat.xor_lt_two_pow (Nat.mod_lt _ (Nat.two_pow_pos w)) (pie_lt w f _)
theorem zig_lt (w : Nat) (hw : 0 < w) : ∀ (l : List Bool) k, zig w k l < 2 ^ w
  | [], _ => Nat.two_pow_pos w
  | b :: r, k => Nat.xor_lt_two_pow (by
      cases b with
      | false => exact Nat.two_pow_pos w
      | true => exact Nat.pow_lt_pow_right (by decide) (Nat.mod_lt _ hw)) (zig_lt w hw r (k + 1))
/-- the sum of the powers at the places where a number below 2 ^ w has a digit 1 -/
def ones (x : Nat) : Nat → Nat
  | 0 => 0
  | w + 1 => ones x w + (if x.testBit w then 2 ^ w else 0)
theorem ones_eq (x : Nat) : ∀ w, ones x w = x % 2 ^ w
  | 0 => by simp [ones, Nat.mod_one]
  | w + 1 => by
    show ones x w + (if x.testBit w then 2 ^ w else 0) = _
    rw [ones_eq x w, Nat.mod_pow_succ, Nat.testBit_eq_decide_div_mod_eq]
    have h : x / 2 ^ w % 2 = 0 ∨ x / 2 ^ w % 2 = 1 := by omega
    rcases h with h | h <;> simp [h]
end Fold
namespace Pf
open PySem PySem.Spec PyProof.Rows L2 Gk Fold
abbrev sFold : Stmt := topS 13
abbrev sBin : Stmt := topS 18
theorem scFold : FnScope ["history", "bits", "branch", "size", "number", "cell", "piece"] ["history", "bits", "branch"] (defScope sFold) := ⟨rfl, rfl, rfl, by decide +kernel, rfl, by decide +kernel, by decide +kernel⟩
theorem scBin : FnScope ["history", "number", "digit"] ["history"] (defScope sBin) := ⟨rfl, rfl, rfl, by decide +kernel, rfl, by decide +kernel, by decide +kernel⟩
/-- a history: its digits, the oldest one first -/
def sgn (b : Bool) : Nat := if b then 49 else 48
def txt (l : List Bool) : Str := ⟨(l.map sgn).toArray⟩
theorem txt_size (l : List Bool) : (txt l).cps.size = l.length := by
  show (l.map sgn).toArray.size = _
  rw [List.size_toArray, List.length_map]
theorem txt_at {l : List Bool} {i c : Nat} (h : (txt l).cps[i]? = some c) : ∃ b, l[i]? = some b ∧ c = sgn b := by
  have h' : (l.map sgn).toArray[i]? = some c := h
  rw [List.getElem?_toArray, List.getElem?_map] at h'
  cases e : l[i]? with
  | none => rw [e] at h'; cases h'
  | some b => rw [e] at h'; exact ⟨b, rfl, (Option.some.inj h').symm⟩
theorem int_sgn (b : Bool) : PySem.intText? ⟨#[sgn b]⟩ = some ((b.toNat : Nat) : Int) := by
  cases b <;> decide +kernel
section
variable {P : Program} {w : World} {K : PySem.W.Frag} {mg : Str → Option Value} {base : Heap}
def spBin : Sp := fun vs H Q _ => ∃ l : List Bool, vs = [.str (txt l)] ∧ Q (.int ((num l.reverse : Nat) : Int)) H
theorem ok_bin {f : Addr} {fd : FuncData} (mi : mg "int" = none) (F : L2.Fun K "_binary" "_binary" sBin f fd) : FnOk P w K mg base L2.CX0 1 f fd ["history"] spBin := by
  refine F.ok scBin (fun vs H Q E h => ?_) (fun cdv A outer s H vs Q E hr h => ?_)
  · obtain ⟨l, rfl, _⟩ := h
    rfl
  · obtain ⟨l, rfl, q⟩ := h
    refine ⟨_, pss_cons (ps_set (i := 1) scBin.nd rfl (.inl rfl) pe_int)
      (pss_cons (ps_for PassesOwn.never rfl (pi_str (pv 0)) (pg_name (i := 2) scBin.nd rfl (.inl rfl))
        (pss_one (ps_set (i := 1) scBin.nd rfl (.inl rfl) (pe_op op_add (pe_op op_mul pe_int (pv 1)) (pe_callTy call_int_str (by rfl) mi (by decide +kernel) (pa_cons (pv 2) pa_nil))))))
      (pss_one (ps_ret (pv 1)))), ?_⟩
    refine ⟨_, rfl, txt l, rfl, for_it walk_str (fun i σ H' => H' = H ∧ ∃ y, σ = [some (.str (txt l)), some (.int ((num (l.take i).reverse : Nat) : Int)), y]) ⟨rfl, none, rfl⟩ (fun _ _ _ _ _ => trivial) (fun i x σ H1 H2 hi hp hy => ?_) (fun σ H1 hp => ?_)⟩
    · obtain ⟨rfl, y, rfl⟩ := hp
      obtain ⟨rfl, c, hc, rfl⟩ := hy
      obtain ⟨b, hb, rfl⟩ := txt_at hc
      refine ⟨_, rfl, _, _, rfl, rfl, .inl ⟨by decide, by decide⟩, _, rfl, ⟨#[sgn b]⟩, ((b.toNat : Nat) : Int), rfl, int_sgn b, by show 1 ≤ 640; decide, _, _, rfl, rfl, rfl, some (.str ⟨#[sgn b]⟩), ?_⟩
      rw [List.take_add_one, hb]
      show _ = [some (V.str (txt l)), some (V.int ((num (l.take i ++ [b]).reverse : Nat) : Int)), some (V.str ⟨#[sgn b]⟩)]
      rw [List.reverse_append]
      have e : num ([b].reverse ++ (l.take i).reverse) = b.toNat + 2 * num (l.take i).reverse := rfl
      rw [e]
      have e2 : 2 * ((num (l.take i).reverse : Nat) : Int) + ((b.toNat : Nat) : Int) = ((b.toNat + 2 * num (l.take i).reverse : Nat) : Int) := by omega
      rw [← e2]
      rfl
    · obtain ⟨rfl, y, rfl⟩ := hp
      rw [txt_size, List.take_length]
      exact ⟨_, rfl, q⟩
/-- what a folded history is -/
def fol (l : List Bool) (n b : Nat) : Nat := if n = 0 then 0 else (b % 2 ^ n) ^^^ zig n 0 l.reverse
def spFold : Sp := fun vs H Q _ => ∃ (l : List Bool) (n b : Nat), vs = [.str (txt l), .int (n : Int), .int (b : Int)] ∧ l.length ≤ 64 ∧ n ≤ 16 ∧ b < 8 ∧ ∀ H', Same H H' → Q (.int ((fol l n b : Nat) : Int)) H'
theorem ok_fold {f : Addr} {fd : FuncData} (D : Dfn P w K mg base 1 "_binary" ["history"] spBin) (md : mg "divmod" = none) (F : L2.Fun K "fold" "fold" sFold f fd) : FnOk P w K mg base L2.CX0 2 f fd ["history", "bits", "branch"] spFold := by
  refine F.ok scFold (fun vs H Q E h => ?_) (fun cdv A outer s H vs Q E hr h => ?_)
  · obtain ⟨l, n, b, rfl, _⟩ := h
    rfl
  · obtain ⟨l, n, b, rfl, hl, hn, hb, q⟩ := h
    refine ⟨_, pss_cons (ps_if (pt_cmpR op_lt (pv 1) pe_int (nomark _)) (pss_one (ps_ret pe_int)) pss_nil)
      (pss_cons (ps_set (i := 3) scFold.nd rfl (.inl rfl) (pe_op op_oneShl pe_int (pv 1)))
      (pss_cons (ps_set (i := 4) scFold.nd rfl (.inl rfl) (pe_d D hr (by decide) (by rfl) (pa_cons (pv 0) pa_nil)))
      (pss_cons (ps_set (i := 5) scFold.nd rfl (.inl rfl) (pe_op op_mod (pv 2) (pv 3)))
      (pss_cons (ps_while PassesOwn.never (pt_cmpR op_gt (pv 4) pe_int (nomark _))
        (pss_cons (ps_asg (pe_callB call_divmod (by rfl) md (by decide +kernel) (pa_cons (pv 4) (pa_cons (pv 3) pa_nil))) (pg_tup (by rfl) (pgs_cons (pg_name (i := 4) scFold.nd rfl (.inl rfl)) (pgs_cons (pg_name (i := 6) scFold.nd rfl (.inl rfl)) pgs_nil))))
        (pss_one (ps_set (i := 5) scFold.nd rfl (.inl rfl) (pe_op op_xor (pv 5) (pv 6))))))
      (pss_one (ps_ret (pv 5))))))), ?_⟩
    refine ⟨.int n, rfl, _, _, rfl, rfl, _, rfl, ite2 (fun e => ?_) (fun e => ?_)⟩
    · have h0 : (n : Int) < 1 := of_decide_eq_true e
      have : n = 0 := by omega
      subst this
      exact q H (Same.refl H)
    · have h1 : 0 < n := by
        have := mt decide_eq_true e
        omega
      have hp : (0 : Int) < 2 ^ n := Int.pow_pos (by decide)
      have hs : (2 : Int) ^ n ≤ 65536 := by
        have h2 := Nat.pow_le_pow_right (show 0 < 2 by decide) hn
        have h3 : (2 : Int) ^ n = ((2 ^ n : Nat) : Int) := by
          rw [Int.natCast_pow]
          rfl
        omega
      refine ⟨.int n, rfl, n, rfl, rfl, by omega, .str (txt l), rfl, l, rfl, .int b, rfl, .int (2 ^ n), rfl, _, _, rfl, rfl, hp, ?_⟩
      refine while_by (fun σ H' => Same H H' ∧ ∃ (f x c : Nat) (y : Option V), σ = [some (.str (txt l)), some (.int n), some (.int b), some (.int (2 ^ n)), some (.int (x : Int)), some (.int (c : Int)), y] ∧ x < 2 ^ f ∧ c ^^^ pie n f x = fol l n b)
        (fun σ _ => match σ[4]? with
          | some (some (V.int x)) => x.toNat
          | _ => 0) ⟨Same.refl H, 64, num l.reverse, b % 2 ^ n, none, ?_, ?_, ?_⟩ (fun σ H1 hpv => ?_) (fun σ H Q Q' hq ⟨v, h1, i, j, h2, h3, k, h4, h5⟩ => ⟨v, h1, i, j, h2, h3, k, h4, hq _ _ h5⟩)
      · have e : ((b : Int) % 2 ^ n) = ((b % 2 ^ n : Nat) : Int) := by
          rw [Int.natCast_emod, Int.natCast_pow]
          rfl
        rw [← e]
        rfl
      · have := num_lt l.reverse
        rw [List.length_reverse] at this
        exact Nat.lt_of_lt_of_le this (Nat.pow_le_pow_right (by decide) hl)
      · unfold fol
        rw [if_neg (by omega), pie_zig n h1 64 l.reverse (by rw [List.length_reverse]; exact hl)]
      · obtain ⟨sm, f, x, c, y, rfl, hx, hc⟩ := hpv
        refine ⟨.int x, rfl, _, _, rfl, rfl, _, rfl, ite2 (fun e => ?_) (fun e => ?_)⟩
        · have x0 : (0 : Int) < x := of_decide_eq_true e
          obtain ⟨f', rfl⟩ : ∃ f', f = f' + 1 := by
            cases f with
            | zero => simp at hx; omega
            | succ f' => exact ⟨f', rfl⟩
          refine ⟨.int x, rfl, .int (2 ^ n), rfl, x, 2 ^ n, rfl, ⟨hp, by omega⟩, fun p np => ⟨p, _, rfl, .inl (.inl upd_same), rfl, _, _, rfl, _, _, rfl, rfl, .int c, rfl, _, rfl, _, _, rfl, rfl, ?_⟩⟩
          have ex : ((x : Int) / 2 ^ n) = ((x / 2 ^ n : Nat) : Int) := by
            rw [Int.natCast_ediv, Int.natCast_pow]
            rfl
          have em : ((x : Int) % 2 ^ n) = ((x % 2 ^ n : Nat) : Int) := by
            rw [Int.natCast_emod, Int.natCast_pow]
            rfl
          refine ⟨⟨sm.trans (same_new np), f', x / 2 ^ n, c ^^^ (x % 2 ^ n), some (.int ((x : Int) % 2 ^ n)), ?_, ?_, ?_⟩, ?_⟩
          · have eb : Builtin.bitXor (c : Int) ((x : Int) % 2 ^ n) = ((c ^^^ (x % 2 ^ n) : Nat) : Int) := by
              rw [em, Bits.bitXor_pp (Int.natCast_nonneg _) (Int.natCast_nonneg _), Int.toNat_natCast, Int.toNat_natCast]
            show [some (V.str (txt l)), some (V.int n), some (V.int b), some (V.int (2 ^ n)), some (V.int ((x : Int) / 2 ^ n)), some (V.int (Builtin.bitXor (c : Int) ((x : Int) % 2 ^ n))), some (V.int ((x : Int) % 2 ^ n))] = _
            rw [eb, ex]
          · have h2 : 2 ≤ 2 ^ n := by
              have := Nat.pow_le_pow_right (show 0 < 2 by decide) h1
              simpa using this
            have : x / 2 ^ n ≤ x / 2 := Nat.div_le_div_left h2 (by decide)
            rw [Nat.pow_succ] at hx
            omega
          · rw [Nat.xor_assoc]
            exact hc
          · show ((x : Int) / 2 ^ n).toNat < (x : Int).toNat
            rw [ex, Int.toNat_natCast, Int.toNat_natCast]
            exact Nat.div_lt_self (by omega) (by
              have := Nat.pow_le_pow_right (show 0 < 2 by decide) h1
              simp at this
              omega)
        · have x0 : x = 0 := by
            have := mt decide_eq_true e
            omega
          subst x0
          rw [pie_zero, Nat.xor_zero] at hc
          subst hc
          exact ⟨_, rfl, q _ sm⟩
end
end Pf
namespace Pf
open PySem PySem.Spec PyProof.Rows L2 Gk Fold
/-! ### texts of digits -/
theorem txt_app (a b : List Bool) : txt a ++ txt b = txt (a ++ b) := by
  show (⟨(a.map sgn).toArray ++ (b.map sgn).toArray⟩ : Str) = ⟨((a ++ b).map sgn).toArray⟩
  rw [List.map_append]
  simp
theorem txt_length (l : List Bool) : (txt l).length = l.length := txt_size l
theorem fold_rep (l : List Nat) : ∀ (n : Nat) (acc : List Nat), (List.replicate n l.toArray).foldl (· ++ ·) acc.toArray = (acc ++ (List.replicate n l).flatten).toArray
  | 0, acc => by simp
  | n + 1, acc => by
    rw [List.replicate_succ, List.foldl_cons, show acc.toArray ++ l.toArray = (acc ++ l).toArray by simp, fold_rep l n, List.replicate_succ, List.flatten_cons, List.append_assoc]
theorem txt_mul (l : List Bool) (n : Nat) : Txt.mul (txt l) (n : Int) = txt (List.replicate n l).flatten := by
  unfold Txt.mul
  by_cases h0 : (n : Int) < 1
  · have : n = 0 := by omega
    subst this
    rw [if_pos h0]
    rfl
  · rw [if_neg h0]
    by_cases h1 : n = 1
    · subst h1
      rw [if_pos (by simp)]
      simp
    · by_cases h2 : l = []
      · subst h2
        rw [if_pos (by rw [txt_length]; simp)]
        have : (List.replicate n ([] : List Bool)).flatten = [] := by
          rw [List.flatten_eq_nil_iff]
          intro x hx
          exact (List.mem_replicate.mp hx).2
        rw [this]
      · have h3 : ¬ (((n : Int) == 1 || (txt l).length == 0) = true) := by
          rw [txt_length]
          simp only [Bool.or_eq_true, beq_iff_eq, not_or]
          exact ⟨by omega, fun z => h2 (List.length_eq_zero_iff.mp z)⟩
        rw [if_neg h3]
        have := fold_rep (l.map sgn) n []
        show (⟨(List.replicate (n : Int).toNat (l.map sgn).toArray).foldl (· ++ ·) #[]⟩ : Str) = _
        rw [Int.toNat_natCast]
        refine congrArg Str.mk (this.trans ?_)
        rw [List.nil_append]
        congr 1
        rw [List.map_flatten, List.map_replicate]
theorem mulOk_txt {l : List Bool} {n : Nat} (hl : l.length ≤ 100) (hn : n ≤ 1000) : MulOk (txt l) (n : Int) := by
  refine ⟨by simp; omega, fun h0 _ => ?_, fun _ _ => ?_⟩
  · rw [txt_length]
    have h1 : (0 : Int) < n := by omega
    have : (1000 : Int) ≤ (2 ^ 63 - 1) / n := by
      refine Int.le_ediv_of_mul_le h1 ?_
      omega
    omega
  · rw [txt_length]
    show decide (_ > sizeLine) = false
    refine decide_eq_false ?_
    rw [sizeLine_eq, Int.toNat_natCast]
    have := Nat.mul_le_mul hl hn
    omega
theorem txt_cut (l : List Bool) (a b : Nat) (h : a ≤ b) (hb : b ≤ l.length) : cutS (txt l) (some (a : Int)) (some (b : Int)) = txt ((l.drop a).take (b - a)) := by
  unfold cutS
  rw [HT.sIx_nat, HT.sIx_nat, txt_length, Nat.min_eq_left (show a ≤ l.length by omega), Nat.min_eq_left (show b ≤ l.length from hb)]
  show (⟨((((l.map sgn).toArray).toList.drop a).take (b - a)).toArray⟩ : Str) = ⟨(((l.drop a).take (b - a)).map sgn).toArray⟩
  rw [List.map_take, List.map_drop]
theorem glue_txt : ∀ (bs acc : List Bool), (bs.map fun b => txt [b]).foldl (fun (z : Array Nat) (p : Str) => z ++ (Str.empty).cps ++ p.cps) (txt acc).cps = (txt (acc ++ bs)).cps
  | [], acc => by simp
  | b :: bs, acc => by
    rw [List.map_cons, List.foldl_cons]
    have : (txt acc).cps ++ (Str.empty).cps ++ (txt [b]).cps = (txt (acc ++ [b])).cps := by
      have := congrArg Str.cps (txt_app acc [b])
      rw [← this]
      show (txt acc).cps ++ #[] ++ (txt [b]).cps = (txt acc).cps ++ (txt [b]).cps
      simp
    rw [this, glue_txt bs (acc ++ [b]), List.append_assoc]
    rfl
theorem join_txt (bs : List Bool) : Txt.join ("" : Str) (bs.map fun b => txt [b]) = txt bs := by
  show Builtin.Str.glued ("" : Str) (bs.map fun b => txt [b]) = _
  unfold Builtin.Str.glued
  cases bs with
  | nil => rfl
  | cons b bs =>
    have := glue_txt bs [b]
    exact congrArg Str.mk this
theorem str_bit (b : Bool) : (Str.ofString (toString (if b then (1 : Int) else 0))) = txt [b] := by cases b <;> decide +kernel
theorem int_at {os : List Int} {i : Nat} {x : V} (hx : (os.map V.int)[i]? = some x) : ∃ o, os[i]? = some o ∧ x = .int o := by
  rw [List.getElem?_map] at hx
  cases e : os[i]? with
  | none => rw [e] at hx; cases hx
  | some o =>
    rw [e] at hx
    exact ⟨o, rfl, (Option.some.inj hx).symm⟩
/-- outcomes as digits -/
def bo (os : List Int) : List Bool := os.map fun o => decide (o = 1)
theorem bo_len (os : List Int) : (bo os).length = os.length := List.length_map ..
/-- so many digits from a place on, round and round -/
def run (bs : List Bool) (a k : Nat) : List Bool := (List.range k).map fun j => bs.getD ((a + j) % bs.length) false
/-- the last digits of so many that passed, zeros ahead -/
def past (bs : List Bool) (p L : Nat) : List Bool := List.replicate (L - min p L) false ++ run bs (p - min p L) (min p L)
theorem run_len (bs : List Bool) (a k : Nat) : (run bs a k).length = k := by
  unfold run
  rw [List.length_map, List.length_range]
theorem past_len (bs : List Bool) (p L : Nat) : (past bs p L).length = L := by
  unfold past
  rw [List.length_append, List.length_replicate, run_len]
  omega
theorem rep_at {α : Type} (l : List α) (h : 0 < l.length) : ∀ (m i : Nat), i < m * l.length → ((List.replicate m l).flatten)[i]? = l[i % l.length]?
  | 0, i, hi => by simp at hi
  | m + 1, i, hi => by
    rw [List.replicate_succ, List.flatten_cons]
    by_cases g : i < l.length
    · rw [List.getElem?_append_left g, Nat.mod_eq_of_lt g]
    · rw [List.getElem?_append_right (by omega), rep_at l h m (i - l.length) (by rw [Nat.succ_mul] at hi; omega)]
      congr 1
      exact (Nat.mod_eq_sub_mod (by omega)).symm
theorem run_cut {bs : List Bool} (h : 0 < bs.length) (a k m : Nat) (hm : a % bs.length + k ≤ m * bs.length) : (((List.replicate m bs).flatten).drop (a % bs.length)).take k = run bs a k := by
  refine List.ext_getElem? fun i => ?_
  by_cases hi : i < k
  · rw [List.getElem?_take_of_lt hi, List.getElem?_drop, rep_at bs h m _ (by omega)]
    unfold run
    rw [List.getElem?_map, List.getElem?_range hi]
    have hlt : (a + i) % bs.length < bs.length := Nat.mod_lt _ h
    have e : (a % bs.length + i) % bs.length = (a + i) % bs.length := by rw [Nat.mod_add_mod]
    rw [e, List.getElem?_eq_getElem hlt]
    show _ = some (bs.getD ((a + i) % bs.length) false)
    rw [List.getD_eq_getElem?_getD, List.getElem?_eq_getElem hlt]
    rfl
  · rw [List.getElem?_eq_none (by rw [List.length_take]; omega), List.getElem?_eq_none (by rw [run_len]; omega)]
theorem rep_length (n : Nat) (l : List Bool) : ((List.replicate n l).flatten).length = n * l.length := by
  induction n with
  | zero => simp
  | succ n ih => rw [List.replicate_succ, List.flatten_cons, List.length_append, ih, Nat.succ_mul, Nat.add_comm]
theorem enough (n k a : Nat) (h : 0 < n) : a % n + k ≤ (k / n + 2) * n := by
  have h1 := Nat.div_add_mod k n
  have h2 := Nat.mod_lt k h
  have h3 := Nat.mod_lt a h
  rw [Nat.add_mul, Nat.mul_comm (k / n) n]
  omega
abbrev sNew : Stmt := topS 16
abbrev nNew : List Str := ["outcomes", "passed", "length", "known", "start", "outcome", "digits", "enough"]
theorem scNew : FnScope nNew ["outcomes", "passed", "length"] (defScope sNew) := ⟨rfl, rfl, rfl, by decide +kernel, rfl, by decide +kernel, by decide +kernel⟩
section
variable {P : Program} {w : World} {K : PySem.W.Frag} {mg : Str → Option Value} {base : Heap}
def spNew (K : PySem.W.Frag) : Sp := fun vs H Q _ => ∃ (t : Addr) (os : List Int) (p L : Nat), vs = [.ref t, .int (p : Int), .int (L : Int)] ∧ SqT K H t (os.map V.int) ∧ Bits os ∧ 1 ≤ os.length ∧ os.length ≤ 64 ∧ L ≤ 65 ∧ ∀ H', Same H H' → Q (.str (txt (past (bo os) p L))) H'
theorem ok_new {f : Addr} {fd : FuncData} {k : Nat} (mx : mg "max" = none) (mn : mg "min" = none) (ml : mg "len" = none) (ms : mg "str" = none) (F : L2.Fun K "_newest" "_newest" sNew f fd) : FnOk P w K mg base L2.CX0 (k + 1) f fd ["outcomes", "passed", "length"] (spNew K) := by
  refine F.ok scNew (fun vs H Q E h => ?_) (fun cdv A outer s H vs Q E hr h => ?_)
  · obtain ⟨t, os, p, L, rfl, _⟩ := h
    rfl
  · obtain ⟨t, os, p, L, rfl, ht, hb, o1, o64, hL, q⟩ := h
    refine ⟨_, pss_cons (ps_set (i := 3) scNew.nd rfl (.inl rfl) (pe_mid (pe_callB (call_max2 rfl) (by rfl) mx (by decide +kernel) (pa_cons pe_int (pa_cons (pe_callB (call_min2 rfl) (by rfl) mn (by decide +kernel) (pa_cons (pv 1) (pa_cons (pv 2) pa_nil))) pa_nil)))))
      (pss_cons (ps_set (i := 4) scNew.nd rfl (.inl rfl) (pe_mid (pe_op op_mod (pe_op op_sub (pv 1) (pv 3)) (pe_callB call_len_seq (by rfl) ml PySem.boot_len (pa_cons (pv 0) pa_nil)))))
      (pss_cons (ps_set (i := 6) scNew.nd rfl (.inl rfl) (pe_join pe_str (pe_lc (own := [("outcome", 5)]) (g := gName 5) (by rfl) scNew.nd (pi_tup (pv 0)) (blkOk_by (N := nNew) (sc := defScope sNew) (by decide +kernel)) (fun _ _ _ _ _ => pg_name (i := 5) scNew.nd rfl (.inl rfl)) (fun _ _ _ _ _ => pts_nil)
          (fun _ _ _ _ _ => pe_callTy call_str_int (by rfl) ms (by decide +kernel) (pa_cons (pv 5) pa_nil)))))
      (pss_cons (ps_set (i := 7) scNew.nd rfl (.inl rfl) (pe_mid (pe_op op_mulS (pv 6) (pe_mid (pe_op op_add (pe_op op_fdiv (pv 3) (pe_callB call_len_str (by rfl) ml PySem.boot_len (pa_cons (pv 6) pa_nil))) pe_int)))))
      (pss_one (ps_ret (pe_op op_add_str (pe_mid (pe_op op_mulS pe_str (pe_mid (pe_op op_sub (pv 2) (pv 3))))) (pe_slice sl_str (pv 7) (po_some (pv 4)) (po_some (pe_mid (pe_op op_add (pv 4) (pv 3))))))))))), ?_⟩
    refine ⟨fun v H' => H' = H ∧ v = .int ((min p L : Nat) : Int), ⟨.int p, rfl, .int L, rfl, _, _, rfl, _, _, rfl, rfl, ?_⟩, fun v H' hv => ?_⟩
    · congr 1
      split <;> split <;> omega
    obtain ⟨rfl, rfl⟩ := hv
    have blen := bo_len os
    have lenV : (os.map V.int).length = os.length := List.length_map ..
    have hn : (0 : Int) < ((os.map V.int).length : Nat) := by omega
    have hk : min p L ≤ 65 := by omega
    have hkL : min p L ≤ L := Nat.min_le_right _ _
    have hkp : min p L ≤ p := Nat.min_le_left _ _
    have qq : ∀ G, Same H' G → Q (.str (txt (List.replicate (L - min p L) false ++ run (bo os) (p - min p L) (min p L)))) G := q
    generalize min p L = k at *
    refine ⟨fun v G => G = H' ∧ v = .int (((p - k) % os.length : Nat) : Int), ⟨.int p, rfl, .int k, rfl, _, _, rfl, rfl, .ref t, rfl, t, _, rfl, .inr ht, _, _, rfl, rfl, hn, rfl, ?_⟩, fun v G hv => ?_⟩
    · show V.int (((p : Int) - (k : Int)) % ((os.map V.int).length : Nat)) = _
      rw [lenV, show (p : Int) - (k : Int) = ((p - k : Nat) : Int) by omega]
      rfl
    obtain ⟨rfl, rfl⟩ := hv
    refine ⟨⟨_, rfl⟩, .ref t, rfl, t, rfl, ⟨_, ht⟩, fun D nD => lc_tup (K := K) (a := t) (xs := os.map V.int) (fun i G' => Same G G' ∧ G' D = some (.lst ((((bo os).take i).map fun b => txt [b]).map V.str))) ⟨same_new nD, upd_same⟩ (fun i G' _ hp => Same.seqT hp.1 ht) (fun i x G' hx hp => ?_) (fun G' hp => ?_)⟩
    · obtain ⟨sm, hD⟩ := hp
      obtain ⟨o, ho, rfl⟩ := int_at hx
      have hi : i < os.length := (List.getElem?_eq_some_iff.mp ho).1
      have o2 := hb o (List.mem_of_getElem? ho)
      have gb : (bo os)[i]? = some (decide (o = 1)) := by
        unfold bo
        rw [List.getElem?_map, ho]
        rfl
      have es : (Str.ofString (toString o)) = txt [decide (o = 1)] := by
        rcases o2 with rfl | rfl
        · exact str_bit false
        · exact str_bit true
      refine ⟨rfl, .int o, rfl, o, rfl, ?_, _, hD, ?_, ?_, ?_⟩
      · rcases o2 with rfl | rfl <;> decide
      · rw [List.length_map, List.length_map, List.length_take]
        exact small1000 (by omega)
      · intro c u h
        rw [upd_ne (ne_of_none h nD)]
        exact sm c u h
      · rw [upd_same, List.take_add_one, gb]
        show some (HO.lst (_ ++ [V.str (Str.ofString (toString o))])) = _
        rw [es, List.map_append, List.map_append]
        rfl
    · obtain ⟨sm, hD⟩ := hp
      rw [lenV, ← blen, List.take_length] at hD
      have sums : ∀ bs : List Bool, ((bs.map fun b => txt [b]).map (·.length)).sum = bs.length := fun bs => by
        induction bs with
        | nil => rfl
        | cons b bs ih =>
          simp only [List.map_cons, List.sum_cons, List.length_cons, ih, txt_length, List.length_nil]
          omega
      refine ⟨_, D, _, rfl, rfl, .inl (.inl (.inl hD)), ?_, ?_⟩
      · rw [sums, List.length_map]
        show (bo os).length + (bo os).length * 0 ≤ 16777216
        omega
      rw [join_txt]
      have hn2 : (0 : Int) < ((bo os).length : Nat) := by omega
      have hs := Nat.mod_lt (p - k) (show 0 < os.length by omega)
      have hen : ((List.replicate (k / (bo os).length + 2) (bo os)).flatten).length ≤ 100000 := by
        rw [rep_length]
        have h1 : k / (bo os).length ≤ k := Nat.div_le_self _ _
        have := Nat.mul_le_mul (show k / (bo os).length + 2 ≤ 67 by omega) (show (bo os).length ≤ 64 by omega)
        omega
      refine ⟨fun v G2 => G2 = G' ∧ v = .str (txt (List.replicate (k / (bo os).length + 2) (bo os)).flatten), ⟨.str (txt (bo os)), rfl, fun v G2 => G2 = G' ∧ v = .int ((k / (bo os).length + 2 : Nat) : Int), ⟨.int k, rfl, .str (txt (bo os)), rfl, txt (bo os), rfl, ?_, _, _, rfl, rfl, ?_, _, _, rfl, rfl, rfl, ?_⟩, fun v G2 hv => ?_⟩, fun v G2 hv => ?_⟩
      · rw [txt_length, sizeLine_eq]
        omega
      · rw [txt_length]
        exact ⟨hn2, by omega⟩
      · show V.int ((k : Int) / ((txt (bo os)).length : Nat) + 2) = _
        rw [txt_length]
        rfl
      · obtain ⟨rfl, rfl⟩ := hv
        refine ⟨txt (bo os), _, rfl, rfl, mulOk_txt (by omega) ?_, rfl, ?_⟩
        · have h1 : k / (bo os).length ≤ k := Nat.div_le_self _ _
          omega
        · show V.str (Txt.mul (txt (bo os)) ((k / (bo os).length + 2 : Nat) : Int)) = _
          rw [txt_mul]
      obtain ⟨rfl, rfl⟩ := hv
      have ez : ("0" : Str) = txt [false] := by decide +kernel
      refine ⟨fun v G => G = G2 ∧ v = .str (txt (List.replicate (L - k) false)), ⟨fun v G => G = G2 ∧ v = .int ((L - k : Nat) : Int), ⟨.int L, rfl, .int k, rfl, _, _, rfl, rfl, rfl, ?_⟩, fun v G hv => ?_⟩, fun v G hv => ?_⟩
      · show V.int ((L : Int) - (k : Int)) = _
        congr 1
        omega
      · obtain ⟨rfl, rfl⟩ := hv
        refine ⟨("0" : Str), _, rfl, rfl, ?_, rfl, ?_⟩
        · rw [ez]
          exact mulOk_txt (by decide) (by omega)
        · show V.str (Txt.mul ("0" : Str) ((L - k : Nat) : Int)) = _
          rw [ez, txt_mul]
          congr 2
          exact List.flatten_replicate_singleton
      obtain ⟨rfl, rfl⟩ := hv
      refine ⟨.str (txt (List.replicate (k / (bo os).length + 2) (bo os)).flatten), rfl, .int (((p - k) % os.length : Nat) : Int), rfl, _, rfl, fun v G3 => G3 = G ∧ v = .int (((p - k) % os.length + k : Nat) : Int), ⟨.int _, rfl, .int k, rfl, _, _, rfl, rfl, rfl, rfl⟩, fun v G3 hv => ?_⟩
      obtain ⟨rfl, rfl⟩ := hv
      have e2 : cutS (txt (List.replicate (k / (bo os).length + 2) (bo os)).flatten) (some (((p - k) % os.length : Nat) : Int)) (some (((p - k) % os.length + k : Nat) : Int)) = txt (run (bo os) (p - k) k) := by
        have en := enough (bo os).length k (p - k) (by omega)
        rw [txt_cut _ _ _ (by omega) (by rw [rep_length, ← blen]; exact en), Nat.add_sub_cancel_left, ← blen, run_cut (by omega) _ _ _ en]
      refine ⟨_, rfl, _, rfl, ?_, _, _, rfl, rfl, ?_, ?_⟩
      · rw [txt_length, sizeLine_eq]
        omega
      · have h1 : (txt (List.replicate (L - k) false)).length + (cutS (txt (List.replicate (k / (bo os).length + 2) (bo os)).flatten) (some (((p - k) % os.length : Nat) : Int)) (some (((p - k) % os.length + k : Nat) : Int))).length ≤ sizeLine := by
          rw [e2, txt_length, txt_length, List.length_replicate, run_len, sizeLine_eq]
          omega
        exact h1
      · have h2 := qq G3 (sm)
        rw [← txt_app, ← e2] at h2
        exact h2
end
end Pf
namespace Pf
open PySem PySem.Spec PyProof.Rows L2 Gk
/-- a scheme: its word, its length, its bits -/
def planV (w : Str) (z : Int) : Option Int → List V
  | none => [.str w, .int z]
  | some t => [.str w, .int z, .int t]
def PlanOk (w : Str) (z : Int) (x : Option Int) : Prop := 0 ≤ z ∧ z ≤ 64 ∧ ((w = "folded" ∧ ∃ t, x = some t ∧ 0 ≤ t ∧ t ≤ 16) ∨ ((w = "own" ∨ w = "split" ∨ w = "shared") ∧ x = none))
end Pf
namespace Pf
open PySem PySem.Spec PyProof.Rows L2 Gk Fold
/-! ### histories and cells -/
def brAt (l : List (Int × Int)) (m : Nat) : Int := (l.getD (m % l.length) (0, 0)).1
def hOs (l : List (Int × Int)) (w : Str) (m : Nat) : List Int := if w = "own" then outs (brAt l m) l else l.map (·.2)
def hN (l : List (Int × Int)) (w : Str) (m : Nat) : Nat := if w = "own" then m / l.length * (outs (brAt l m) l).length + (outs (brAt l m) (l.take (m % l.length))).length else m
def hist (l : List (Int × Int)) (w : Str) (m L : Nat) : List Bool := past (bo (hOs l w m)) (hN l w m) L
def cellD (w : Str) (x : Option Int) (b : Nat) (h : List Bool) : PyData := if w = "folded" then .int ((fol h (x.getD 0).toNat b : Nat) : Int) else if w = "shared" then .str (txt h) else .tuple [.int (b : Int), .str (txt h)]
theorem hist_len (l : List (Int × Int)) (w : Str) (m L : Nat) : (hist l w m L).length = L := past_len _ _ _
theorem at_mod {l : List (Int × Int)} (h : 1 ≤ l.length) (m : Nat) : l[m % l.length]? = some (l.getD (m % l.length) (0, 0)) := by
  have : m % l.length < l.length := Nat.mod_lt _ h
  rw [List.getD_eq_getElem?_getD, List.getElem?_eq_getElem this]
  rfl
theorem brAt_in {l : List (Int × Int)} (h : 1 ≤ l.length) (m : Nat) : ∃ x ∈ l, x.1 = brAt l m := ⟨_, List.mem_of_getElem? (at_mod h m), rfl⟩
theorem outs_pos {l : List (Int × Int)} {b : Int} (h : ∃ x ∈ l, x.1 = b) : 1 ≤ (outs b l).length := by
  obtain ⟨x, hx, e⟩ := h
  unfold outs
  rw [List.length_map]
  exact List.length_pos_of_mem (List.mem_filter.mpr ⟨hx, decide_eq_true e⟩)
theorem hOs_ok {l : List (Int × Int)} (fair : Fair l) (h : 1 ≤ l.length) (h2 : l.length ≤ 64) (w : Str) (m : Nat) : Bits (hOs l w m) ∧ 1 ≤ (hOs l w m).length ∧ (hOs l w m).length ≤ 64 := by
  unfold hOs
  split
  · have := outs_len (brAt l m) l
    exact ⟨outs_bits fair, outs_pos (brAt_in h m), by omega⟩
  · refine ⟨fun o ho => ?_, by rw [List.length_map]; exact h, by rw [List.length_map]; exact h2⟩
    obtain ⟨x, hx, rfl⟩ := List.mem_map.mp ho
    exact (fair x hx).2
theorem planV0 (w : Str) (z : Int) (x : Option Int) : atI (planV w z x) 0 = some (.str w) := by cases x <;> rfl
theorem planV1 (w : Str) (z : Int) (x : Option Int) : atI (planV w z x) 1 = some (.int z) := by cases x <;> rfl
abbrev sHist : Stmt := topS 10
abbrev sCellOf : Stmt := topS 14
abbrev sCellAt : Stmt := topS 11
abbrev nHist : List Str := ["trace", "scheme", "moment", "rounds", "position", "branch", "outcomes", "passed"]
abbrev nCellAt : List Str := ["trace", "scheme", "moment", "branch"]
theorem scHist : FnScope nHist ["trace", "scheme", "moment"] (defScope sHist) := ⟨rfl, rfl, rfl, by decide +kernel, rfl, by decide +kernel, by decide +kernel⟩
theorem scCellOf : FnScope ["scheme", "branch", "history"] ["scheme", "branch", "history"] (defScope sCellOf) := ⟨rfl, rfl, rfl, by decide +kernel, rfl, by decide +kernel, by decide +kernel⟩
theorem scCellAt : FnScope nCellAt ["trace", "scheme", "moment"] (defScope sCellAt) := ⟨rfl, rfl, rfl, by decide +kernel, rfl, by decide +kernel, by decide +kernel⟩
section
variable {P : Program} {w : World} {K : PySem.W.Frag} {mg : Str → Option Value} {base : Heap}
def spHist (K : PySem.W.Frag) : Sp := fun vs H Q _ => ∃ (t c : Addr) (l : List (Int × Int)) (k : Str) (z : Int) (x : Option Int) (m : Nat), vs = [.ref t, .ref c, .int (m : Int)] ∧ PairsAt K H t l ∧ Fair l ∧ 1 ≤ l.length ∧ l.length ≤ 64 ∧ SqT K H c (planV k z x) ∧ 0 ≤ z ∧ z ≤ 65 ∧ m ≤ 10 ^ 19 ∧
  ∀ H', Same H H' → Q (.str (txt (hist l k m z.toNat))) H'
theorem ok_hist {f : Addr} {fd : FuncData} (DO : Dfn P w K mg base 2 "outcomes_of" ["trace", "branch"] (spOuts K)) (DA : Dfn P w K mg base 1 "all_outcomes" ["trace"] (spAll K)) (DT : Dfn P w K mg base 1 "_times" ["pairs", "branch"] (spTimes K)) (DN : Dfn P w K mg base 1 "_newest" ["outcomes", "passed", "length"] (spNew K))
    (ml : mg "len" = none) (md : mg "divmod" = none) (F : L2.Fun K "history_at" "history_at" sHist f fd) : FnOk P w K mg base L2.CX0 3 f fd ["trace", "scheme", "moment"] (spHist K) := by
  refine F.ok scHist (fun vs H Q E h => ?_) (fun cdv A outer s H vs Q E hr h => ?_)
  · obtain ⟨t, c, l, k, z, x, m, rfl, _⟩ := h
    rfl
  · obtain ⟨t, c, l, k, z, x, m, rfl, hl, fair, l1, l64, hc, z0, z1, hm, q⟩ := h
    obtain ⟨xs, sq, hA, len⟩ := PairsAt.out hl
    refine ⟨_, pss_cons (ps_asg (pe_callB call_divmod (by rfl) md (by decide +kernel) (pa_cons (pv 2) (pa_cons (pe_callB call_len_seq (by rfl) ml PySem.boot_len (pa_cons (pv 0) pa_nil)) pa_nil))) (pg_tup (by rfl) (pgs_cons (pg_name (i := 3) scHist.nd rfl (.inl rfl)) (pgs_cons (pg_name (i := 4) scHist.nd rfl (.inl rfl)) pgs_nil))))
      (C8.pss_cut (ps_if (pt_cmpR op_eq (pe_ix ix_tup (pv 1) pe_int (fun _ _ => rfl)) pe_str (nomark _))
          (pss_cons (ps_set (i := 5) scHist.nd rfl (.inl rfl) (pe_ix ix_tup (pe_ix ix_tup (pv 0) (pv 4) (fun _ _ => rfl)) pe_int (fun _ _ => rfl)))
          (pss_cons (ps_set (i := 6) scHist.nd rfl (.inl rfl) (pe_d DO hr (by decide) (by rfl) (pa_cons (pv 0) (pa_cons (pv 5) pa_nil))))
          (pss_one (ps_set (i := 7) scHist.nd rfl (.inl rfl) (pe_op op_add (pe_op op_mul (pv 3) (pe_callB call_len_seq (by rfl) ml PySem.boot_len (pa_cons (pv 6) pa_nil))) (pe_d DT hr (by decide) (by rfl) (pa_cons (pe_slice sl_tupU (pv 0) po_none (po_some (pv 4))) (pa_cons (pv 5) pa_nil))))))))
          (pss_cons (ps_set (i := 6) scHist.nd rfl (.inl rfl) (pe_d DA hr (by decide) (by rfl) (pa_cons (pv 0) pa_nil)))
          (pss_one (ps_set (i := 7) scHist.nd rfl (.inl rfl) (pv 2)))))
      (pss_one (ps_ret (pe_d DN hr (by decide) (by rfl) (pa_cons (pv 6) (pa_cons (pv 7) (pa_cons (pe_ix ix_tup (pv 1) pe_int (fun _ _ => rfl)) pa_nil))))))), ?_⟩
    have lpos : (0 : Int) < (xs.length : Nat) := by omega
    have hpm : m % l.length < l.length := Nat.mod_lt _ (by omega)
    refine ⟨.int m, rfl, .ref t, rfl, t, _, rfl, .inr sq, _, _, rfl, ⟨lpos, by omega⟩, fun d nd => ⟨d, _, rfl, .inl (.inl upd_same), rfl, _, _, rfl, _, _, rfl, rfl, ?_⟩⟩
    have s1 : Same H (upd H d (.tup [.int ((m : Int) / (xs.length : Nat)), .int ((m : Int) % (xs.length : Nat))])) := same_new nd
    generalize upd H d (.tup [.int ((m : Int) / (xs.length : Nat)), .int ((m : Int) % (xs.length : Nat))]) = H1 at s1
    refine ⟨fun σ H' => ∃ (p : Addr) (y3 y4 y5 : Option V), σ = [some (.ref t), some (.ref c), some (.int m), y3, y4, y5, some (.ref p), some (.int (hN l k m : Nat))] ∧ SqT K H' p ((hOs l k m).map V.int) ∧ Same H H', ?_, fun σ H' hM => ?_⟩
    · have sq1 := Same.seqT s1 sq
      have ed : ((m : Int) / (xs.length : Nat)) = ((m / l.length : Nat) : Int) := by rw [len]; rfl
      have em : ((m : Int) % (xs.length : Nat)) = ((m % l.length : Nat) : Int) := by rw [len]; rfl
      rw [ed, em]
      refine ⟨.ref c, rfl, c, _, 0, .str k, rfl, rfl, Same.seqT s1 hc, planV0 _ _ _, rfl, _, rfl, ite2 (fun e => ?_) (fun e => ?_)⟩
      · have e1 : V.str k = V.str "own" := of_decide_eq_true e
        injection e1 with e1
        have gx : xs[m % l.length]? = some (xs[m % l.length]'(by omega)) := List.getElem?_eq_getElem (by omega)
        obtain ⟨y, a, hy, ea, sa⟩ := pd_at hA gx
        have ey : y = l.getD (m % l.length) (0, 0) := Option.some.inj (hy.symm.trans (at_mod l1 m))
        have eb : y.1 = brAt l m := by rw [ey]; rfl
        have gat : atI xs ((m % l.length : Nat) : Int) = some (.ref a) := by rw [atI_nat gx, ea]
        refine ⟨.ref t, rfl, .int ((m % l.length : Nat) : Int), rfl, t, xs, _, .ref a, rfl, rfl, sq1, gat, a, _, 0, .int y.1, rfl, rfl, Same.seqT s1 sa, rfl, ?_⟩
        rw [eb]
        refine ⟨.ref t, rfl, .int (brAt l m), rfl, t, l, brAt l m, rfl, hl.keep (Same.keep s1), fair, l64, brAt_in l1 m, fun H2 p s2 t2 => ?_⟩
        have lo := outs_len (brAt l m) l
        refine ⟨.int ((m / l.length : Nat) : Int), rfl, .ref p, rfl, p, _, rfl, .inr t2, _, _, rfl, rfl, .inr ⟨by rw [List.length_map]; omega, by rw [List.length_map]; omega⟩, .ref t, rfl, .int ((m % l.length : Nat) : Int), rfl, _, rfl, t, xs, rfl, Same.seqT s2 sq1, fun r H3 s3 t3 => ?_⟩
        have ec : cutV xs none (some ((m % l.length : Nat) : Int)) = xs.take (m % l.length) := cut_to _
        rw [ec] at t3
        have s13 := (s1.trans s2).trans s3
        have pr : PairsAt K H3 r (l.take (m % l.length)) := .tup t3 (by rw [List.map_take]; exact DpAll.take _ (pairs_keep hA (Same.keep s13)))
        refine ⟨.int (brAt l m), rfl, r, l.take (m % l.length), brAt l m, rfl, pr, by rw [List.length_take]; omega, fun H4 s4 => ⟨_, _, rfl, rfl, p, some (.int ((m / l.length : Nat) : Int)), some (.int ((m % l.length : Nat) : Int)), some (.int (brAt l m)), ?_, ?_, s13.trans s4⟩⟩
        · have : hN l k m = m / l.length * (outs (brAt l m) l).length + (outs (brAt l m) (l.take (m % l.length))).length := by
            unfold hN
            rw [if_pos e1]
          rw [this, List.length_map]
          rfl
        · have : hOs l k m = outs (brAt l m) l := by
            unfold hOs
            rw [if_pos e1]
          rw [this]
          exact Same.seqT (s3.trans s4) t2
      · have ne : k ≠ "own" := fun z => e (decide_eq_true (by rw [z]))
        refine ⟨.ref t, rfl, t, l, rfl, hl.keep (Same.keep s1), l64, fun H2 p s2 t2 => ⟨.int m, rfl, p, some (.int ((m / l.length : Nat) : Int)), some (.int ((m % l.length : Nat) : Int)), none, ?_, ?_, s1.trans s2⟩⟩
        · have : hN l k m = m := by
            unfold hN
            rw [if_neg ne]
          rw [this]
          rfl
        · have : hOs l k m = l.map (·.2) := by
            unfold hOs
            rw [if_neg ne]
          rw [this]
          exact t2
    · obtain ⟨p, y3, y4, y5, rfl, tp, sm⟩ := hM
      obtain ⟨b1, b2, b3⟩ := hOs_ok fair l1 l64 k m
      refine ⟨.ref p, rfl, .int (hN l k m : Nat), rfl, .ref c, rfl, c, _, 1, .int z, rfl, rfl, Same.seqT sm hc, planV1 _ _ _, p, hOs l k m, hN l k m, z.toNat, ?_, tp, b1, b2, b3, by omega, fun H2 s2 => q H2 (sm.trans s2)⟩
      rw [Int.toNat_of_nonneg z0]
      rfl
def spCell (K : PySem.W.Frag) : Sp := fun vs H Q _ => ∃ (c : Addr) (k : Str) (z : Int) (x : Option Int) (b : Nat) (h : List Bool), vs = [.ref c, .int (b : Int), .str (txt h)] ∧ SqT K H c (planV k z x) ∧ PlanOk k z x ∧ b < 8 ∧ h.length ≤ 64 ∧ ∀ H' v, Same H H' → Dp K H' v (cellD k x b h) → Q v H'
theorem ok_cell {f : Addr} {fd : FuncData} (DF : Dfn P w K mg base 2 "fold" ["history", "bits", "branch"] spFold) (F : L2.Fun K "cell_of" "cell_of" sCellOf f fd) : FnOk P w K mg base L2.CX0 3 f fd ["scheme", "branch", "history"] (spCell K) := by
  refine F.ok scCellOf (fun vs H Q E h => ?_) (fun cdv A outer s H vs Q E hr h => ?_)
  · obtain ⟨c, k, z, x, b, h, rfl, _⟩ := h
    rfl
  · obtain ⟨c, k, z, x, b, h, rfl, hc, ok, hb, hh, q⟩ := h
    refine ⟨_, pss_cons (ps_if (pt_cmpR op_eq (pe_ix ix_tup (pv 0) pe_int (fun _ _ => rfl)) pe_str (nomark _)) (pss_one (ps_ret (pe_d DF hr (by decide) (by rfl) (pa_cons (pv 2) (pa_cons (pe_ix ix_tup (pv 0) pe_int (fun _ _ => rfl)) (pa_cons (pv 1) pa_nil)))))) pss_nil)
      (pss_cons (ps_if (pt_cmpR op_eq (pe_ix ix_tup (pv 0) pe_int (fun _ _ => rfl)) pe_str (nomark _)) (pss_one (ps_ret (pv 2))) pss_nil)
      (pss_one (ps_ret (pe_tup (pa_cons (pv 1) (pa_cons (pv 2) pa_nil)))))), ?_⟩
    refine ⟨.ref c, rfl, c, _, 0, .str k, rfl, rfl, hc, planV0 _ _ _, rfl, _, rfl, ite2 (fun e => ?_) (fun e => ?_)⟩
    · have e1 : V.str k = V.str "folded" := of_decide_eq_true e
      injection e1 with e1
      obtain ⟨_, _, ⟨_, t, rfl, t0, t1⟩ | ⟨h2, _⟩⟩ := ok
      · refine ⟨.str (txt h), rfl, .ref c, rfl, c, _, 2, .int t, rfl, rfl, hc, rfl, .int b, rfl, h, t.toNat, b, ?_, hh, by omega, hb, fun H' s' => q H' _ s' ?_⟩
        · rw [Int.toNat_of_nonneg t0]
          rfl
        · unfold cellD
          rw [if_pos e1]
          exact .int _
      · rw [e1] at h2
        exact absurd h2 (by decide +kernel)
    · have ne : k ≠ "folded" := fun z => e (decide_eq_true (by rw [z]))
      refine ⟨.ref c, rfl, c, _, 0, .str k, rfl, rfl, hc, planV0 _ _ _, rfl, _, rfl, ite2 (fun g => ?_) (fun g => ?_)⟩
      · have g1 : V.str k = V.str "shared" := of_decide_eq_true g
        injection g1 with g1
        refine ⟨.str (txt h), rfl, q H _ (Same.refl H) ?_⟩
        unfold cellD
        rw [if_neg ne, if_pos g1]
        exact .str _
      · have ng : k ≠ "shared" := fun z => g (decide_eq_true (by rw [z]))
        refine ⟨.int b, rfl, .str (txt h), rfl, by show 2 ≤ sizeLine; decide, fun p np => q _ _ (same_new np) ?_⟩
        unfold cellD
        rw [if_neg ne, if_neg ng]
        exact .tup (.inl (.inl upd_same)) (.cons (.int _) (.cons (.str _) .nil))
def cellA (l : List (Int × Int)) (k : Str) (z : Int) (x : Option Int) (m : Nat) : PyData := cellD k x (brAt l m).toNat (hist l k m z.toNat)
def spCellAt (K : PySem.W.Frag) : Sp := fun vs H Q _ => ∃ (t c : Addr) (l : List (Int × Int)) (k : Str) (z : Int) (x : Option Int) (m : Nat), vs = [.ref t, .ref c, .int (m : Int)] ∧ PairsAt K H t l ∧ Fair l ∧ 1 ≤ l.length ∧ l.length ≤ 64 ∧ SqT K H c (planV k z x) ∧ PlanOk k z x ∧ m ≤ 10 ^ 19 ∧
  ∀ H' v, Same H H' → Dp K H' v (cellA l k z x m) → Q v H'
theorem ok_cellAt {f : Addr} {fd : FuncData} (DH : Dfn P w K mg base 3 "history_at" ["trace", "scheme", "moment"] (spHist K)) (DC : Dfn P w K mg base 3 "cell_of" ["scheme", "branch", "history"] (spCell K)) (ml : mg "len" = none)
    (F : L2.Fun K "cell_at" "cell_at" sCellAt f fd) : FnOk P w K mg base L2.CX0 4 f fd ["trace", "scheme", "moment"] (spCellAt K) := by
  refine F.ok scCellAt (fun vs H Q E h => ?_) (fun cdv A outer s H vs Q E hr h => ?_)
  · obtain ⟨t, c, l, k, z, x, m, rfl, _⟩ := h
    rfl
  · obtain ⟨t, c, l, k, z, x, m, rfl, hl, fair, l1, l64, hc, ok, hm, q⟩ := h
    obtain ⟨xs, sq, hA, len⟩ := PairsAt.out hl
    refine ⟨_, pss_cons (ps_set (i := 3) scCellAt.nd rfl (.inl rfl) (pe_ix ix_tup (pe_ix ix_tup (pv 0) (pe_mid (pe_op op_mod (pv 2) (pe_callB call_len_seq (by rfl) ml PySem.boot_len (pa_cons (pv 0) pa_nil)))) (fun _ _ => rfl)) pe_int (fun _ _ => rfl)))
      (pss_one (ps_ret (pe_d DC hr (by decide) (by rfl) (pa_cons (pv 1) (pa_cons (pv 3) (pa_cons (pe_d DH hr (by decide) (by rfl) (pa_cons (pv 0) (pa_cons (pv 1) (pa_cons (pv 2) pa_nil)))) pa_nil)))))), ?_⟩
    have lpos : (0 : Int) < (xs.length : Nat) := by omega
    have hpm : m % l.length < l.length := Nat.mod_lt _ (by omega)
    refine ⟨.ref t, rfl, fun v H' => H' = H ∧ v = .int ((m % l.length : Nat) : Int), ⟨.int m, rfl, .ref t, rfl, t, _, rfl, .inr sq, _, _, rfl, rfl, lpos, rfl, ?_⟩, fun v H' hv => ?_⟩
    · show V.int ((m : Int) % (xs.length : Nat)) = _
      rw [len]
      rfl
    obtain ⟨rfl, rfl⟩ := hv
    have gx : xs[m % l.length]? = some (xs[m % l.length]'(by omega)) := List.getElem?_eq_getElem (by omega)
    obtain ⟨y, a, hy, ea, sa⟩ := pd_at hA gx
    have ey : y = l.getD (m % l.length) (0, 0) := Option.some.inj (hy.symm.trans (at_mod l1 m))
    have eb : y.1 = brAt l m := by rw [ey]; rfl
    have fy := fair y (List.mem_of_getElem? hy)
    rw [eb] at fy
    have gat : atI xs ((m % l.length : Nat) : Int) = some (.ref a) := by rw [atI_nat gx, ea]
    refine ⟨t, xs, _, .ref a, rfl, rfl, sq, gat, a, _, 0, .int y.1, rfl, rfl, sa, rfl, ?_⟩
    rw [eb]
    refine ⟨.ref c, rfl, .int (brAt l m), rfl, .ref t, rfl, .ref c, rfl, .int m, rfl, t, c, l, k, z, x, m, rfl, hl, fair, l1, l64, hc, ok.1, by have := ok.2.1; omega, hm, fun H2 s2 => ?_⟩
    refine ⟨c, k, z, x, (brAt l m).toNat, hist l k m z.toNat, ?_, Same.seqT s2 hc, ok, by omega, by rw [hist_len]; have := ok.2.1; omega, fun H3 v s3 d3 => q H3 v (s2.trans s3) d3⟩
    rw [Int.toNat_of_nonneg fy.1.1]
    rfl
end
end Pf
namespace Pf
open PySem PySem.Spec PyProof.Rows L2 Gk Fold
theorem pt_mid {X : Cx} {e : Expr} {t : TT} (h : PT X e t) : PT X e (tMidT t) :=
  ⟨fun pins s σ H Q I ⟨M, h1, h2⟩ => thn (h.run pins s σ H M I h1) fun u s1 ⟨H1, I1, q⟩ => ⟨H1, I1, h2 u H1 q⟩⟩
/-! ### backward from a moment -/
/-- how many outcomes that count came ahead of a moment -/
def cj (l : List (Int × Int)) (k : Str) (b : Int) (j : Nat) : Nat := if k = "own" then j / l.length * (outs b l).length + (outs b (l.take (j % l.length))).length else j
/-- whether the outcome of a moment counts -/
def counts (l : List (Int × Int)) (k : Str) (b : Int) (j : Nat) : Prop := k ≠ "own" ∨ brAt l j = b
theorem cj_zero (l : List (Int × Int)) (k : Str) (b : Int) : cj l k b 0 = 0 := by
  unfold cj
  split
  · simp [outs]
  · rfl
theorem cj_step {l : List (Int × Int)} (h : 1 ≤ l.length) (k : Str) (b : Int) (j : Nat) [Decidable (counts l k b j)] : cj l k b (j + 1) = cj l k b j + (if counts l k b j then 1 else 0) := by
  by_cases e : k = "own"
  · unfold cj
    rw [if_pos e, if_pos e]
    have hj := at_mod h j
    have ot := outs_take (b := b) hj
    have one : (outs b (l.take (j % l.length + 1))).length = (outs b (l.take (j % l.length))).length + (if counts l k b j then 1 else 0) := by
      rw [ot, List.length_append]
      congr 1
      by_cases g : brAt l j = b
      · rw [if_pos (show counts l k b j from .inr g), if_pos (show (l.getD (j % l.length) (0, 0)).1 = b from g)]
        rfl
      · rw [if_neg (fun z : counts l k b j => z.elim (fun z => z e) g), if_neg (show ¬ (l.getD (j % l.length) (0, 0)).1 = b from g)]
        rfl
    have lt : j % l.length < l.length := Nat.mod_lt _ h
    by_cases g : j % l.length + 1 < l.length
    · have em : (j + 1) % l.length = j % l.length + 1 := by
        rw [Nat.add_mod, Nat.mod_eq_of_lt (show 1 < l.length by omega), Nat.mod_eq_of_lt g]
      have ed : (j + 1) / l.length = j / l.length := by
        have h1 := Nat.div_add_mod (j + 1) l.length
        have h2 := Nat.div_add_mod j l.length
        rw [em] at h1
        have h3 : l.length * ((j + 1) / l.length) = l.length * (j / l.length) := by omega
        exact Nat.eq_of_mul_eq_mul_left h h3
      rw [em, ed, one]
      omega
    · have g2 : j % l.length + 1 = l.length := by omega
      have h2 := Nat.div_add_mod j l.length
      have ej : j + 1 = l.length * (j / l.length + 1) := by rw [Nat.mul_add]; omega
      have em : (j + 1) % l.length = 0 := by rw [ej, Nat.mul_mod_right]
      have ed : (j + 1) / l.length = j / l.length + 1 := by rw [ej, Nat.mul_div_cancel_left _ h]
      rw [em, ed]
      rw [g2, List.take_length] at one
      rw [List.take_zero, show (outs b ([] : List (Int × Int))).length = 0 from rfl, Nat.add_mul, one]
      omega
  · unfold cj
    rw [if_neg e, if_neg e, if_pos (show counts l k b j from .inl e)]
theorem outs_at {b : Int} {l : List (Int × Int)} {i : Nat} {x : Int × Int} (h : l[i]? = some x) (e : x.1 = b) : (outs b l)[(outs b (l.take i)).length]? = some x.2 := by
  have hi : i < l.length := (List.getElem?_eq_some_iff.mp h).1
  have sp : l = l.take (i + 1) ++ l.drop (i + 1) := (List.take_append_drop _ _).symm
  have os : outs b l = outs b (l.take (i + 1)) ++ outs b (l.drop (i + 1)) := by
    conv => lhs; rw [sp]
    unfold outs
    rw [List.filter_append, List.map_append]
  rw [os, outs_take h, if_pos e, List.append_assoc, List.getElem?_append_right (Nat.le_refl _), Nat.sub_self]
  rfl
/-- the digits that are gone round -/
def hB (l : List (Int × Int)) (k : Str) (b : Int) : List Bool := bo (if k = "own" then outs b l else l.map (·.2))
theorem cj_dig {l : List (Int × Int)} (h : 1 ≤ l.length) {k : Str} {b : Int} {j : Nat} (c : counts l k b j) : (hB l k b).getD (cj l k b j % (hB l k b).length) false = decide ((l.getD (j % l.length) (0, 0)).2 = 1) := by
  have hj := at_mod h j
  have lt : j % l.length < l.length := Nat.mod_lt _ h
  unfold hB
  rw [bo_len]
  by_cases e : k = "own"
  · rw [if_pos e]
    have eb : brAt l j = b := c.resolve_left fun z => z e
    have oa := outs_at hj eb
    have lq : (outs b (l.take (j % l.length))).length < (outs b l).length := (List.getElem?_eq_some_iff.mp oa).1
    have ec : cj l k b j % (outs b l).length = (outs b (l.take (j % l.length))).length := by
      unfold cj
      rw [if_pos e, Nat.mul_comm, Nat.mul_add_mod, Nat.mod_eq_of_lt lq]
    rw [ec, List.getD_eq_getElem?_getD]
    unfold bo
    rw [List.getElem?_map, oa]
    rfl
  · rw [if_neg e, List.length_map]
    have ec : cj l k b j = j := by
      unfold cj
      rw [if_neg e]
    rw [ec, List.getD_eq_getElem?_getD]
    unfold bo
    rw [List.getElem?_map, List.getElem?_map, hj]
    rfl
theorem run_succ (bs : List Bool) (a k : Nat) : run bs a (k + 1) = bs.getD (a % bs.length) false :: run bs (a + 1) k := by
  unfold run
  rw [List.range_succ_eq_map, List.map_cons, List.map_map]
  congr 1
  refine List.map_congr_left fun j _ => ?_
  show bs.getD ((a + (j + 1)) % bs.length) false = _
  rw [show a + (j + 1) = a + 1 + j by omega]
theorem hist_cj (l : List (Int × Int)) (k : Str) (m L : Nat) : hist l k m L = past (hB l k (brAt l m)) (cj l k (brAt l m) m) L := rfl
end Pf
namespace Pf
open PySem PySem.Spec PyProof.Rows L2 Gk Fold
/-! ### what is shown of histories, cells and schemes -/
theorem tame_txt (h : List Bool) : Gk.tame (.str (txt h)) = true := by
  show (txt h).cps.all (· < 0x110000) = true
  rw [Array.all_eq_true]
  intro i hi
  obtain ⟨b, _, e⟩ := txt_at (l := h) (i := i) (Array.getElem?_eq_getElem hi)
  rw [e]
  cases b <;> decide
theorem cost_txt (h : List Bool) : cost (.str (txt h)) = h.length + 1 := by
  show (txt h).cps.size + 1 = _
  rw [txt_size]
/-- the data of a scheme -/
def planD (w : Str) (z : Int) : Option Int → PyData
  | none => .tuple [.str w, .int z]
  | some t => .tuple [.str w, .int z, .int t]
theorem plan_dp {K : PySem.W.Frag} {H : Hp} {p : Addr} {w : Str} {z : Int} : ∀ {x : Option Int}, SqT K H p (planV w z x) → Dp K H (.ref p) (planD w z x)
  | none, h => .tup h (.cons (.str w) (.cons (.int z) .nil))
  | some t, h => .tup h (.cons (.str w) (.cons (.int z) (.cons (.int t) .nil)))
theorem word_ok {w : Str} (h : w = "folded" ∨ w = "own" ∨ w = "split" ∨ w = "shared") : w.cps.all (· < 0x110000) = true ∧ w.cps.size ≤ 6 := by
  rcases h with rfl | rfl | rfl | rfl <;> decide +kernel
theorem plan_tame {w : Str} {z : Int} {x : Option Int} (h : PlanOk w z x) : Gk.tame (planD w z x) = true ∧ cost (planD w z x) ≤ 300 ∧ (planD w z x).depth ≤ 2 := by
  obtain ⟨z0, z1, h⟩ := h
  rcases h with ⟨hw, t, rfl, t0, t1⟩ | ⟨hw, rfl⟩
  · obtain ⟨a, b⟩ := word_ok (.inl hw)
    refine ⟨?_, ?_, ?_⟩
    · simp only [planD, Gk.tame, tameAll, a, Bool.true_and, Bool.and_true, Bool.and_eq_true, decide_eq_true_eq]
      omega
    · simp only [planD, Gk.cost, costAll]
      omega
    · simp only [planD, PyData.depth, PyData.depthAll]
      omega
  · obtain ⟨a, b⟩ := word_ok (.inr hw)
    refine ⟨?_, ?_, ?_⟩
    · simp only [planD, Gk.tame, tameAll, a, Bool.true_and, Bool.and_true, Bool.and_eq_true, decide_eq_true_eq]
      omega
    · simp only [planD, Gk.cost, costAll]
      omega
    · simp only [planD, PyData.depth, PyData.depthAll]
      omega
theorem fol_lt {l : List Bool} {n b : Nat} (hn : n ≤ 16) : fol l n b < 65536 := by
  have h2 := Nat.pow_le_pow_right (show 0 < 2 by decide) hn
  unfold fol
  split
  · decide
  · exact Nat.lt_of_lt_of_le (Nat.xor_lt_two_pow (Nat.mod_lt _ (Nat.two_pow_pos n)) (zig_lt n (by omega) _ _)) h2
theorem cell_tame {k : Str} {z : Int} {x : Option Int} {b : Nat} {h : List Bool} (ok : PlanOk k z x) (hb : b < 8) (hh : h.length ≤ 64) : Gk.tame (cellD k x b h) = true ∧ cost (cellD k x b h) ≤ 200 ∧ (cellD k x b h).depth ≤ 2 := by
  have th := tame_txt h
  have ch := cost_txt h
  unfold cellD
  split
  · have hx : (x.getD 0).toNat ≤ 16 := by
      obtain ⟨_, _, ⟨_, t, rfl, t0, t1⟩ | ⟨_, rfl⟩⟩ := ok
      · show t.toNat ≤ 16
        omega
      · show (0 : Int).toNat ≤ 16
        decide
    have lt := fol_lt (l := h) (b := b) hx
    refine ⟨?_, ?_, ?_⟩
    · simp only [Gk.tame, decide_eq_true_eq]
      omega
    · simp only [Gk.cost]
      omega
    · simp only [PyData.depth]
      omega
  · split
    · refine ⟨th, by omega, ?_⟩
      simp only [PyData.depth]
      omega
    · refine ⟨?_, ?_, ?_⟩
      · simp only [Gk.tame, tameAll, th, Bool.true_and, Bool.and_true, Bool.and_eq_true, decide_eq_true_eq]
        simp only [Gk.tame] at th
        first | exact ⟨by omega, th⟩ | omega
      · simp only [Gk.cost, costAll] at ch ⊢
        omega
      · simp only [PyData.depth, PyData.depthAll]
        omega
theorem fine_two {k : Str} {z : Int} {x : Option Int} {b : Nat} {h : List Bool} (ok : PlanOk k z x) (hb : b < 8) (hh : h.length ≤ 64) : Fine (.list [.str (txt h), cellD k x b h]) := by
  obtain ⟨a1, a2, a3⟩ := cell_tame ok hb hh
  have th := tame_txt h
  have ch := cost_txt h
  refine Fine.tame ?_ ?_ ?_
  · rw [show Gk.tame (.list [.str (txt h), cellD k x b h]) = (Gk.tame (.str (txt h)) && (Gk.tame (cellD k x b h) && true)) by simp only [Gk.tame, tameAll], th, a1]
    rfl
  · simp only [PyData.depth, PyData.depthAll]
    omega
  · rw [show cost (.list [.str (txt h), cellD k x b h]) = cost (.str (txt h)) + 1 + (cost (cellD k x b h) + 1 + 1) by simp only [Gk.cost, costAll], ch]
    omega
theorem fine_lp {l : List (Int × Int)} {k : Str} {z : Int} {x : Option Int} (fair : Fair l) (l2 : l.length ≤ 64) (ok : PlanOk k z x) : Fine (.tuple [.tuple (l.map pd), planD k z x]) := by
  obtain ⟨a1, a2, a3⟩ := plan_tame ok
  have p := plain_pd fair
  have c := p.cost
  have d := p.depth
  rw [List.length_map] at c
  refine Fine.tame ?_ ?_ ?_
  · simp only [Gk.tame, tameAll, p.tame, a1, Bool.and_self]
  · simp only [PyData.depth, PyData.depthAll]
    omega
  · simp only [Gk.cost, costAll]
    omega
end Pf
namespace Pf
open PySem PySem.Spec PyProof.Rows L2 Gk Fold
/-! ### histories at late moments -/
theorem run_period (bs : List Bool) (a k : Nat) : run bs (a + bs.length) k = run bs a k := by
  unfold run
  refine List.map_congr_left fun j _ => ?_
  rw [show a + bs.length + j = a + j + bs.length by omega, Nat.add_mod_right]
theorem past_late {bs : List Bool} {p L : Nat} (h : L ≤ p) : past bs p L = run bs (p - L) L := by
  unfold past
  rw [Nat.min_eq_right h, Nat.sub_self]
  rfl
theorem past_period {bs : List Bool} {p L : Nat} (h : L ≤ p) : past bs (p + bs.length) L = past bs p L := by
  rw [past_late h, past_late (by omega), show p + bs.length - L = p - L + bs.length by omega, run_period]
theorem past_periods {bs : List Bool} {p L : Nat} (h : L ≤ p) : ∀ n : Nat, past bs (p + n * bs.length) L = past bs p L
  | 0 => by rw [Nat.zero_mul, Nat.add_zero]
  | n + 1 => by
    rw [Nat.succ_mul, ← Nat.add_assoc, past_period (by omega), past_periods h n]
theorem run_at {bs : List Bool} {a k i : Nat} (h : i < k) : (run bs a k)[i]? = some (bs.getD ((a + i) % bs.length) false) := by
  unfold run
  rw [List.getElem?_map, List.getElem?_range h]
  rfl
/-- the digit at a place of a history -/
def dig (bs : List Bool) (p L i : Nat) : Bool := if L ≤ p + i then bs.getD ((p + i - L) % bs.length) false else false
theorem past_at {bs : List Bool} {p L i : Nat} (h : i < L) : (past bs p L)[i]? = some (dig bs p L i) := by
  unfold past dig
  by_cases g : i < L - min p L
  · rw [List.getElem?_append_left (by rw [List.length_replicate]; exact g), List.getElem?_replicate, if_pos g, if_neg (by omega)]
  · rw [List.getElem?_append_right (by rw [List.length_replicate]; omega), List.length_replicate, run_at (by omega), if_pos (by omega), show p - min p L + (i - (L - min p L)) = p + i - L by omega]
theorem past_ext {bs : List Bool} {p L : Nat} {xs : List Bool} (hl : xs.length = L) (h : ∀ i, i < L → xs[i]? = some (dig bs p L i)) : xs = past bs p L := by
  refine List.ext_getElem? fun i => ?_
  by_cases g : i < L
  · rw [h i g, past_at g]
  · rw [List.getElem?_eq_none (by omega), List.getElem?_eq_none (by rw [past_len]; omega)]
theorem past_tail (bs : List Bool) (p L : Nat) : (past bs p (L + 1)).drop 1 = past bs p L := by
  refine past_ext (by rw [List.length_drop, past_len]; omega) fun i hi => ?_
  rw [List.getElem?_drop, Nat.add_comm 1 i, past_at (by omega)]
  unfold dig
  by_cases g : L ≤ p + i
  · rw [if_pos g, if_pos (by omega), show p + (i + 1) - (L + 1) = p + i - L by omega]
  · rw [if_neg g, if_neg (by omega)]
theorem past_last {bs : List Bool} {p L : Nat} (h : 1 ≤ p) : (past bs p (L + 1))[L]? = some (bs.getD ((p - 1) % bs.length) false) := by
  rw [past_at (by omega)]
  unfold dig
  rw [if_pos (by omega), show p + L - (L + 1) = p - 1 by omega]
/-- one outcome more -/
theorem past_push (bs : List Bool) (p L : Nat) : past bs (p + 1) L = (past bs p L ++ [bs.getD (p % bs.length) false]).drop 1 := by
  refine (past_ext ?_ fun i hi => ?_).symm
  · rw [List.length_drop, List.length_append, past_len]
    show L + 1 - 1 = L
    omega
  · rw [List.getElem?_drop, Nat.add_comm 1 i]
    unfold dig
    by_cases g : i + 1 < L
    · rw [List.getElem?_append_left (by rw [past_len]; exact g), past_at g]
      unfold dig
      by_cases e : L ≤ p + 1 + i
      · rw [if_pos e, if_pos (by omega), show p + (i + 1) = p + 1 + i by omega]
      · rw [if_neg e, if_neg (by omega)]
    · have : i + 1 = L := by omega
      rw [List.getElem?_append_right (by rw [past_len]; omega), past_len, if_pos (by omega), show i + 1 - L = 0 by omega, show p + 1 + i - L = p by omega]
      rfl
theorem past_stays {bs : List Bool} {p L M : Nat} (h : past bs p L = past bs (p + M * bs.length) L) : ∀ j : Nat, past bs (p + j) L = past bs (p + j + M * bs.length) L
  | 0 => h
  | j + 1 => by
    rw [← Nat.add_assoc, show p + j + 1 + M * bs.length = p + j + M * bs.length + 1 by omega, past_push, past_push, past_stays h j, Nat.add_mul_mod_self_right]
theorem sgn_inj {a b : Bool} (h : sgn a = sgn b) : a = b := by
  revert h
  cases a <;> cases b <;> decide
theorem sgns_inj : ∀ {a b : List Bool}, a.map sgn = b.map sgn → a = b
  | [], [], _ => rfl
  | x :: xs, y :: ys, h => by
    rw [List.map_cons, List.map_cons] at h
    injection h with h1 h2
    rw [sgn_inj h1, sgns_inj h2]
  | [], _ :: _, h => by simp at h
  | _ :: _, [], h => by simp at h
theorem txt_inj {a b : List Bool} (h : txt a = txt b) : a = b := by
  have h1 : (a.map sgn).toArray = (b.map sgn).toArray := congrArg Str.cps h
  exact sgns_inj (by simpa using h1)
/-! ### moments of rounds -/
theorem brAt_round (l : List (Int × Int)) (N i : Nat) : brAt l (N * l.length + i) = brAt l i := by
  unfold brAt
  rw [Nat.add_comm, Nat.add_mul_mod_self_right]
theorem cj_round {l : List (Int × Int)} (h : 1 ≤ l.length) (k : Str) (b : Int) (N i : Nat) : cj l k b (N * l.length + i) = cj l k b i + N * (hB l k b).length := by
  unfold cj hB
  rw [bo_len]
  by_cases e : k = "own"
  · rw [if_pos e, if_pos e, if_pos e, Nat.add_comm (N * l.length) i, Nat.add_mul_div_right _ _ h, Nat.add_mul_mod_self_right, Nat.add_mul]
    omega
  · rw [if_neg e, if_neg e, if_neg e, List.length_map]
    omega
theorem hB_pos {l : List (Int × Int)} (fair : Fair l) (h : 1 ≤ l.length) (h2 : l.length ≤ 64) (k : Str) (m : Nat) : 1 ≤ (hB l k (brAt l m)).length := by
  have e : hB l k (brAt l m) = bo (hOs l k m) := rfl
  rw [e, bo_len]
  exact (hOs_ok fair h h2 k m).2.1
/-- the history of a round at a position -/
def hR (l : List (Int × Int)) (k : Str) (L N i : Nat) : List Bool := hist l k (N * l.length + i) L
theorem hR_past {l : List (Int × Int)} (h : 1 ≤ l.length) (k : Str) (L N i : Nat) : hR l k L N i = past (hB l k (brAt l i)) (cj l k (brAt l i) i + N * (hB l k (brAt l i)).length) L := by
  show hist l k (N * l.length + i) L = _
  rw [hist_cj, brAt_round, cj_round h]
theorem hR_late {l : List (Int × Int)} (fair : Fair l) (h : 1 ≤ l.length) (h2 : l.length ≤ 64) (k : Str) {L N : Nat} (hN : L ≤ N) (i : Nat) : hR l k L N i = hR l k L L i := by
  have pos := hB_pos fair h h2 k i
  rw [hR_past h, hR_past h]
  have e : cj l k (brAt l i) i + N * (hB l k (brAt l i)).length = cj l k (brAt l i) i + L * (hB l k (brAt l i)).length + (N - L) * (hB l k (brAt l i)).length := by
    rw [Nat.add_assoc, ← Nat.add_mul, show L + (N - L) = N by omega]
  rw [e, past_periods]
  have := Nat.le_mul_of_pos_right L pos
  omega
theorem hR_stays {l : List (Int × Int)} (fair : Fair l) (h : 1 ≤ l.length) (h2 : l.length ≤ 64) (k : Str) {L N N' i : Nat} (hs : hR l k L N i = hR l k L L i) (hN : N ≤ N') : hR l k L N' i = hR l k L L i := by
  have pos := hB_pos fair h h2 k i
  have lateN := hR_late fair h h2 k (L := L) (N := N + L) (by omega) i
  have lateM := hR_late fair h h2 k (L := L) (N := N' + L) (by omega) i
  rw [← lateM]
  rw [← lateN] at hs
  rw [hR_past h, hR_past h] at hs ⊢
  generalize hB l k (brAt l i) = bs at *
  generalize cj l k (brAt l i) i = c at *
  have e1 : c + (N + L) * bs.length = c + N * bs.length + L * bs.length := by rw [Nat.add_mul, Nat.add_assoc]
  rw [e1] at hs
  have st := past_stays hs ((N' - N) * bs.length)
  have e2 : c + N * bs.length + (N' - N) * bs.length = c + N' * bs.length := by rw [Nat.add_assoc, ← Nat.add_mul, show N + (N' - N) = N' by omega]
  rw [e2] at st
  rw [st, Nat.add_mul, Nat.add_assoc]
/-! ### the steady ones, as the program finds them -/
abbrev sMom : Stmt := topS 17
abbrev sSCells : Stmt := topS 12
abbrev nSCells : List Str := ["trace", "scheme", "moments", "position", "moment"]
theorem scMom : FnScope ["trace", "scheme", "position"] ["trace", "scheme", "position"] (defScope sMom) := ⟨rfl, rfl, rfl, by decide +kernel, rfl, by decide +kernel, by decide +kernel⟩
theorem scSCells : FnScope nSCells ["trace", "scheme"] (defScope sSCells) := ⟨rfl, rfl, rfl, by decide +kernel, rfl, by decide +kernel, by decide +kernel⟩
section
variable {P : Program} {w : World} {K : PySem.W.Frag} {mg : Str → Option Value} {base : Heap}
def spMom (K : PySem.W.Frag) : Sp := fun vs H Q _ => ∃ (t c : Addr) (xs : List V) (k : Str) (z : Int) (x : Option Int) (p : Int), vs = [.ref t, .ref c, .int p] ∧ SqT K H t xs ∧ SqT K H c (planV k z x) ∧ 0 ≤ z ∧ z ≤ 65 ∧ ∀ H', Same H H' → Q (.int (p + z * (xs.length : Nat))) H'
theorem ok_mom {f : Addr} {fd : FuncData} {k : Nat} (ml : mg "len" = none) (F : L2.Fun K "_steady_moment" "_steady_moment" sMom f fd) : FnOk P w K mg base L2.CX0 (k + 1) f fd ["trace", "scheme", "position"] (spMom K) := by
  refine F.ok scMom (fun vs H Q E h => ?_) (fun cdv A outer s H vs Q E hr h => ?_)
  · obtain ⟨t, c, xs, k, z, x, p, rfl, _⟩ := h
    rfl
  · obtain ⟨t, c, xs, k, z, x, p, rfl, sq, hc, z0, z1, q⟩ := h
    refine ⟨_, pss_one (ps_ret (pe_op op_add (pv 2) (pe_op op_mul (pe_ix ix_tup (pv 1) pe_int (fun _ _ => rfl)) (pe_callB call_len_seq (by rfl) ml PySem.boot_len (pa_cons (pv 0) pa_nil))))), ?_⟩
    exact ⟨.int p, rfl, .ref c, rfl, c, _, 1, .int z, rfl, rfl, hc, planV1 _ _ _, .ref t, rfl, t, xs, rfl, .inr sq, _, _, rfl, rfl, .inl ⟨by omega, by omega⟩, _, _, rfl, rfl, q H (Same.refl H)⟩
theorem mom_nat {l : List (Int × Int)} {z : Int} {p n : Nat} (z0 : 0 ≤ z) (len : n = l.length) : (p : Int) + z * (n : Nat) = ((z.toNat * l.length + p : Nat) : Int) := by
  have : ((z.toNat : Nat) : Int) = z := Int.toNat_of_nonneg z0
  rw [len, Int.natCast_add, Int.natCast_mul, this]
  omega
theorem mom_le {l : List (Int × Int)} {z : Int} {p : Nat} (z1 : z ≤ 65) (l64 : l.length ≤ 64) (hp : p ≤ 10 ^ 18) : z.toNat * l.length + p ≤ 10 ^ 19 := by
  have := Nat.mul_le_mul (show z.toNat ≤ 65 by omega) l64
  omega
/-- the steady cells -/
def cellsD (l : List (Int × Int)) (k : Str) (z : Int) (x : Option Int) (n : Nat) : List PyData := (List.range n).map fun i => cellD k x (brAt l i).toNat (hR l k z.toNat z.toNat i)
theorem cellA_round (l : List (Int × Int)) (k : Str) (z : Int) (x : Option Int) (N i : Nat) : cellA l k z x (N * l.length + i) = cellD k x (brAt l i).toNat (hR l k z.toNat N i) := by
  unfold cellA
  rw [brAt_round]
  rfl
theorem cell_tups (k : Str) (x : Option Int) (b : Nat) (h : List Bool) : tups (cellD k x b h) = true := by
  unfold cellD
  split
  · rfl
  · split <;> rfl
theorem tups_all {ds : List PyData} (h : ∀ d ∈ ds, tups d = true) : tupsAll ds = true := by
  induction ds with
  | nil => rfl
  | cons d r ih =>
    simp only [tupsAll, h d List.mem_cons_self, ih fun e he => h e (List.mem_cons_of_mem _ he), Bool.and_self]
theorem cells_tups (l : List (Int × Int)) (k : Str) (z : Int) (x : Option Int) (n : Nat) : tupsAll (cellsD l k z x n) = true := tups_all fun d hd => by
  obtain ⟨i, _, rfl⟩ := List.mem_map.mp hd
  exact cell_tups _ _ _ _
theorem DpAll.keepT {K : PySem.W.Frag} {H H' : Hp} (k : Keep K H H') : ∀ {vs : List V} {ds : List PyData}, tupsAll ds = true → DpAll K H vs ds → DpAll K H' vs ds
  | _, _, _, .nil => .nil
  | _, _, h, .cons a t => by
    simp only [tupsAll, Bool.and_eq_true] at h
    exact .cons (Dp.keep k _ _ h.1 a) (DpAll.keepT k h.2 t)
def spSCells (K : PySem.W.Frag) : Sp := fun vs H Q _ => ∃ (t c : Addr) (l : List (Int × Int)) (k : Str) (z : Int) (x : Option Int), vs = [.ref t, .ref c] ∧ PairsAt K H t l ∧ Fair l ∧ 1 ≤ l.length ∧ l.length ≤ 64 ∧ SqT K H c (planV k z x) ∧ PlanOk k z x ∧
  ∀ H' r as, Same H H' → SqT K H' r as → DpAll K H' as (cellsD l k z x l.length) → Q (.ref r) H'
theorem ok_scells {f : Addr} {fd : FuncData} (DM : Dfn P w K mg base 1 "_steady_moment" ["trace", "scheme", "position"] (spMom K)) (DE : Dfn P w K mg base 4 "cell_at" ["trace", "scheme", "moment"] (spCellAt K)) (ml : mg "len" = none) (mr : mg "range" = none) (mt : mg "tuple" = none)
    (F : L2.Fun K "steady_cells" "steady_cells" sSCells f fd) : FnOk P w K mg base L2.CX0 5 f fd ["trace", "scheme"] (spSCells K) := by
  refine F.ok scSCells (fun vs H Q E h => ?_) (fun cdv A outer s H vs Q E hr h => ?_)
  · obtain ⟨t, c, l, k, z, x, rfl, _⟩ := h
    rfl
  · obtain ⟨t, c, l, k, z, x, rfl, hl, fair, l1, l64, hc, ok, q⟩ := h
    obtain ⟨xs, sq, hA, len⟩ := PairsAt.out hl
    refine ⟨_, pss_cons (ps_setLc (i := 2) (own := [("position", 3)]) (g := gName 3) (by rfl) scSCells.nd rfl rfl (sw_true rfl rfl rfl (by decide +kernel)) (pi_range1 rfl mr (pa_cons (pe_callB call_len_seq (by rfl) ml PySem.boot_len (pa_cons (pv 0) pa_nil)) pa_nil)) (blkOk_by (N := nSCells) (sc := defScope sSCells) (by decide +kernel))
          (fun _ _ _ _ _ => pg_name (i := 3) scSCells.nd rfl (.inl rfl)) (fun _ _ _ _ _ => pts_nil) (fun _ _ _ _ _ => pe_d DM hr (by decide) (by rfl) (pa_cons (pv 0) (pa_cons (pv 1) (pa_cons (pv 3) pa_nil)))))
      (pss_one (ps_ret (pe_callTy call_tuple_of (by rfl) mt (by decide +kernel) (pa_cons (pe_lc (own := [("moment", 4)]) (g := gName 4) (by rfl) scSCells.nd (pi_list (pv 2)) (blkOk_by (N := nSCells) (sc := defScope sSCells) (by decide +kernel))
          (fun _ _ _ _ _ => pg_name (i := 4) scSCells.nd rfl (.inl rfl)) (fun _ _ _ _ _ => pts_nil) (fun _ _ _ _ _ => pe_d DE hr (by decide) (by rfl) (pa_cons (pv 0) (pa_cons (pv 1) (pa_cons (pv 4) pa_nil))))) pa_nil)))), ?_⟩
    obtain ⟨z0, z64, okr⟩ := id ok
    refine ⟨.ref t, rfl, t, xs, rfl, .inr sq, _, rfl, by omega, by omega, fun D nD => lc_range (lo := 0) (n := ((xs.length : Nat) : Int).toNat)
      (fun j H' => Same H H' ∧ H' D = some (.lst ((List.range j).map fun i => V.int ((z.toNat * l.length + i : Nat) : Int)))) ⟨same_new nD, upd_same⟩ (fun j H1 hj hp => ?_) (fun H1 hp => ?_)⟩
    · obtain ⟨sm, hD⟩ := hp
      refine ⟨rfl, .ref t, rfl, .ref c, rfl, .int (0 + (j : Nat)), rfl, t, c, xs, k, z, x, 0 + (j : Nat), rfl, Same.seqT sm sq, Same.seqT sm hc, z0, by omega, fun H2 s2 => ⟨_, s2 _ _ hD, ?_, ?_, ?_⟩⟩
      · rw [List.length_map, List.length_range]
        exact small1000 (by omega)
      · intro a u h
        rw [upd_ne (ne_of_none h nD)]
        exact s2 _ _ (sm a u h)
      · rw [upd_same, List.range_succ, List.map_append, Int.zero_add, mom_nat z0 len]
        rfl
    · obtain ⟨sm, hD⟩ := hp
      have en : ((xs.length : Nat) : Int).toNat = l.length := by omega
      rw [en] at hD
      refine ⟨.ref D, rfl, D, rfl, ⟨_, SqL.of hD⟩, fun D2 nD2 => lc_list (K := K) (a := D) (xs := (List.range l.length).map fun i => V.int ((z.toNat * l.length + i : Nat) : Int))
        (fun j H' => Same H1 H' ∧ ∃ as, H' D2 = some (.lst as) ∧ DpAll K H' as (cellsD l k z x j)) ⟨same_new nD2, [], upd_same, .nil⟩ (fun j H' _ hp => SqL.of (hp.1 _ _ hD)) (fun j y H2 hy hp => ?_) (fun H2 hp => ?_)⟩
      · obtain ⟨sm2, as, hD2, hAs⟩ := hp
        have hj : j < l.length := by
          have := (List.getElem?_eq_some_iff.mp hy).1
          rwa [List.length_map, List.length_range] at this
        obtain rfl : V.int ((z.toNat * l.length + j : Nat) : Int) = y := by
          rw [List.getElem?_map, List.getElem?_range hj] at hy
          exact Option.some.inj hy
        have s02 : Same H H2 := sm.trans sm2
        have z1 : z ≤ 65 := by omega
        refine ⟨rfl, .ref t, rfl, .ref c, rfl, .int _, rfl, t, c, l, k, z, x, z.toNat * l.length + j, rfl, hl.keep (Same.keep s02), fair, l1, l64, Same.seqT s02 hc, ok, mom_le z1 l64 (by omega), fun H3 v s3 d3 => ⟨as, s3 _ _ hD2, ?_, ?_, as ++ [v], upd_same, ?_⟩⟩
        · have := DpAll.len hAs
          unfold cellsD at this
          rw [List.length_map, List.length_range] at this
          exact small1000 (by omega)
        · intro a u h
          rw [upd_ne (ne_of_none h nD2)]
          exact s3 _ _ (sm2 a u h)
        · have kk : Keep K H3 (upd H3 D2 (.lst (as ++ [v]))) := keep_lst (s3 _ _ hD2)
          rw [cellA_round] at d3
          have e : cellsD l k z x (j + 1) = cellsD l k z x j ++ [cellD k x (brAt l j).toNat (hR l k z.toNat z.toNat j)] := by
            unfold cellsD
            rw [List.range_succ, List.map_append]
            rfl
          rw [e]
          exact DpAll.app (DpAll.keepT ((Same.keep s3).trans kk) (cells_tups _ _ _ _ _) hAs) (.cons (Dp.keep kk _ _ (cell_tups _ _ _ _) d3) .nil)
      · obtain ⟨sm2, as, hD2, hAs⟩ := hp
        rw [List.length_map, List.length_range] at hAs
        refine ⟨D2, as, rfl, .inl ⟨.inl (.inl hD2), fun p np => q _ p as ((sm.trans sm2).trans (same_new np)) (.inl (.inl upd_same)) (DpAll.keepT (Same.keep (same_new np)) (cells_tups _ _ _ _ _) hAs)⟩⟩
end
end Pf
namespace Pf
open PySem PySem.Spec PyProof.Rows L2 Gk
/-! ### cells whose tuples are told as such: keys of dicts -/
/-- a cell that is a tuple stands as one -/
def TupHere (H : Hp) (v : V) (d : PyData) : Prop := ∀ b t, d = .tuple [.int b, .str t] → ∃ p, v = .ref p ∧ H p = some (.tup [.int b, .str t])
def Ck (K : PySem.W.Frag) (H : Hp) (v : V) (d : PyData) : Prop := Dp K H v d ∧ TupHere H v d
theorem Ck.int {K : PySem.W.Frag} {H : Hp} (i : Int) : Ck K H (.int i) (.int i) := ⟨.int _, fun _ _ e => nomatch e⟩
theorem Ck.str {K : PySem.W.Frag} {H : Hp} (s : Str) : Ck K H (.str s) (.str s) := ⟨.str _, fun _ _ e => nomatch e⟩
theorem Ck.tup {K : PySem.W.Frag} {H : Hp} {p : Addr} {b : Int} {t : Str} (h : H p = some (.tup [.int b, .str t])) : Ck K H (.ref p) (.tuple [.int b, .str t]) :=
  ⟨.tup (.inl (.inl h)) (.cons (.int _) (.cons (.str _) .nil)), fun b' t' e => by
    injection e with e
    injection e with e1 e2
    injection e2 with e2 _
    injection e1 with e1
    injection e2 with e2
    subst e1 e2
    exact ⟨p, rfl, h⟩⟩
theorem TupHere.same {H H' : Hp} {v : V} {d : PyData} (h : TupHere H v d) (s : ∀ b ts, H b = some (.tup ts) → H' b = some (.tup ts)) : TupHere H' v d := fun b t e => by
  obtain ⟨p, e1, e2⟩ := h b t e
  exact ⟨p, e1, s _ _ e2⟩
/-- so all of a list -/
def TupsHere (H : Hp) (vs : List V) (ds : List PyData) : Prop := ∀ (i : Nat) (v : V) (d : PyData), vs[i]? = some v → ds[i]? = some d → TupHere H v d
theorem TupsHere.same {H H' : Hp} {vs : List V} {ds : List PyData} (h : TupsHere H vs ds) (s : ∀ b ts, H b = some (.tup ts) → H' b = some (.tup ts)) : TupsHere H' vs ds := fun i v d e1 e2 => (h i v d e1 e2).same s
theorem TupsHere.nil {H : Hp} : TupsHere H [] [] := fun i v d e => by simp at e
theorem TupsHere.snoc {H : Hp} {vs : List V} {ds : List PyData} {v : V} {d : PyData} (h : TupsHere H vs ds) (hl : vs.length = ds.length) (hv : TupHere H v d) : TupsHere H (vs ++ [v]) (ds ++ [d]) := fun i v' d' e1 e2 => by
  rcases Nat.lt_trichotomy i vs.length with g | g | g
  · rw [List.getElem?_append_left g] at e1
    rw [List.getElem?_append_left (by omega)] at e2
    exact h i v' d' e1 e2
  · rw [List.getElem?_append_right (by omega), show i - vs.length = 0 by omega] at e1
    rw [List.getElem?_append_right (by omega), show i - ds.length = 0 by omega] at e2
    obtain rfl := Option.some.inj e1
    obtain rfl := Option.some.inj e2
    exact hv
  · rw [List.getElem?_append_right (by omega), List.getElem?_eq_none (by show 1 ≤ _; omega)] at e1
    cases e1
theorem tup_keep {H : Hp} {D : Addr} {xs : List V} {o : HO} (h : H D = some (.lst xs)) (b : Addr) (ts : List V) (e : H b = some (.tup ts)) : (upd H D o) b = some (.tup ts) := by
  rw [upd_ne (fun z => by rw [z, h] at e; cases e)]
  exact e
section
variable {P : Program} {w : World} {K : PySem.W.Frag} {mg : Str → Option Value} {base : Heap}
def spCellC (K : PySem.W.Frag) : Sp := fun vs H Q _ => ∃ (c : Addr) (k : Str) (z : Int) (x : Option Int) (b : Nat) (h : List Bool), vs = [.ref c, .int (b : Int), .str (txt h)] ∧ SqT K H c (planV k z x) ∧ PlanOk k z x ∧ b < 8 ∧ h.length ≤ 64 ∧ ∀ H' v, Same H H' → Ck K H' v (cellD k x b h) → Q v H'
theorem ok_cellC {f : Addr} {fd : FuncData} (DF : Dfn P w K mg base 2 "fold" ["history", "bits", "branch"] spFold) (F : L2.Fun K "cell_of" "cell_of" sCellOf f fd) : FnOk P w K mg base L2.CX0 3 f fd ["scheme", "branch", "history"] (spCellC K) := by
  refine F.ok scCellOf (fun vs H Q E h => ?_) (fun cdv A outer s H vs Q E hr h => ?_)
  · obtain ⟨c, k, z, x, b, h, rfl, _⟩ := h
    rfl
  · obtain ⟨c, k, z, x, b, h, rfl, hc, ok, hb, hh, q⟩ := h
    refine ⟨_, pss_cons (ps_if (pt_cmpR op_eq (pe_ix ix_tup (pv 0) pe_int (fun _ _ => rfl)) pe_str (nomark _)) (pss_one (ps_ret (pe_d DF hr (by decide) (by rfl) (pa_cons (pv 2) (pa_cons (pe_ix ix_tup (pv 0) pe_int (fun _ _ => rfl)) (pa_cons (pv 1) pa_nil)))))) pss_nil)
      (pss_cons (ps_if (pt_cmpR op_eq (pe_ix ix_tup (pv 0) pe_int (fun _ _ => rfl)) pe_str (nomark _)) (pss_one (ps_ret (pv 2))) pss_nil)
      (pss_one (ps_ret (pe_tup (pa_cons (pv 1) (pa_cons (pv 2) pa_nil)))))), ?_⟩
    refine ⟨.ref c, rfl, c, _, 0, .str k, rfl, rfl, hc, planV0 _ _ _, rfl, _, rfl, ite2 (fun e => ?_) (fun e => ?_)⟩
    · have e1 : V.str k = V.str "folded" := of_decide_eq_true e
      injection e1 with e1
      obtain ⟨_, _, ⟨_, t, rfl, t0, t1⟩ | ⟨h2, _⟩⟩ := ok
      · refine ⟨.str (txt h), rfl, .ref c, rfl, c, _, 2, .int t, rfl, rfl, hc, rfl, .int b, rfl, h, t.toNat, b, ?_, hh, by omega, hb, fun H' s' => q H' _ s' ?_⟩
        · rw [Int.toNat_of_nonneg t0]
          rfl
        · unfold cellD
          rw [if_pos e1]
          exact Ck.int _
      · rw [e1] at h2
        exact absurd h2 (by decide +kernel)
    · have ne : k ≠ "folded" := fun z => e (decide_eq_true (by rw [z]))
      refine ⟨.ref c, rfl, c, _, 0, .str k, rfl, rfl, hc, planV0 _ _ _, rfl, _, rfl, ite2 (fun g => ?_) (fun g => ?_)⟩
      · have g1 : V.str k = V.str "shared" := of_decide_eq_true g
        injection g1 with g1
        refine ⟨.str (txt h), rfl, q H _ (Same.refl H) ?_⟩
        unfold cellD
        rw [if_neg ne, if_pos g1]
        exact Ck.str _
      · have ng : k ≠ "shared" := fun z => g (decide_eq_true (by rw [z]))
        refine ⟨.int b, rfl, .str (txt h), rfl, by show 2 ≤ sizeLine; decide, fun p np => q _ _ (same_new np) ?_⟩
        unfold cellD
        rw [if_neg ne, if_neg ng]
        exact Ck.tup upd_same
def spCellAtC (K : PySem.W.Frag) : Sp := fun vs H Q _ => ∃ (t c : Addr) (l : List (Int × Int)) (k : Str) (z : Int) (x : Option Int) (m : Nat), vs = [.ref t, .ref c, .int (m : Int)] ∧ PairsAt K H t l ∧ Fair l ∧ 1 ≤ l.length ∧ l.length ≤ 64 ∧ SqT K H c (planV k z x) ∧ PlanOk k z x ∧ m ≤ 10 ^ 19 ∧
  ∀ H' v, Same H H' → Ck K H' v (cellA l k z x m) → Q v H'
theorem ok_cellAtC {f : Addr} {fd : FuncData} (DH : Dfn P w K mg base 3 "history_at" ["trace", "scheme", "moment"] (spHist K)) (DC : Dfn P w K mg base 3 "cell_of" ["scheme", "branch", "history"] (spCellC K)) (ml : mg "len" = none)
    (F : L2.Fun K "cell_at" "cell_at" sCellAt f fd) : FnOk P w K mg base L2.CX0 4 f fd ["trace", "scheme", "moment"] (spCellAtC K) := by
  refine F.ok scCellAt (fun vs H Q E h => ?_) (fun cdv A outer s H vs Q E hr h => ?_)
  · obtain ⟨t, c, l, k, z, x, m, rfl, _⟩ := h
    rfl
  · obtain ⟨t, c, l, k, z, x, m, rfl, hl, fair, l1, l64, hc, ok, hm, q⟩ := h
    obtain ⟨xs, sq, hA, len⟩ := PairsAt.out hl
    refine ⟨_, pss_cons (ps_set (i := 3) scCellAt.nd rfl (.inl rfl) (pe_ix ix_tup (pe_ix ix_tup (pv 0) (pe_mid (pe_op op_mod (pv 2) (pe_callB call_len_seq (by rfl) ml PySem.boot_len (pa_cons (pv 0) pa_nil)))) (fun _ _ => rfl)) pe_int (fun _ _ => rfl)))
      (pss_one (ps_ret (pe_d DC hr (by decide) (by rfl) (pa_cons (pv 1) (pa_cons (pv 3) (pa_cons (pe_d DH hr (by decide) (by rfl) (pa_cons (pv 0) (pa_cons (pv 1) (pa_cons (pv 2) pa_nil)))) pa_nil)))))), ?_⟩
    have lpos : (0 : Int) < (xs.length : Nat) := by omega
    have hpm : m % l.length < l.length := Nat.mod_lt _ (by omega)
    refine ⟨.ref t, rfl, fun v H' => H' = H ∧ v = .int ((m % l.length : Nat) : Int), ⟨.int m, rfl, .ref t, rfl, t, _, rfl, .inr sq, _, _, rfl, rfl, lpos, rfl, ?_⟩, fun v H' hv => ?_⟩
    · show V.int ((m : Int) % (xs.length : Nat)) = _
      rw [len]
      rfl
    obtain ⟨rfl, rfl⟩ := hv
    have gx : xs[m % l.length]? = some (xs[m % l.length]'(by omega)) := List.getElem?_eq_getElem (by omega)
    obtain ⟨y, a, hy, ea, sa⟩ := pd_at hA gx
    have ey : y = l.getD (m % l.length) (0, 0) := Option.some.inj (hy.symm.trans (at_mod l1 m))
    have eb : y.1 = brAt l m := by rw [ey]; rfl
    have fy := fair y (List.mem_of_getElem? hy)
    rw [eb] at fy
    have gat : atI xs ((m % l.length : Nat) : Int) = some (.ref a) := by rw [atI_nat gx, ea]
    refine ⟨t, xs, _, .ref a, rfl, rfl, sq, gat, a, _, 0, .int y.1, rfl, rfl, sa, rfl, ?_⟩
    rw [eb]
    refine ⟨.ref c, rfl, .int (brAt l m), rfl, .ref t, rfl, .ref c, rfl, .int m, rfl, t, c, l, k, z, x, m, rfl, hl, fair, l1, l64, hc, ok.1, by have := ok.2.1; omega, hm, fun H2 s2 => ?_⟩
    refine ⟨c, k, z, x, (brAt l m).toNat, hist l k m z.toNat, ?_, Same.seqT s2 hc, ok, by omega, by rw [hist_len]; have := ok.2.1; omega, fun H3 v s3 d3 => q H3 v (s2.trans s3) d3⟩
    rw [Int.toNat_of_nonneg fy.1.1]
    rfl
def spSCellsC (K : PySem.W.Frag) : Sp := fun vs H Q _ => ∃ (t c : Addr) (l : List (Int × Int)) (k : Str) (z : Int) (x : Option Int), vs = [.ref t, .ref c] ∧ PairsAt K H t l ∧ Fair l ∧ 1 ≤ l.length ∧ l.length ≤ 64 ∧ SqT K H c (planV k z x) ∧ PlanOk k z x ∧
  ∀ H' r as, Same H H' → SqT K H' r as → DpAll K H' as (cellsD l k z x l.length) → TupsHere H' as (cellsD l k z x l.length) → Q (.ref r) H'
theorem ok_scellsC {f : Addr} {fd : FuncData} (DM : Dfn P w K mg base 1 "_steady_moment" ["trace", "scheme", "position"] (spMom K)) (DE : Dfn P w K mg base 4 "cell_at" ["trace", "scheme", "moment"] (spCellAtC K)) (ml : mg "len" = none) (mr : mg "range" = none) (mt : mg "tuple" = none)
    (F : L2.Fun K "steady_cells" "steady_cells" sSCells f fd) : FnOk P w K mg base L2.CX0 5 f fd ["trace", "scheme"] (spSCellsC K) := by
  refine F.ok scSCells (fun vs H Q E h => ?_) (fun cdv A outer s H vs Q E hr h => ?_)
  · obtain ⟨t, c, l, k, z, x, rfl, _⟩ := h
    rfl
  · obtain ⟨t, c, l, k, z, x, rfl, hl, fair, l1, l64, hc, ok, q⟩ := h
    obtain ⟨xs, sq, hA, len⟩ := PairsAt.out hl
    refine ⟨_, pss_cons (ps_setLc (i := 2) (own := [("position", 3)]) (g := gName 3) (by rfl) scSCells.nd rfl rfl (sw_true rfl rfl rfl (by decide +kernel)) (pi_range1 rfl mr (pa_cons (pe_callB call_len_seq (by rfl) ml PySem.boot_len (pa_cons (pv 0) pa_nil)) pa_nil)) (blkOk_by (N := nSCells) (sc := defScope sSCells) (by decide +kernel))
          (fun _ _ _ _ _ => pg_name (i := 3) scSCells.nd rfl (.inl rfl)) (fun _ _ _ _ _ => pts_nil) (fun _ _ _ _ _ => pe_d DM hr (by decide) (by rfl) (pa_cons (pv 0) (pa_cons (pv 1) (pa_cons (pv 3) pa_nil)))))
      (pss_one (ps_ret (pe_callTy call_tuple_of (by rfl) mt (by decide +kernel) (pa_cons (pe_lc (own := [("moment", 4)]) (g := gName 4) (by rfl) scSCells.nd (pi_list (pv 2)) (blkOk_by (N := nSCells) (sc := defScope sSCells) (by decide +kernel))
          (fun _ _ _ _ _ => pg_name (i := 4) scSCells.nd rfl (.inl rfl)) (fun _ _ _ _ _ => pts_nil) (fun _ _ _ _ _ => pe_d DE hr (by decide) (by rfl) (pa_cons (pv 0) (pa_cons (pv 1) (pa_cons (pv 4) pa_nil))))) pa_nil)))), ?_⟩
    obtain ⟨z0, z64, okr⟩ := id ok
    refine ⟨.ref t, rfl, t, xs, rfl, .inr sq, _, rfl, by omega, by omega, fun D nD => lc_range (lo := 0) (n := ((xs.length : Nat) : Int).toNat)
      (fun j H' => Same H H' ∧ H' D = some (.lst ((List.range j).map fun i => V.int ((z.toNat * l.length + i : Nat) : Int)))) ⟨same_new nD, upd_same⟩ (fun j H1 hj hp => ?_) (fun H1 hp => ?_)⟩
    · obtain ⟨sm, hD⟩ := hp
      refine ⟨rfl, .ref t, rfl, .ref c, rfl, .int (0 + (j : Nat)), rfl, t, c, xs, k, z, x, 0 + (j : Nat), rfl, Same.seqT sm sq, Same.seqT sm hc, z0, by omega, fun H2 s2 => ⟨_, s2 _ _ hD, ?_, ?_, ?_⟩⟩
      · rw [List.length_map, List.length_range]
        exact small1000 (by omega)
      · intro a u h
        rw [upd_ne (ne_of_none h nD)]
        exact s2 _ _ (sm a u h)
      · rw [upd_same, List.range_succ, List.map_append, Int.zero_add, mom_nat z0 len]
        rfl
    · obtain ⟨sm, hD⟩ := hp
      have en : ((xs.length : Nat) : Int).toNat = l.length := by omega
      rw [en] at hD
      refine ⟨.ref D, rfl, D, rfl, ⟨_, SqL.of hD⟩, fun D2 nD2 => lc_list (K := K) (a := D) (xs := (List.range l.length).map fun i => V.int ((z.toNat * l.length + i : Nat) : Int))
        (fun j H' => Same H1 H' ∧ ∃ as, H' D2 = some (.lst as) ∧ DpAll K H' as (cellsD l k z x j) ∧ TupsHere H' as (cellsD l k z x j)) ⟨same_new nD2, [], upd_same, .nil, TupsHere.nil⟩ (fun j H' _ hp => SqL.of (hp.1 _ _ hD)) (fun j y H2 hy hp => ?_) (fun H2 hp => ?_)⟩
      · obtain ⟨sm2, as, hD2, hAs, hTs⟩ := hp
        have hj : j < l.length := by
          have := (List.getElem?_eq_some_iff.mp hy).1
          rwa [List.length_map, List.length_range] at this
        obtain rfl : V.int ((z.toNat * l.length + j : Nat) : Int) = y := by
          rw [List.getElem?_map, List.getElem?_range hj] at hy
          exact Option.some.inj hy
        have s02 : Same H H2 := sm.trans sm2
        have z1 : z ≤ 65 := by omega
        refine ⟨rfl, .ref t, rfl, .ref c, rfl, .int _, rfl, t, c, l, k, z, x, z.toNat * l.length + j, rfl, hl.keep (Same.keep s02), fair, l1, l64, Same.seqT s02 hc, ok, mom_le z1 l64 (by omega), fun H3 v s3 d3 => ⟨as, s3 _ _ hD2, ?_, ?_, as ++ [v], upd_same, ?_, ?_⟩⟩
        · have := DpAll.len hAs
          unfold cellsD at this
          rw [List.length_map, List.length_range] at this
          exact small1000 (by omega)
        · intro a u h
          rw [upd_ne (ne_of_none h nD2)]
          exact s3 _ _ (sm2 a u h)
        · have kk : Keep K H3 (upd H3 D2 (.lst (as ++ [v]))) := keep_lst (s3 _ _ hD2)
          rw [cellA_round] at d3
          have e : cellsD l k z x (j + 1) = cellsD l k z x j ++ [cellD k x (brAt l j).toNat (hR l k z.toNat z.toNat j)] := by
            unfold cellsD
            rw [List.range_succ, List.map_append]
            rfl
          rw [e]
          exact DpAll.app (DpAll.keepT ((Same.keep s3).trans kk) (cells_tups _ _ _ _ _) hAs) (.cons (Dp.keep kk _ _ (cell_tups _ _ _ _) d3.1) .nil)
        · have e : cellsD l k z x (j + 1) = cellsD l k z x j ++ [cellD k x (brAt l j).toNat (hR l k z.toNat z.toNat j)] := by
            unfold cellsD
            rw [List.range_succ, List.map_append]
            rfl
          rw [cellA_round] at d3
          rw [e]
          exact TupsHere.snoc (hTs.same fun b ts h => tup_keep (s3 _ _ hD2) b ts (s3 _ _ h)) (DpAll.len hAs) (d3.2.same fun b ts h => tup_keep (s3 _ _ hD2) b ts h)
      · obtain ⟨sm2, as, hD2, hAs, hTs⟩ := hp
        rw [List.length_map, List.length_range] at hAs hTs
        refine ⟨D2, as, rfl, .inl ⟨.inl (.inl hD2), fun p np => q _ p as ((sm.trans sm2).trans (same_new np)) (.inl (.inl upd_same)) (DpAll.keepT (Same.keep (same_new np)) (cells_tups _ _ _ _ _) hAs) (hTs.same fun b ts h => same_new np _ _ h)⟩⟩
end
end Pf
namespace Pf
open PySem PySem.Spec PyProof.Rows L2 Gk Fold
/-! ### dicts with cells as keys: what is kept of each cell -/
abbrev CK := Sum L2.Key (List L2.Key)
/-- the cell of a branch and a history, as a key -/
def cK (k : Str) (x : Option Int) (b : Nat) (h : List Bool) : CK := if k = "folded" then .inl (.inl ((fol h (x.getD 0).toNat b : Nat) : Int)) else if k = "shared" then .inl (.inr (txt h)) else .inr [.inl (b : Int), .inr (txt h)]
def tupK (k : Str) : Bool := !(decide (k = "folded") || decide (k = "shared"))
/-- at a: a dict that keeps f of the cells, n of them at most -/
def VD (H : Hp) (a : Addr) (k : Str) (f : CK → Option V) (n : Nat) : Prop :=
  (tupK k = false ∧ ∃ kvs, H a = some (.dK kvs) ∧ kvs.length ≤ n ∧ ∀ q, valV kvs q = f (.inl q)) ∨ (tupK k = true ∧ ∃ kvs, H a = some (.dT kvs) ∧ kvs.length ≤ n ∧ ∀ q, valV kvs q = f (.inr q))
theorem cK_inl {k : Str} {x : Option Int} {b : Nat} {h : List Bool} {H : Hp} {K : PySem.W.Frag} {v : V} (c : Ck K H v (cellD k x b h)) (t : tupK k = false) : ∃ q, cK k x b h = .inl q ∧ v = kV q := by
  unfold tupK at t
  rw [Bool.not_eq_false', Bool.or_eq_true, decide_eq_true_eq, decide_eq_true_eq] at t
  obtain ⟨c, _⟩ := c
  unfold cellD at c
  unfold cK
  rcases t with rfl | rfl
  · rw [if_pos rfl] at c ⊢
    cases c
    exact ⟨_, rfl, rfl⟩
  · rw [if_neg (by decide +kernel), if_pos rfl] at c ⊢
    cases c
    exact ⟨_, rfl, rfl⟩
theorem cK_inr {k : Str} {x : Option Int} {b : Nat} {h : List Bool} {H : Hp} {K : PySem.W.Frag} {v : V} (c : Ck K H v (cellD k x b h)) (t : tupK k = true) : ∃ q p, cK k x b h = .inr q ∧ v = .ref p ∧ H p = some (.tup (q.map kV)) := by
  unfold tupK at t
  rw [Bool.not_eq_true', Bool.or_eq_false_iff, decide_eq_false_iff_not, decide_eq_false_iff_not] at t
  obtain ⟨_, c⟩ := c
  unfold cellD at c
  unfold cK
  rw [if_neg t.1, if_neg t.2] at c ⊢
  obtain ⟨p, rfl, hp⟩ := c _ _ rfl
  exact ⟨_, p, rfl, rfl, hp⟩
theorem VD.get {k : Str} {x : Option Int} {b : Nat} {h : List Bool} {H : Hp} {K : PySem.W.Frag} {v : V} {a : Addr} {f : CK → Option V} {n : Nat} (d : VD H a k f n) (c : Ck K H v (cellD k x b h)) : DGet H a v (f (cK k x b h)) := by
  rcases d with ⟨t, kvs, e, _, l⟩ | ⟨t, kvs, e, _, l⟩
  · obtain ⟨q, eq, rfl⟩ := cK_inl c t
    rw [eq]
    exact .inl ⟨kvs, q, .inl e, rfl, (l q).symm⟩
  · obtain ⟨q, p, eq, rfl, hp⟩ := cK_inr c t
    rw [eq]
    exact .inr ⟨kvs, q, p, .inl e, rfl, hp, (l q).symm⟩
theorem VD.put {k : Str} {x : Option Int} {b : Nat} {h : List Bool} {H : Hp} {K : PySem.W.Frag} {v y : V} {a : Addr} {f : CK → Option V} {n : Nat} (d : VD H a k f n) (c : Ck K H v (cellD k x b h)) (hn : n < sizeLine) :
    ∃ H', DPut H a v y H' ∧ VD H' a k (fun q => if q = cK k x b h then some y else f q) (n + 1) ∧ ∀ z, z ≠ a → H' z = H z := by
  rcases d with ⟨t, kvs, e, ln, l⟩ | ⟨t, kvs, e, ln, l⟩
  · obtain ⟨q, eq, rfl⟩ := cK_inl c t
    refine ⟨_, .inl ⟨kvs, q, e, rfl, by omega, rfl⟩, .inl ⟨t, _, upd_same, by have := length_putK kvs q y; omega, fun r => ?_⟩, fun z hz => upd_ne hz⟩
    rw [valV_put, eq, l]
    dsimp only
    by_cases er : r = q
    · rw [if_pos er, if_pos (by rw [er])]
    · rw [if_neg er, if_neg (fun z => er (Sum.inl.inj z))]
  · obtain ⟨q, p, eq, rfl, hp⟩ := cK_inr c t
    refine ⟨_, .inr ⟨kvs, q, p, e, rfl, hp, by omega, rfl⟩, .inr ⟨t, _, upd_same, by have := length_putK kvs q y; omega, fun r => ?_⟩, fun z hz => upd_ne hz⟩
    rw [valV_put, eq, l]
    dsimp only
    by_cases er : r = q
    · rw [if_pos er, if_pos (by rw [er])]
    · rw [if_neg er, if_neg (fun z => er (Sum.inr.inj z))]
end Pf
namespace Pf
open PySem PySem.Spec PyProof.Rows L2 Gk
/-! ### one counter -/
def top (w : Int) : Int := 1 * 2 ^ w.toNat - 1
def prd (w v : Int) : Int := if 2 * v > top w then 1 else 0
def aft (w v o : Int) : Int := if o = 1 then (if top w < v + 1 then top w else v + 1) else (if 0 > v - 1 then 0 else v - 1)
theorem pow2_mono {a b : Nat} (h : a ≤ b) : (2 : Int) ^ a ≤ 2 ^ b := by
  have e := Nat.pow_le_pow_right (n := 2) (by decide) h
  exact_mod_cast e
theorem top_pos {w : Int} (h : 1 ≤ w) : 1 ≤ top w := by
  unfold top
  have : (2 : Int) ^ 1 ≤ 2 ^ w.toNat := pow2_mono (by omega)
  omega
theorem top_le {w : Int} {n : Nat} (h : w ≤ (n : Int)) : top w ≤ 2 ^ n := by
  unfold top
  have : (2 : Int) ^ w.toNat ≤ 2 ^ n := pow2_mono (by omega)
  omega
theorem aft_in {w v o : Int} (h : 1 ≤ w) (h0 : 0 ≤ v) (h1 : v ≤ top w) : 0 ≤ aft w v o ∧ aft w v o ≤ top w := by
  have := top_pos h
  unfold aft
  repeat' split
  all_goals omega
theorem prd_in (w v : Int) : prd w v = 0 ∨ prd w v = 1 := by
  unfold prd
  split
  · exact .inr rfl
  · exact .inl rfl
section
variable {P : Program} {w : World} {K : PySem.W.Frag} {mg : Str → Option Value} {base : Heap}
def spMost : Sp := fun vs H Q _ => ∃ n : Int, vs = [.int n] ∧ 1 ≤ n ∧ n ≤ 64 ∧ Q (.int (top n)) H
def spPred : Sp := fun vs H Q _ => ∃ n v : Int, vs = [.int n, .int v] ∧ 1 ≤ n ∧ n ≤ 64 ∧ Q (.int (prd n v)) H
def spAft : Sp := fun vs H Q _ => ∃ n v o : Int, vs = [.int n, .int v, .int o] ∧ 1 ≤ n ∧ n ≤ 64 ∧ Q (.int (aft n v o)) H
end
end Pf
namespace Pf
open PySem PySem.Spec PyProof.Rows L2 Gk Fold
/-! ### a predictor, moment by moment: l the trace, k the kind of scheme, x its bits, L its length, w and v0 the counter -/
def outM (l : List (Int × Int)) (m : Nat) : Int := (l.getD (m % l.length) (0, 0)).2
/-- whose history it is -/
def ownO (k : Str) (b : Int) : Option Int := if k = "own" then some b else none
/-- the history of each owner ahead of the moment m -/
def hM (l : List (Int × Int)) (k : Str) (L : Nat) : Nat → Option Int → List Bool
  | 0, _ => List.replicate L false
  | m + 1, o => if o = ownO k (brAt l m) then (hM l k L m o ++ [decide (outM l m = 1)]).drop 1 else hM l k L m o
theorem hM_len (l : List (Int × Int)) (k : Str) (L : Nat) : ∀ (m : Nat) (o : Option Int), (hM l k L m o).length = L
  | 0, _ => List.length_replicate
  | m + 1, o => by
    unfold hM
    split
    · rw [List.length_drop, List.length_append, hM_len l k L m o]
      rfl
    · exact hM_len l k L m o
/-- the history and the cell of the moment m -/
def hAtM (l : List (Int × Int)) (k : Str) (L m : Nat) : List Bool := hM l k L m (ownO k (brAt l m))
def cM (l : List (Int × Int)) (k : Str) (x : Option Int) (L m : Nat) : CK := cK k x (brAt l m).toNat (hAtM l k L m)
/-- the value of each cell ahead of the moment m, none if it wasn't used -/
def vM (l : List (Int × Int)) (k : Str) (x : Option Int) (L : Nat) (w v0 : Int) : Nat → CK → Option Int
  | 0, _ => none
  | m + 1, c => if c = cM l k x L m then some (aft w ((vM l k x L w v0 m c).getD v0) (outM l m)) else vM l k x L w v0 m c
def valM (l : List (Int × Int)) (k : Str) (x : Option Int) (L : Nat) (w v0 : Int) (m : Nat) : Int := (vM l k x L w v0 m (cM l k x L m)).getD v0
def pM (l : List (Int × Int)) (k : Str) (x : Option Int) (L : Nat) (w v0 : Int) (m : Nat) : Int := prd w (valM l k x L w v0 m)
theorem vM_in {l : List (Int × Int)} {k : Str} {x : Option Int} {L : Nat} {w v0 : Int} (hw : 1 ≤ w) (h0 : 0 ≤ v0) (h1 : v0 ≤ top w) : ∀ (m : Nat) (c : CK), 0 ≤ (vM l k x L w v0 m c).getD v0 ∧ (vM l k x L w v0 m c).getD v0 ≤ top w
  | 0, _ => ⟨h0, h1⟩
  | m + 1, c => by
    unfold vM
    split
    · have := vM_in (l := l) (k := k) (x := x) (L := L) hw h0 h1 m c
      exact aft_in hw this.1 this.2
    · exact vM_in hw h0 h1 m c
theorem valM_in {l : List (Int × Int)} {k : Str} {x : Option Int} {L : Nat} {w v0 : Int} (hw : 1 ≤ w) (h0 : 0 ≤ v0) (h1 : v0 ≤ top w) (m : Nat) : 0 ≤ valM l k x L w v0 m ∧ valM l k x L w v0 m ≤ top w := vM_in hw h0 h1 m _
/-- what is told of the first M moments -/
def triD (p : Int × Int × Int) : PyData := .tuple [.int p.1, .int p.2.1, .int p.2.2]
def toldM (l : List (Int × Int)) (k : Str) (x : Option Int) (L : Nat) (w v0 : Int) (M : Nat) : List (Int × Int × Int) := (List.range M).map fun m => (brAt l m, pM l k x L w v0 m, outM l m)
theorem toldM_succ (l : List (Int × Int)) (k : Str) (x : Option Int) (L : Nat) (w v0 : Int) (M : Nat) : toldM l k x L w v0 (M + 1) = toldM l k x L w v0 M ++ [(brAt l M, pM l k x L w v0 M, outM l M)] := by
  unfold toldM
  rw [List.range_succ, List.map_append]
  rfl
theorem toldM_len (l : List (Int × Int)) (k : Str) (x : Option Int) (L : Nat) (w v0 : Int) (M : Nat) : (toldM l k x L w v0 M).length = M := by
  unfold toldM
  rw [List.length_map, List.length_range]
/-- the half of a counter's values, as the laws write it -/
theorem half_top {w : Int} (hw : 1 ≤ w) : 2 * ((1 : Int) * 2 ^ (w - 1).toNat) = top w + 1 := by
  unfold top
  rw [show w.toNat = (w - 1).toNat + 1 by omega, Int.pow_succ]
  omega
theorem prd_half {w v : Int} (hw : 1 ≤ w) : prd w v = if (1 : Int) * 2 ^ (w - 1).toNat ≤ v then 1 else 0 := by
  have := half_top hw
  unfold prd
  by_cases c : (1 : Int) * 2 ^ (w - 1).toNat ≤ v
  · rw [if_pos (by omega), if_pos c]
  · rw [if_neg (by omega), if_neg c]
theorem outM_bit {l : List (Int × Int)} (fair : Fair l) (h : 1 ≤ l.length) (m : Nat) : outM l m = 0 ∨ outM l m = 1 := (fair _ (List.mem_of_getElem? (at_mod h m))).2
theorem brAt_small {l : List (Int × Int)} (fair : Fair l) (h : 1 ≤ l.length) (m : Nat) : 0 ≤ brAt l m ∧ brAt l m ≤ 7 := (fair _ (List.mem_of_getElem? (at_mod h m))).1
/-- the text of a history that an outcome is pushed onto -/
theorem txt_push {h : List Bool} {o : Int} (ho : o = 0 ∨ o = 1) : txt ((h ++ [decide (o = 1)]).drop 1) = ⟨(((txt h).cps.toList ++ [if o = 1 then 49 else 48]).drop 1).toArray⟩ := by
  unfold txt
  rw [List.map_drop, List.map_append]
  rcases ho with rfl | rfl <;> rfl
end Pf
namespace Pf
open PySem PySem.Spec PyProof.Rows L2 Gk Fold
/-! ### late rounds: histories stand, then the values of cells, then the predictions -/
theorem brAt_per (l : List (Int × Int)) (m : Nat) : brAt l (m + l.length) = brAt l m := by
  unfold brAt
  rw [Nat.add_mod_right]
theorem outM_per (l : List (Int × Int)) (m : Nat) : outM l (m + l.length) = outM l m := by
  unfold outM
  rw [Nat.add_mod_right]
theorem brAt_at {l : List (Int × Int)} (m : Nat) : brAt l (m % l.length) = brAt l m := by
  unfold brAt
  rw [Nat.mod_mod]
theorem hM_push {l : List (Int × Int)} {k : Str} {L m : Nat} {o : Option Int} (h : o = ownO k (brAt l m)) : hM l k L (m + 1) o = (hM l k L m o ++ [decide (outM l m = 1)]).drop 1 := by
  rw [hM, if_pos h]
theorem hM_stay {l : List (Int × Int)} {k : Str} {L m : Nat} {o : Option Int} (h : ¬ o = ownO k (brAt l m)) : hM l k L (m + 1) o = hM l k L m o := by
  rw [hM, if_neg h]
theorem drop_push {h : List Bool} {b : Bool} {L d : Nat} (hl : h.length = L) (hd : d + 1 ≤ L) : ((h ++ [b]).drop 1).drop (L - (d + 1)) = h.drop (L - d) ++ [b] := by
  rw [List.drop_drop, show 1 + (L - (d + 1)) = L - d by omega, List.drop_append_of_le_length (by omega)]
theorem seen_in {l : List (Int × Int)} {k : Str} {o : Option Int} (h1 : 1 ≤ l.length) {j m : Nat} (hj : o = ownO k (brAt l j)) (hm : l.length ≤ m) : ∃ q, q < m ∧ m ≤ q + l.length ∧ o = ownO k (brAt l q) := by
  have hr : j % l.length < l.length := Nat.mod_lt _ h1
  refine ⟨l.length * ((m - 1 - j % l.length) / l.length) + j % l.length, ?_, ?_, ?_⟩
  · have := Nat.mul_div_le (m - 1 - j % l.length) l.length
    omega
  · have := Nat.lt_mul_div_succ (m - 1 - j % l.length) h1
    rw [Nat.mul_add] at this
    omega
  · rw [hj, ← brAt_at (l := l) (l.length * _ + _), Nat.mul_add_mod, Nat.mod_mod, brAt_at]
theorem hist_same {l : List (Int × Int)} {k : Str} {L : Nat} (h1 : 1 ≤ l.length) : ∀ d, d ≤ L → ∀ m, d * l.length ≤ m → ∀ o j, o = ownO k (brAt l j) → (hM l k L m o).drop (L - d) = (hM l k L (m + l.length) o).drop (L - d)
  | 0, _ => fun m _ o j _ => by
    rw [List.drop_eq_nil_of_le (by rw [hM_len]; omega), List.drop_eq_nil_of_le (by rw [hM_len]; omega)]
  | d + 1, hd => fun m hm o j hj => by
    have ih := hist_same (l := l) (k := k) (L := L) h1 d (by omega)
    rw [Nat.succ_mul] at hm
    have push : ∀ q, d * l.length ≤ q → o = ownO k (brAt l q) → (hM l k L (q + 1) o).drop (L - (d + 1)) = (hM l k L (q + 1 + l.length) o).drop (L - (d + 1)) := fun q hq e => by
      have e2 : o = ownO k (brAt l (q + l.length)) := by rw [brAt_per]; exact e
      rw [hM_push e, show q + 1 + l.length = q + l.length + 1 by omega, hM_push e2, outM_per, drop_push (hM_len _ _ _ _ _) hd, drop_push (hM_len _ _ _ _ _) hd, ih q hq o j hj]
    obtain ⟨q, q1, q2, q3⟩ := seen_in h1 hj (show l.length ≤ m by omega)
    have on : ∀ i, (hM l k L (q + 1 + i) o).drop (L - (d + 1)) = (hM l k L (q + 1 + i + l.length) o).drop (L - (d + 1)) := fun i => by
      induction i with
      | zero => exact push q (by omega) q3
      | succ i hi =>
        by_cases c : o = ownO k (brAt l (q + 1 + i))
        · exact push (q + 1 + i) (by omega) c
        · have c2 : ¬ o = ownO k (brAt l (q + 1 + i + l.length)) := by rw [brAt_per]; exact c
          rw [show q + 1 + (i + 1) = q + 1 + i + 1 by omega, hM_stay c, show q + 1 + i + 1 + l.length = q + 1 + i + l.length + 1 by omega, hM_stay c2]
          exact hi
    have := on (m - (q + 1))
    rwa [show q + 1 + (m - (q + 1)) = m by omega] at this
theorem cM_per {l : List (Int × Int)} {k : Str} {x : Option Int} {L m : Nat} (h1 : 1 ≤ l.length) (hm : L * l.length ≤ m) : cM l k x L (m + l.length) = cM l k x L m := by
  have := hist_same (l := l) (k := k) (L := L) h1 L (Nat.le_refl _) m hm (ownO k (brAt l m)) m rfl
  rw [Nat.sub_self, List.drop_zero, List.drop_zero] at this
  unfold cM hAtM
  rw [brAt_per, ← this]
/-- the value of a cell -/
def uM (l : List (Int × Int)) (k : Str) (x : Option Int) (L : Nat) (w v0 : Int) (m : Nat) (c : CK) : Int := (vM l k x L w v0 m c).getD v0
theorem uM_succ (l : List (Int × Int)) (k : Str) (x : Option Int) (L : Nat) (w v0 : Int) (m : Nat) (c : CK) : uM l k x L w v0 (m + 1) c = if c = cM l k x L m then aft w (uM l k x L w v0 m c) (outM l m) else uM l k x L w v0 m c := by
  unfold uM
  rw [vM]
  split <;> rfl
theorem valM_u (l : List (Int × Int)) (k : Str) (x : Option Int) (L : Nat) (w v0 : Int) (m : Nat) : valM l k x L w v0 m = uM l k x L w v0 m (cM l k x L m) := rfl
/-- what i moments from m on make of the value of a cell -/
def gM (l : List (Int × Int)) (k : Str) (x : Option Int) (L : Nat) (w : Int) (c : CK) (m : Nat) : Nat → Int → Int
  | 0, v => v
  | i + 1, v => if c = cM l k x L (m + i) then aft w (gM l k x L w c m i v) (outM l (m + i)) else gM l k x L w c m i v
theorem uM_g (l : List (Int × Int)) (k : Str) (x : Option Int) (L : Nat) (w v0 : Int) (m : Nat) (c : CK) : ∀ i, uM l k x L w v0 (m + i) c = gM l k x L w c m i (uM l k x L w v0 m c)
  | 0 => rfl
  | i + 1 => by
    rw [show m + (i + 1) = m + i + 1 by omega, uM_succ, uM_g l k x L w v0 m c i, gM]
theorem gM_per {l : List (Int × Int)} {k : Str} {x : Option Int} {L m : Nat} {w : Int} {c : CK} (h1 : 1 ≤ l.length) (hm : L * l.length ≤ m) : ∀ i v, gM l k x L w c (m + l.length) i v = gM l k x L w c m i v
  | 0, _ => rfl
  | i + 1, v => by
    rw [gM, gM, gM_per h1 hm i v, show m + l.length + i = m + i + l.length by omega, cM_per h1 (by omega), outM_per]
theorem gM_pers {l : List (Int × Int)} {k : Str} {x : Option Int} {L m : Nat} {w : Int} {c : CK} (h1 : 1 ≤ l.length) (hm : L * l.length ≤ m) (i : Nat) (v : Int) : ∀ t, gM l k x L w c (m + t * l.length) i v = gM l k x L w c m i v
  | 0 => by rw [Nat.zero_mul, Nat.add_zero]
  | t + 1 => by
    rw [Nat.succ_mul, ← Nat.add_assoc, gM_per h1 (by omega), gM_pers h1 hm i v t]
theorem aft_mono' {n v u : Int} (o : Int) (h : v ≤ u) : aft n v o ≤ aft n u o := by
  unfold aft
  repeat' split
  all_goals omega
theorem gM_mono {l : List (Int × Int)} {k : Str} {x : Option Int} {L m : Nat} {w : Int} {c : CK} : ∀ i v u, v ≤ u → gM l k x L w c m i v ≤ gM l k x L w c m i u
  | 0, _, _, h => h
  | i + 1, v, u, h => by
    rw [gM, gM]
    split
    · exact aft_mono' _ (gM_mono i v u h)
    · exact gM_mono i v u h
/-- a rising map within bounds stands after so many steps -/
theorem chain {f : Int → Int} (mono : ∀ v u, v ≤ u → f v ≤ f u) {a : Nat → Int} (st : ∀ t, a (t + 1) = f (a t)) {T : Int} (lo : ∀ t, 0 ≤ a t) (hi : ∀ t, a t ≤ T) : a (T.toNat + 1) = a T.toNat := by
  have stay : ∀ t, a (t + 1) = a t → ∀ j, a (t + j + 1) = a (t + j) := fun t e j => by
    induction j with
    | zero => exact e
    | succ j ih => rw [show t + (j + 1) = t + j + 1 by omega, st (t + j + 1), ih, ← st]; exact ih
  rcases Int.le_total (a 0) (a 1) with d | d
  · have up : ∀ t, a t ≤ a (t + 1) := fun t => by
      induction t with
      | zero => exact d
      | succ t ih =>
        have := mono _ _ ih
        rw [← st, ← st] at this
        exact this
    by_cases c : a (T.toNat + 1) = a T.toNat
    · exact c
    · have far : ∀ t, t ≤ T.toNat + 1 → a 0 + (t : Int) ≤ a t := fun t => by
        induction t with
        | zero => intro _; omega
        | succ t ih =>
          intro ht
          have := ih (by omega)
          have u := up t
          have ne : a (t + 1) ≠ a t := fun e => c (by
            have := stay t e (T.toNat - t)
            rwa [show t + (T.toNat - t) = T.toNat by omega] at this)
          omega
      have h1 := far (T.toNat + 1) (Nat.le_refl _)
      have h2 := hi (T.toNat + 1)
      have h3 := lo 0
      have h4 := hi 0
      omega
  · have dn : ∀ t, a (t + 1) ≤ a t := fun t => by
      induction t with
      | zero => exact d
      | succ t ih =>
        have := mono _ _ ih
        rw [← st, ← st] at this
        exact this
    by_cases c : a (T.toNat + 1) = a T.toNat
    · exact c
    · have far : ∀ t, t ≤ T.toNat + 1 → a t + (t : Int) ≤ a 0 := fun t => by
        induction t with
        | zero => intro _; omega
        | succ t ih =>
          intro ht
          have := ih (by omega)
          have u := dn t
          have ne : a (t + 1) ≠ a t := fun e => c (by
            have := stay t e (T.toNat - t)
            rwa [show t + (T.toNat - t) = T.toNat by omega] at this)
          omega
      have h1 := far (T.toNat + 1) (Nat.le_refl _)
      have h2 := hi 0
      have h3 := lo (T.toNat + 1)
      have h4 := lo 0
      omega
theorem uM_late {l : List (Int × Int)} {k : Str} {x : Option Int} {L : Nat} {w v0 : Int} (hl : 1 ≤ l.length) (hw : 1 ≤ w) (h0 : 0 ≤ v0) (h1 : v0 ≤ top w) (c : CK) : ∀ j, uM l k x L w v0 ((L + (top w).toNat + j) * l.length) c = uM l k x L w v0 ((L + (top w).toNat) * l.length) c := by
  have inn := fun m => vM_in (l := l) (k := k) (x := x) (L := L) hw h0 h1 m c
  have st : ∀ t, uM l k x L w v0 ((L + (t + 1)) * l.length) c = gM l k x L w c (L * l.length) l.length (uM l k x L w v0 ((L + t) * l.length) c) := fun t => by
    rw [← gM_pers hl (Nat.le_refl _) l.length _ t, ← Nat.add_mul, ← uM_g]
    congr 1
    rw [← Nat.succ_mul]
    rfl
  have e := chain (f := gM l k x L w c (L * l.length) l.length) (a := fun t => uM l k x L w v0 ((L + t) * l.length) c) (gM_mono _) st (T := top w) (fun t => (inn _).1) (fun t => (inn _).2)
  intro j
  induction j with
  | zero => rfl
  | succ j ih =>
    have s1 := st ((top w).toNat + j)
    rw [show L + ((top w).toNat + j + 1) = L + (top w).toNat + (j + 1) by omega, show L + ((top w).toNat + j) = L + (top w).toNat + j by omega, ih] at s1
    rw [s1]
    have s2 := st (top w).toNat
    have e : uM l k x L w v0 ((L + ((top w).toNat + 1)) * l.length) c = uM l k x L w v0 ((L + (top w).toNat) * l.length) c := e
    rw [← s2, e]
theorem pM_per {l : List (Int × Int)} {k : Str} {x : Option Int} {L : Nat} {w v0 : Int} (hl : 1 ≤ l.length) (hw : 1 ≤ w) (h0 : 0 ≤ v0) (h1 : v0 ≤ top w) {m : Nat} (hm : (L + (top w).toNat) * l.length ≤ m) : pM l k x L w v0 (m + l.length) = pM l k x L w v0 m := by
  have hL : L * l.length ≤ m := Nat.le_trans (Nat.mul_le_mul_right _ (by omega)) hm
  have split : m = (m / l.length) * l.length + m % l.length := by
    rw [Nat.mul_comm]
    exact (Nat.div_add_mod m l.length).symm
  have hr : L + (top w).toNat ≤ m / l.length := (Nat.le_div_iff_mul_le hl).mpr hm
  obtain ⟨j, ej⟩ : ∃ j, m / l.length = L + (top w).toNat + j := ⟨m / l.length - (L + (top w).toNat), by omega⟩
  have same : ∀ c, uM l k x L w v0 (m + l.length) c = uM l k x L w v0 m c := fun c => by
    have a1 := uM_g l k x L w v0 ((m / l.length) * l.length) c (m % l.length)
    have a2 := uM_g l k x L w v0 ((m / l.length) * l.length + l.length) c (m % l.length)
    have hb : L * l.length ≤ (m / l.length) * l.length := Nat.mul_le_mul_right _ (by omega)
    rw [← split] at a1
    rw [show m / l.length * l.length + l.length + m % l.length = m + l.length by omega, gM_per hl hb, ← Nat.succ_mul, ej, show (L + (top w).toNat + j).succ = L + (top w).toNat + (j + 1) from rfl, uM_late hl hw h0 h1] at a2
    rw [ej, uM_late hl hw h0 h1] at a1
    rw [a1, a2]
  unfold pM
  rw [valM_u, valM_u, cM_per hl hL, same]
/-! ### errors round by round -/
def wrongAt (l : List (Int × Int)) (k : Str) (x : Option Int) (L : Nat) (w v0 : Int) (m : Nat) : Prop := pM l k x L w v0 m ≠ outM l m
instance (l : List (Int × Int)) (k : Str) (x : Option Int) (L : Nat) (w v0 : Int) (m : Nat) : Decidable (wrongAt l k x L w v0 m) := inferInstanceAs (Decidable (_ ≠ _))
/-- the errors of the round j among the first moments -/
def cR (l : List (Int × Int)) (k : Str) (x : Option Int) (L : Nat) (w v0 : Int) (j : Nat) : Nat → Nat
  | 0 => 0
  | m + 1 => cR l k x L w v0 j m + if m / l.length = j ∧ wrongAt l k x L w v0 m then 1 else 0
def bR (l : List (Int × Int)) (k : Str) (x : Option Int) (L : Nat) (w v0 : Int) (j : Nat) : Nat → Nat
  | 0 => 0
  | i + 1 => bR l k x L w v0 j i + if wrongAt l k x L w v0 (j * l.length + i) then 1 else 0
def eR (l : List (Int × Int)) (k : Str) (x : Option Int) (L : Nat) (w v0 : Int) (j : Nat) : Nat := bR l k x L w v0 j l.length
theorem cR_eq {l : List (Int × Int)} {k : Str} {x : Option Int} {L : Nat} {w v0 : Int} (hl : 1 ≤ l.length) (j : Nat) : ∀ M, cR l k x L w v0 j M = bR l k x L w v0 j (min l.length (M - j * l.length))
  | 0 => by
    rw [Nat.zero_sub, Nat.min_eq_right (Nat.zero_le _)]
    rfl
  | M + 1 => by
    rw [cR, cR_eq hl j M]
    rcases Nat.lt_or_ge M (j * l.length) with a | a
    · have : M / l.length < j := (Nat.div_lt_iff_lt_mul hl).mpr a
      rw [if_neg (fun z => by omega), show M - j * l.length = 0 by omega, show M + 1 - j * l.length = 0 by omega, Nat.add_zero]
    · rcases Nat.lt_or_ge M ((j + 1) * l.length) with b | b
      · have e : M / l.length = j := by
          have h1 : M / l.length < j + 1 := (Nat.div_lt_iff_lt_mul hl).mpr b
          have h2 : j ≤ M / l.length := (Nat.le_div_iff_mul_le hl).mpr a
          omega
        rw [Nat.succ_mul] at b
        rw [Nat.min_eq_right (by omega), Nat.min_eq_right (by omega), show M + 1 - j * l.length = (M - j * l.length) + 1 by omega, bR, show j * l.length + (M - j * l.length) = M by omega]
        by_cases c : wrongAt l k x L w v0 M
        · rw [if_pos ⟨e, c⟩, if_pos c]
        · rw [if_neg (fun z => c z.2), if_neg c]
      · have h2 : j + 1 ≤ M / l.length := (Nat.le_div_iff_mul_le hl).mpr b
        rw [Nat.succ_mul] at b
        rw [if_neg (fun z => by omega), Nat.min_eq_left (by omega), Nat.min_eq_left (by omega), Nat.add_zero]
theorem cR_full {l : List (Int × Int)} {k : Str} {x : Option Int} {L : Nat} {w v0 : Int} (hl : 1 ≤ l.length) {j r : Nat} (h : j < r) : cR l k x L w v0 j (r * l.length) = eR l k x L w v0 j := by
  have := Nat.mul_le_mul_right l.length (show j + 1 ≤ r from h)
  rw [Nat.succ_mul] at this
  rw [cR_eq hl, Nat.min_eq_left (by omega)]
  rfl
theorem eR_late {l : List (Int × Int)} {k : Str} {x : Option Int} {L : Nat} {w v0 : Int} (hl : 1 ≤ l.length) (hw : 1 ≤ w) (h0 : 0 ≤ v0) (h1 : v0 ≤ top w) : ∀ j, eR l k x L w v0 (L + (top w).toNat + j) = eR l k x L w v0 (L + (top w).toNat)
  | 0 => rfl
  | j + 1 => by
    rw [← eR_late hl hw h0 h1 j]
    unfold eR
    have : ∀ i, bR l k x L w v0 (L + (top w).toNat + (j + 1)) i = bR l k x L w v0 (L + (top w).toNat + j) i := fun i => by
      induction i with
      | zero => rfl
      | succ i ih =>
        have e : (L + (top w).toNat + (j + 1)) * l.length + i = ((L + (top w).toNat + j) * l.length + i) + l.length := by
          rw [show L + (top w).toNat + (j + 1) = (L + (top w).toNat + j) + 1 by omega, Nat.succ_mul]
          omega
        have hm : (L + (top w).toNat) * l.length ≤ (L + (top w).toNat + j) * l.length + i := Nat.le_trans (Nat.mul_le_mul_right _ (by omega)) (Nat.le_add_right _ _)
        have w1 : wrongAt l k x L w v0 ((L + (top w).toNat + (j + 1)) * l.length + i) ↔ wrongAt l k x L w v0 ((L + (top w).toNat + j) * l.length + i) := by
          unfold wrongAt
          rw [e, pM_per hl hw h0 h1 hm, outM_per]
        rw [bR, bR, ih]
        by_cases c : wrongAt l k x L w v0 ((L + (top w).toNat + j) * l.length + i)
        · rw [if_pos c, if_pos (w1.mpr c)]
        · rw [if_neg c, if_neg (fun z => c (w1.mp z))]
    exact this _
end Pf
namespace Gk
open PySem PySem.Spec PyProof.Rows L2 HT
/-! ### a tuple from behind -/
section
variable {prog : Program} {w : World} {A : Around} {E : Value → Shared → Prop} {s : Shared}
theorem adjust_rev (n : Nat) : Builtin.Slice.sliceAdjust none none (-1) (n : Int) = ((n : Int) - 1, -1) := by
  have h1 : ((-1 : Int) < 0) := by decide
  unfold Builtin.Slice.sliceAdjust
  simp only [h1, if_true]
theorem places_rev (n : Nat) : Builtin.Slice.slicePlaces ((n : Int) - 1) (-1) (-1) = n := by
  unfold Builtin.Slice.slicePlaces
  have h1 : ¬ ((-1 : Int) > 0) := by decide
  have h2 : (-(-1) : Int) = 1 := by decide
  simp only [h1, if_false, h2, Int.ediv_one]
  split <;> omega
theorem applied_rev {sl : Addr} {vs : Value} {n : Nat} {Q : Int × Int × Nat → Shared → Prop} (hs : s.heap.IsSliceOf sl .none .none vs) (ps : IsPart vs (some (-1)))
    (h : Q ((n : Int) - 1, -1, n) s) : wpAny (model prog w) A (Builtin.Slice.sliceApplied (.ref sl) (pure (n : Int))) Q E s := by
  obtain ⟨os, hos, hcs, hds⟩ := id hs
  unfold Builtin.Slice.sliceApplied Builtin.Slice.sliceFields
  refine wpAny_bind (wpAny_bind (wpAny_field hos hds (x := .none) rfl (wpAny_bind (wpAny_field hos hds (x := .none) rfl (wpAny_bind (wpAny_field hos hds (x := vs) rfl (wpAny_pure ?_)))))))
  refine wpAny_bind (slicePart_ ps ?_)
  show wpAny _ _ (if ((-1 : Int) == 0) = true then _ else _) _ _ s
  rw [if_neg (by decide)]
  refine wpAny_bind (slicePart_none (wpAny_bind (slicePart_none (wpAny_bind (wpAny_pure ?_)))))
  show wpAny _ _ (match Builtin.Slice.sliceAdjust none none (-1) (n : Int) with | (lo, hi) => pure (lo, (-1 : Int), Builtin.Slice.slicePlaces lo hi (-1))) _ _ s
  rw [adjust_rev n]
  show wpAny _ _ (pure ((n : Int) - 1, (-1 : Int), Builtin.Slice.slicePlaces ((n : Int) - 1) (-1) (-1))) _ _ s
  rw [places_rev]
  exact wpAny_pure h
theorem fm_congr {α β : Type} {f g : α → Option β} : ∀ l : List α, (∀ m ∈ l, f m = g m) → l.filterMap f = l.filterMap g
  | [], _ => rfl
  | a :: l, h => by
    rw [List.filterMap_cons, List.filterMap_cons, h a List.mem_cons_self, fm_congr l fun m hm => h m (List.mem_cons_of_mem _ hm)]
theorem pick_rev (xs : Array Value) : ((List.range xs.size).filterMap fun (m : Nat) => xs[(((xs.size : Int) - 1) + (m : Int) * (-1)).toNat]?).toArray = xs.toList.reverse.toArray := by
  have e : ((List.range xs.size).filterMap fun (m : Nat) => xs[(((xs.size : Int) - 1) + (m : Int) * (-1)).toNat]?) = ((List.range xs.size).map fun k => xs.size - 1 - k).filterMap (xs[·]?) := by
    rw [List.filterMap_map]
    refine fm_congr _ fun m hm => ?_
    have hm := List.mem_range.mp hm
    show xs[(((xs.size : Int) - 1) + (m : Int) * (-1)).toNat]? = xs[xs.size - 1 - m]?
    have : (((xs.size : Int) - 1) + (m : Int) * (-1)).toNat = xs.size - 1 - m := by omega
    rw [this]
  rw [e, PySem.W.krv_range, List.filterMap_reverse, PySem.W.krv_all]
theorem getItem_tuple_rev {t sl : Addr} {items : Array Value} {vs : Value} {Q : Value → Shared → Prop} (ht : IsTup s.heap t items) (hs : s.heap.IsSliceOf sl .none .none vs) (ps : IsPart vs (some (-1)))
    (h : Q (.ref s.heap.objs.size) { s with heap := s.heap.push { cls := .type "tuple", data := .seq items.toList.reverse.toArray } })
    (hsz : items.size ≤ sizeLine) : wpAny (model prog w) A (getItem (.ref t) (.ref sl)) Q E s := by
  have htake : sizeOk (.seq items.toList.reverse.toArray) := by
    show items.toList.reverse.toArray.size ≤ sizeLine
    rw [List.size_toArray, List.length_reverse, Array.length_toList]
    exact hsz
  obtain ⟨os, hos, hcs, hds⟩ := id hs
  have hTs : s.TypeIs (.ref sl) "slice" := ⟨os, hos, hcs⟩
  unfold getItem
  try with_reducible refine wpAny_holding ?_
  first | refine wpAny_bind (wpAny_pure ?_) | skip
  refine wpAny_bind (wpAny_sequenceKey ht.typeIs (by decide) ?_)
  refine wpAny_bind (wpAny_callSpecial?_slot (name := Str.ofString "__getitem__") ht.typeIs PyProof.Rows.slot_tuple_getitem
    (wpAny_call_entry PyProof.Rows.slot_tuple_getitem ht.typeIs entry_tuple_getitem ?_ (args_tuple_getitem _ _)))
  show wpAny _ _ (Builtin.Tuple.tupleItemsOf (.ref t) >>= _) _ _ s
  refine wpAny_bind (tupleItemsOf_ ht ?_)
  refine wpAny_bind (wpAny_typeOf hTs ?_)
  rw [if_pos (by decide)]
  refine wpAny_bind (applied_rev hs ps ?_)
  have hno : ¬ (((((items.size : Int) - 1) : Int) == 0 && (-1 : Int) == 1 && items.size == items.size) = true) := by simp
  show wpAny _ _ (if ((((items.size : Int) - 1) : Int) == 0 && (-1 : Int) == 1 && items.size == items.size) = true then _ else _) _ _ s
  rw [if_neg hno, pick_rev]
  first
    | exact wpAny_bind (m := Builtin.Tuple.tupleExact _) (wpAny_newObj_type (wpAny_pure ⟨_, rfl, wpAny_pure h⟩) htake)
    | exact wpAny_bind (m := Builtin.Tuple.tupleExact _) (wpAny_newObj_type (wpAny_bind (wpAny_pure (wpAny_pure ⟨_, rfl, wpAny_pure h⟩))) htake)
    | exact wpAny_bind (wpAny_bind (m := Builtin.Tuple.tupleExact _) (wpAny_newObj_type (wpAny_pure (wpAny_pure ⟨_, rfl, wpAny_pure h⟩)) htake))
    | exact wpAny_bind (wpAny_bind (m := Builtin.Tuple.tupleExact _) (wpAny_newObj_type (wpAny_pure ⟨_, rfl, wpAny_pure h⟩) htake))
end
def tRevU (K : PySem.W.Frag) (te : TE) : TE := fun σ H Q => te σ H fun x H1 => ∃ a xs, x = .ref a ∧ SqT K H1 a xs ∧ ∀ p, H1 p = none → Q (.ref p) (upd H1 p (.tup xs.reverse))
theorem pe_revU {X : Cx} {e : Expr} {te : TE} {k : Nat} {p1 p2 p3 pos : Pos} (he : PE X e te) : PE X (.Subscript e (.Slice none none (some (.UnaryOp .USub (.Constant (.int 1) k p1) p2)) p3) pos) (tRevU X.K te) := by
  refine ⟨fun pins s σ H Q I h => ?_⟩
  refine Subscript_ (thn (he.run pins s σ H _ I h) fun v s1 ⟨x, H1, I1, r1, q1⟩ => ?_)
  obtain ⟨a, xs, ex, hx, q⟩ := q1
  subst ex
  cases r1
  have hst : PO X (some (.UnaryOp .USub (.Constant (.int 1) k p1) p2)) (tPart (tUn (rU fun i => .int (-i)) (tC (.int 1)))) := po_some (pe_un un_neg pe_int)
  refine wpAny_Slice (thn (po_none.run pins s1 σ H1 (fun o H2 => o = none ∧ H2 = H1) I1 ⟨rfl, rfl⟩) fun vl s2 ⟨l, H2, I2, pl, el, e2⟩ => ?_)
  subst el e2
  refine thn (po_none.run pins s2 σ H2 (fun o H3 => o = none ∧ H3 = H2) I2 ⟨rfl, rfl⟩) fun vu s3 ⟨u, H3, I3, pu, eu, e3⟩ => ?_
  subst eu e3
  refine thn (hst.run pins s3 σ H3 (fun o H4 => o = some (-1) ∧ H4 = H3) I3 ⟨1, rfl, -1, rfl, rfl, rfl⟩) fun vs s4 ⟨o, H4, I4, ps, eo, e4⟩ => ?_
  subst eo e4
  cases pl
  cases pu
  have I5 : Inv X pins σ H4 { s4 with heap := s4.heap.push { cls := .type "slice", data := .fields #[.none, .none, vs] } } := I4.kept (t' := s4.toks) fun b ob q => Heap.get?_push_of_some _ q
  obtain ⟨its, r, ht, hz⟩ := I5.tuple hx
  have hlen := r.length
  refine tail_any (ops := [.ref a, .ref s4.heap.objs.size]) ht.typeIs (PyProof.Rows.slot_tuple_getitem.lookup) ?_ (by with_unfolding_all rfl)
  refine getItem_tuple_rev ht (Heap.IsSliceOf.new _ .none .none vs) ps ?_ (by rw [List.size_toArray]; omega)
  refine ⟨.ref _, _, I5.laid (t' := s4.toks) (o := .tup xs.reverse) (fun b ob q => Heap.get?_push_of_some _ q) (Nat.le_refl _) ?_, rfl, q _ (I5.hok.fresh (Nat.le_refl _))⟩
  exact ⟨by rw [List.length_reverse]; exact hz, _, r.reverse, IsTup.new _ _⟩
/-! ### whether a tuple is not () -/
def rNe0 (K : PySem.W.Frag) : R2 := fun x y H Q => ∃ a b xs, x = .ref a ∧ y = .ref b ∧ SqT K H a xs ∧ SqT K H b [] ∧ Q (.bl (!decide (xs = []))) H
theorem op_ne0 {X : Cx} (hu : X.A.units < cLine) : OpR X (compareOp .NotEq) (rNe0 X.K) := by
  intro pins s σ H x y v u Q I rx ry h
  obtain ⟨a, b, xs, rfl, rfl, ha, hb, q⟩ := h
  cases rx
  cases ry
  obtain ⟨its, r1, p1, _⟩ := I.tuple ha
  obtain ⟨its2, r2, p2, _⟩ := I.tuple hb
  cases r2
  have t1 : s.heap.IsTuple a its.toArray := by
    obtain ⟨o, ho, hc, n, hd⟩ := p1
    exact ⟨o, ho, hc, n, hd⟩
  have t2 : s.heap.IsTuple b ([] : List Value).toArray := by
    obtain ⟨o, ho, hc, n, hd⟩ := p2
    exact ⟨o, ho, hc, n, hd⟩
  refine SeqAt.RcNeAt.tuples (e := fun _ => true) t1 t2 hu (fun j h1 h2 => absurd h2 (Nat.not_lt_zero _)) X.prog X.w X.xe (EP X pins σ Q) ⟨.bl _, H, I, ?_, q⟩
  have hl := r1.length
  show Value.bool _ = Value.bool _
  congr 1
  cases xs with
  | nil =>
    cases r1
    rfl
  | cons x xs =>
    cases r1
    simp
end Gk
namespace Gk
open PySem PySem.Spec PyProof.Rows L2
/-! ### math.lcm; small things for any law -/
def rLcm : List V → Hp → VK → Prop := fun vs H Q => ∃ a b : Int, vs = [.int a, .int b] ∧ a.natAbs < 2 ^ 64 ∧ b.natAbs < 2 ^ 64 ∧ Q (.int ((a.natAbs.lcm b.natAbs : Nat) : Int)) H
theorem cr_lcm {X : Cx} : CallR X (.builtin "math.lcm") rLcm := by
  intro pins s σ H vs us Q I r h
  obtain ⟨a, b, rfl, ha, hb, q⟩ := h
  obtain ⟨t, u, rfl⟩ := Vals.int2 r
  exact PySem.W.mc_lcm ha hb fun _ => ⟨.int _, H, I.tok _, ⟨_, rfl⟩, q⟩
theorem Same.seqLL {K : PySem.W.Frag} {H H' : Hp} {a : Addr} {xs : List V} (e : Same H H') (h : SqL K H a xs) : SqL K H' a xs := by
  rcases h with (h | ⟨o, h⟩) | h
  · exact .inl (.inl (e _ _ h))
  · exact .inl (.inr ⟨o, e _ _ h⟩)
  · exact .inr h
theorem tame2 {a b : Int} (ha : a.natAbs < 10 ^ 20) (hb : b.natAbs < 10 ^ 20) : Gk.tame (.tuple [.int a, .int b]) = true := by
  simp only [Gk.tame, tameAll, ha, hb, decide_true, Bool.and_self]
theorem depth2 {a b : Int} : (PyData.tuple [.int a, .int b]).depth ≤ 40 := by
  simp only [PyData.depth, PyData.depthAll]
  omega
theorem fine2 {a b : Int} (ha : a.natAbs < 10 ^ 20) (hb : b.natAbs < 10 ^ 20) : Fine (.tuple [.int a, .int b]) :=
  Fine.tame (tame2 ha hb) depth2 (by simp only [Gk.cost, costAll]; omega)
theorem dp2 {K : PySem.W.Frag} {H : Hp} {p : Addr} {a b : Int} (h : SqT K H p [.int a, .int b]) : Dp K H (.ref p) (.tuple [.int a, .int b]) := .tup h (.cons (.int a) (.cons (.int b) .nil))
theorem flatLen {α : Type} (n : Nat) (l : List α) : ((List.replicate n l).flatten).length = n * l.length := by
  induction n with
  | zero => simp
  | succ n ih => rw [List.replicate_succ, List.flatten_cons, List.length_append, ih, Nat.succ_mul, Nat.add_comm]
theorem pairs_sq {K : PySem.W.Frag} {H : Hp} {p : Addr} {l : List (Int × Int)} (h : PairsAt K H p l) : ∃ xs, SqT K H p xs ∧ xs.length = l.length ∧ DpAll K H xs (l.map pd) := by
  cases h with
  | tup h1 h2 => exact ⟨_, h1, lc_len h2, h2⟩
theorem keepSeqL {K : PySem.W.Frag} {H1 H' : Hp} {a b : Addr} {o : HO} {xs : List V} (hS : SqL K H1 a xs) (nb : H1 b = none) (e : But b (upd H1 b o) H') : SqL K H' a xs := by
  rcases hS with (h | ⟨u, h⟩) | h
  · exact .inl (.inl (e _ _ (ne_of_none h nb) (same_new nb _ _ h)))
  · exact .inl (.inr ⟨u, e _ _ (ne_of_none h nb) (same_new nb _ _ h)⟩)
  · exact .inr h
theorem butLocal {b D : Addr} {H H1 H2 : Hp} (nD : H D = none) (h : But b H H1) (g : ∀ a o, a ≠ b → a ≠ D → H1 a = some o → H2 a = some o) : But b H H2 := fun a o n e => g a o n (fun z => by rw [z, nD] at e; cases e) (h a o n e)
theorem pt_mid {X : Cx} {e : Expr} {t : TT} (h : PT X e t) : PT X e (tMidT t) :=
  ⟨fun pins s σ H Q I ⟨M, h1, h2⟩ => thn (h.run pins s σ H M I h1) fun b s1 ⟨H1, I1, q⟩ => ⟨H1, I1, h2 b H1 q⟩⟩
end Gk
namespace Pf
open PySem PySem.Spec PyProof.Rows L2 Gk
/-! ### steady cells one by one; pairs of positions -/
theorem brAt_fair {l : List (Int × Int)} (fair : Fair l) (h : 1 ≤ l.length) (m : Nat) : 0 ≤ brAt l m ∧ (brAt l m).toNat < 8 := by
  obtain ⟨x, hx, e⟩ := brAt_in h m
  have := (fair x hx).1
  rw [e] at this
  omega
def cl (l : List (Int × Int)) (k : Str) (z : Int) (x : Option Int) (i : Nat) : PyData := cellD k x (brAt l i).toNat (hR l k z.toNat z.toNat i)
theorem cellsD_cl (l : List (Int × Int)) (k : Str) (z : Int) (x : Option Int) (n : Nat) : cellsD l k z x n = (List.range n).map (cl l k z x) := rfl
theorem cl_tame {l : List (Int × Int)} {k : Str} {z : Int} {x : Option Int} (fair : Fair l) (h : 1 ≤ l.length) (ok : PlanOk k z x) (i : Nat) : Gk.tame (cl l k z x i) = true ∧ cost (cl l k z x i) ≤ 200 ∧ (cl l k z x i).depth ≤ 2 :=
  cell_tame ok (brAt_fair fair h i).2 (by rw [show (hR l k z.toNat z.toNat i).length = z.toNat from hist_len _ _ _ _]; have := ok.2.1; omega)
theorem cl_shaped {l : List (Int × Int)} {k : Str} {z : Int} {x : Option Int} (fair : Fair l) (h : 1 ≤ l.length) (ok : PlanOk k z x) (i : Nat) : SeqAt.shaped (cl l k z x i) = true := by
  obtain ⟨a, _, b⟩ := cl_tame fair h ok i
  exact tame_shaped a (by omega)
theorem cells_at {K : PySem.W.Frag} {H : Hp} {as : List V} {l : List (Int × Int)} {k : Str} {z : Int} {x : Option Int} {n i : Nat} (h : DpAll K H as (cellsD l k z x n)) (hi : i < n) : ∃ v, as[i]? = some v ∧ Dp K H v (cl l k z x i) := by
  have hl := DpAll.len h
  rw [cellsD_cl, List.length_map, List.length_range] at hl
  refine ⟨as[i]'(by omega), List.getElem?_eq_getElem (by omega), DpAll.at h (List.getElem?_eq_getElem (by omega)) ?_⟩
  rw [cellsD_cl, List.getElem?_map, List.getElem?_range hi]
  rfl
theorem cells_keep {K : PySem.W.Frag} {H H' : Hp} {as : List V} {l : List (Int × Int)} {k : Str} {z : Int} {x : Option Int} {n : Nat} (h : DpAll K H as (cellsD l k z x n)) (kp : Keep K H H') : DpAll K H' as (cellsD l k z x n) := DpAll.keepT kp (cells_tups _ _ _ _ _) h
theorem atI_of {xs : List V} {i : Nat} {v : V} (h : xs[i]? = some v) : atI xs ((i : Nat) : Int) = some v := atI_nat h
def rowP (p : Nat → Nat → Bool) (i : Nat) : Nat → List (Int × Int)
  | 0 => []
  | m + 1 => rowP p i m ++ (if p i (i + 1 + m) = true then [(((i : Nat) : Int), ((i + 1 + m : Nat) : Int))] else [])
def allP (p : Nat → Nat → Bool) (n : Nat) : Nat → List (Int × Int)
  | 0 => []
  | i + 1 => allP p n i ++ rowP p i (n - (i + 1))
theorem rowP_len (p : Nat → Nat → Bool) (i : Nat) : ∀ m, (rowP p i m).length ≤ m
  | 0 => Nat.le_refl _
  | m + 1 => by
    have := rowP_len p i m
    unfold rowP
    rw [List.length_append]
    split
    · show _ + 1 ≤ m + 1
      omega
    · show _ + 0 ≤ m + 1
      omega
theorem allP_len (p : Nat → Nat → Bool) (n : Nat) : ∀ i, i ≤ n → 2 * (allP p n i).length + i * (i + 1) ≤ 2 * (i * n)
  | 0, _ => by simp [allP]
  | i + 1, h => by
    have h1 := allP_len p n i (by omega)
    have h2 := rowP_len p i (n - (i + 1))
    unfold allP
    rw [List.length_append]
    have e1 : (i + 1) * (i + 1 + 1) = i * (i + 1) + 2 * (i + 1) := by rw [Nat.succ_mul, Nat.mul_succ]; omega
    have e2 : (i + 1) * n = i * n + n := Nat.succ_mul i n
    rw [e1, e2]
    omega
theorem rowP_in {p : Nat → Nat → Bool} {i : Nat} : ∀ {m : Nat} {x : Int × Int}, x ∈ rowP p i m → ∃ a b : Nat, x = ((a : Int), (b : Int)) ∧ a = i ∧ i < b ∧ b < i + 1 + m ∧ p a b = true
  | 0, x, h => (nomatch h)
  | m + 1, x, h => by
    unfold rowP at h
    rcases List.mem_append.mp h with h | h
    · obtain ⟨a, b, e, h1, h2, h3, h4⟩ := rowP_in h
      exact ⟨a, b, e, h1, h2, by omega, h4⟩
    · split at h
      · rename_i hp
        rw [List.mem_singleton.mp h]
        exact ⟨i, i + 1 + m, rfl, rfl, by omega, by omega, hp⟩
      · exact (nomatch h)
theorem allP_in {p : Nat → Nat → Bool} {n : Nat} : ∀ {i : Nat} {x : Int × Int}, i ≤ n → x ∈ allP p n i → ∃ a b : Nat, x = ((a : Int), (b : Int)) ∧ a < b ∧ b < n ∧ p a b = true
  | 0, x, _, h => (nomatch h)
  | i + 1, x, hi, h => by
    unfold allP at h
    rcases List.mem_append.mp h with h | h
    · exact allP_in (by omega) h
    · obtain ⟨a, b, e, h1, h2, h3, h4⟩ := rowP_in h
      exact ⟨a, b, e, by omega, by omega, h4⟩
/-- pairs of small numbers -/
def Tiny (l : List (Int × Int)) : Prop := ∀ x ∈ l, ∃ a b : Nat, x = ((a : Int), (b : Int)) ∧ a < 1000 ∧ b < 1000
theorem tame_tiny : ∀ {l : List (Int × Int)}, Tiny l → tameAll (l.map pd) = true
  | [], _ => rfl
  | x :: l, h => by
    obtain ⟨a, b, e, h1, h2⟩ := h x List.mem_cons_self
    show (tame (pd x) && tameAll (l.map pd)) = true
    rw [tame_tiny fun z hz => h z (List.mem_cons_of_mem _ hz), Bool.and_true, e]
    simp only [pd, tame, tameAll, Bool.and_true, Bool.and_eq_true, decide_eq_true_eq]
    omega
theorem tiny_fine {l : List (Int × Int)} (h : Tiny l) (hl : l.length ≤ 3000) : Fine (.tuple (l.map pd)) := by
  have c := cost_pd l
  have d := depth_pd l
  refine Fine.tame (by simpa only [Gk.tame] using tame_tiny h) ?_ ?_
  · simp only [PyData.depth]
    omega
  · simp only [Gk.cost]
    omega
theorem allP_tiny {p : Nat → Nat → Bool} {n : Nat} (hn : n ≤ 64) : Tiny (allP p n n) := fun x hx => by
  obtain ⟨a, b, e, h1, h2, _⟩ := allP_in (Nat.le_refl _) hx
  exact ⟨a, b, e, by omega, by omega⟩
theorem allP_many {p : Nat → Nat → Bool} {n : Nat} (hn : n ≤ 64) : (allP p n n).length ≤ 3000 := by
  have h := allP_len p n n (Nat.le_refl _)
  have h2 : n * n ≤ 64 * 64 := Nat.mul_le_mul hn hn
  have h3 : n * (n + 1) = n * n + n := Nat.mul_succ n n
  omega
theorem allP_many2 {p : Nat → Nat → Bool} {n i : Nat} (hn : n ≤ 64) (hi : i ≤ n) : (allP p n i).length ≤ 4096 := by
  have h := allP_len p n i hi
  have h2 : i * n ≤ 64 * 64 := Nat.mul_le_mul (by omega) hn
  omega
end Pf
/-! A generator def that is asked for its first item alone. -/
namespace Gk
open PySem PySem.Spec PyProof.Rows L2 GenW

/-- what is wanted behind a statement of a generator that has handed out nothing; yl: of the first item -/
structure FEnds where
  nx : L2.St → Hp → Prop
  rt : VK
  bk : L2.St → Hp → Prop := fun _ _ => False
  ct : L2.St → Hp → Prop := fun _ _ => False
  yl : VK
abbrev TF := FEnds → L2.St → Hp → Prop
def FEnds.at (D : FEnds) : Ends := { nx := D.nx, rt := D.rt, bk := D.bk, ct := D.ct }
def FY (X : Cx) (Q : VK) : Protocol := fun n s₀ v s kap => ∃ x ip σ H, RelV x v ∧ Inv X ip σ H s ∧ Q x H
structure FC (X : Cx) (A : Around) (c : Code) (fs : List Frame) (gd : Bool → Bool) : Prop where
  over : A.over c fs = X.A
  split : splitAtGen fs = none
  guard : fs.any Frame.guarded = false
  gd : gd false = false
  nox : ∀ e s, ¬ X.xe e s
structure FK (X : Cx) (ip : List (Addr × Obj)) (A : Around) (R : GenEnd) (c : Code) (fs : List Frame) (K : Flow → Sem PySem.Fin) (D : FEnds) : Prop where
  ok : ∀ (s₀ s : Shared) (f : Flow), SP X ip D.at f s → Seg (model X.prog X.w) A R (FY X D.yl) 1 s₀ c (K f) fs s
structure FS (X : Cx) (st : Stmt) (t : TF) : Prop where
  run : ∀ (A : Around) (ip : List (Addr × Obj)) (R : GenEnd) (s₀ : Shared) (c : Code) (fs : List Frame) (K : Flow → Sem PySem.Fin) (J : Value → Sem PySem.Fin) (gd : Bool → Bool) (lv : List Value → List Value) (s : Shared) (σ : L2.St) (H : Hp) (D : FEnds),
    FC X A c fs gd → FK X ip A R c fs K D → Inv X ip σ H s → t D σ H →
    Seg (model X.prog X.w) A R (FY X D.yl) 1 s₀ c ((exec st X.env).wrap K J gd lv) fs s
structure FSs (X : Cx) (st : List Stmt) (t : TF) : Prop where
  run : ∀ (A : Around) (ip : List (Addr × Obj)) (R : GenEnd) (s₀ : Shared) (c : Code) (fs : List Frame) (K : Flow → Sem PySem.Fin) (J : Value → Sem PySem.Fin) (gd : Bool → Bool) (lv : List Value → List Value) (s : Shared) (σ : L2.St) (H : Hp) (D : FEnds),
    FC X A c fs gd → FK X ip A R c fs K D → Inv X ip σ H s → t D σ H →
    Seg (model X.prog X.w) A R (FY X D.yl) 1 s₀ c ((execs st X.env).wrap K J gd lv) fs s
section
variable {X : Cx} {st : Stmt} {rest : List Stmt}
def tFPlain (t : TS) : TF := fun D σ H => t D.at σ H
theorem fs_ps {t : TS} (h : PS X st t) : FS X st (tFPlain t) := by
  refine ⟨fun A ip R s₀ c fs K J gd lv s σ H D g k I ht => ?_⟩
  refine seg_wrap ?_
  rw [g.over]
  exact wpAny_mono (h.run _ s σ H D.at I ht) (fun f s' hs => k.ok s₀ s' f hs) fun x s' hx => (g.nox x s' hx).elim
def tF0 : TF := fun D σ H => D.nx σ H
theorem fss_nil : FSs X [] tF0 := by
  refine ⟨fun A ip R s₀ c fs K J gd lv s σ H D g k I ht => ?_⟩
  exact seg_execs_nil (k.ok s₀ s .next ⟨σ, H, I, ht⟩)
def tFThen (t u : TF) : TF := fun D σ H => t { D with nx := fun σ' H' => u D σ' H' } σ H
theorem fss_cons {t u : TF} (a : FS X st t) (b : FSs X rest u) : FSs X (st :: rest) (tFThen t u) := by
  refine ⟨fun A ip R s₀ c fs K J gd lv s σ H D g k I ht => ?_⟩
  refine seg_execs_cons ?_
  refine a.run A ip R s₀ c fs _ J gd lv s σ H { D with nx := fun σ' H' => u D σ' H' } g ⟨fun s₀' s' f hs => ?_⟩ I ht
  cases f with
  | next =>
    obtain ⟨σ', H', I', q⟩ := hs
    exact b.run A ip R s₀' c fs K J gd lv s' σ' H' D g k I' q
  | brk => exact k.ok s₀' s' .brk hs
  | cont => exact k.ok s₀' s' .cont hs
  | ret u => exact k.ok s₀' s' (.ret u) hs
theorem fss_one {t : TF} (a : FS X st t) : FSs X [st] (tFThen t tF0) := fss_cons a fss_nil
def tFYield (te : TE) : TF := fun D σ H => te σ H D.yl
theorem fs_yield {e : Expr} {yp pos : Pos} {te : TE} (he : PE X e te) (hco : X.env.scope.isCoroutine = false := by rfl) (hi : interactive X.env = false := by rfl) : FS X (.Expr (.Yield (some e) yp) pos) (tFYield te) := by
  refine ⟨fun A ip R s₀ c fs K J gd lv s σ H D g k I ht => ?_⟩
  refine seg_Expr_Yield (n := 0) g.split g.gd g.guard ?_ hco hi
  rw [g.over]
  refine wpAny_mono (he.run _ s σ H _ I ht) (fun v s' hv => ?_) fun x s' hx => (g.nox x s' hx).elim
  obtain ⟨x, H1, I1, rv, q⟩ := hv
  intro kap hk
  exact ⟨x, ip, σ, H1, rv, I1, q⟩
def tFIf (c : TT) (t u : TF) : TF := fun D σ H => c σ H fun b H1 => if b = true then t D σ H1 else u D σ H1
theorem fs_if {test : Expr} {body orelse : List Stmt} {pos : Pos} {tc : TT} {tb te : TF} (hc : PT X test tc) (hb : FSs X body tb) (he : FSs X orelse te) : FS X (.If test body orelse pos) (tFIf tc tb te) := by
  refine ⟨fun A ip R s₀ c fs K J gd lv s σ H D g k I ht => ?_⟩
  rw [exec_If]
  show Seg _ _ _ _ _ s₀ c (.at pos fun _ => ((isTrue test X.env (eval test X.env)) >>= fun b => if b = true then execs body X.env else execs orelse X.env).wrap K J gd lv) fs s
  refine seg_at (seg_bind_wrap ?_)
  rw [g.over]
  refine wpAny_mono (hc.run _ s σ H _ I ht) (fun b s' hb' => ?_) fun x s' hx => (g.nox x s' hx).elim
  obtain ⟨H1, I1, q⟩ := hb'
  cases b with
  | true =>
    rw [if_pos rfl] at q
    rw [if_pos rfl]
    exact hb.run A ip R s₀ c fs K J gd lv s' σ H1 D g k I1 q
  | false =>
    rw [if_neg Bool.false_ne_true] at q
    rw [if_neg Bool.false_ne_true]
    exact he.run A ip R s₀ c fs K J gd lv s' σ H1 D g k I1 q
end

/-! ### for -/
section
variable {prog : Program} {w : World} {A : Around} {R : GenEnd} {Y : Protocol} {n : Nat} {s₀ : Shared} {fs : List Frame} {s : Shared} {env : Env}
theorem seg_forLoop {target : Expr} {it : Value} {body : List Stmt} (J : Value → Sem PySem.Fin) (hJ : ∀ e, J e = (do noteFrame e env; theTreesLotGoes e : Sem Unit).bind fun _ => .raise e)
    (h : wpAny (model prog w) (A.over (.forLoop target it body [] env) fs) (pyNext it) (fun r s1 => match r with
      | none => Seg (model prog w) A R Y n s₀ (.forLoop target it body [] env) (.pure (.again (.block [] env))) fs s1
      | some v => wpAny (model prog w) (A.over (.forLoop target it body [] env) fs) (letOwnedTupleGo target it v) (fun _ s2 => wpAny (model prog w) (A.over (.forLoop target it body [] env) fs) (assign target env v) (fun _ s3 =>
          Seg (model prog w) A R Y n s₀ (.forLoop target it body [] env) ((execs body env).wrap (fun f => match f with
            | .next | .cont => .pure (.again (.forLoop target it body [] env))
            | .brk => .pure (.done .next)
            | .ret v => .pure (.done (.ret v))) J id id) fs s3) (fun _ _ => False) s2) (fun _ _ => False) s1) (fun _ _ => False) s) :
    Seg (model prog w) A R Y n s₀ (.forLoop target it body [] env) ((model prog w).den (.forLoop target it body [] env)) fs s := by
  show Seg _ A R Y n s₀ _ ((forTurn target it body [] env).onRaise (fun x => do noteFrame x env; theTreesLotGoes x)) fs s
  rw [Sem.onRaise_eq_wrap]
  unfold forTurn
  refine seg_bind_wrap (wpAny_standAt ?_)
  refine seg_bind_wrap (wpAny_onRaise (wpAny_mono h (fun r s1 h1 => ?_) fun _ _ z => z.elim))
  cases r with
  | none => exact h1
  | some v =>
    dsimp only at h1 ⊢
    refine seg_bind_wrap (wpAny_mono h1 (fun _ s2 h2 => ?_) fun _ _ z => z.elim)
    refine seg_bind_wrap (wpAny_mono h2 (fun _ s3 h3 => ?_) fun _ _ z => z.elim)
    rw [Sem.bind_eq_wrap', Sem.wrap_wrap]
    rw [Sem.wrap_congr (execs body env) _ _ (K' := fun f => match f with
            | .next | .cont => .pure (.again (.forLoop target it body [] env))
            | .brk => .pure (.done .next)
            | .ret v => .pure (.done (.ret v))) (H' := J) (fun f => by cases f <;> rfl) (fun e => by rw [hJ]; rfl)]
    exact h3
end
section
variable {X : Cx}
theorem fc_loop {A : Around} {c c' : Code} {fs : List Frame} {gd : Bool → Bool} {k : Result → Sem PySem.Fin} {l kp : List Value} {p : Pos} (g : FC X A c fs gd) (hw : c'.weight = 0) (hu : c'.cUnits = 0) :
    FC X A c' (.ret k none (gd false) l c p kp :: fs) id where
  over := (over_loop hw hu).trans g.over
  split := by
    show (splitAtGen fs).map _ = none
    rw [g.split]; rfl
  guard := by
    show (gd false || fs.any Frame.guarded) = false
    rw [g.gd, g.guard]; rfl
  gd := rfl
  nox := g.nox
def tFFor (wi : TI) (g : TG) (tb : TF) : TF := fun D σ H => wi σ H fun J H1 => ∃ W : Nat → Nat → L2.St → Hp → Prop, (∃ m, W 0 m σ H1) ∧ ∀ i m σ H, W i m σ H →
  (J.stop i H ∧ D.nx σ H) ∨ (J.go i H ∧ ∃ N : L2.St → Hp → Prop, (∀ σ' H', N σ' H' → ∃ m', m' < m ∧ W (i + 1) m' σ' H') ∧ ∀ x H', J.yld i H x H' → g x σ H' fun σ2 H2 => tb { D with nx := N, ct := N, bk := D.nx } σ2 H2)
theorem fs_for {tg iter : Expr} {body : List Stmt} {wi : TI} {g : TG} {tb : TF} {pos : Pos} (hc : X.calm = true) (hi : PI X tg iter wi) (hg : PG X tg g) (hb : FSs X body tb)
    (hs : ∀ x, foldedSetIterable iter X.env x = pure x := by intro _; rfl) : FS X (.For tg iter body [] pos) (tFFor wi g tb) := by
  refine ⟨fun A ip R s₀ c fs K J gd lv s σ H D gc k I ht => ?_⟩
  rw [exec_For]
  show Seg _ _ _ _ _ s₀ c (.at pos fun _ => (eval iter X.env >>= fun v => foldedSetIterable iter X.env v >>= fun x => standAt iter.pos >>= fun _ => holding [x] (pyIter x) >>= fun it => runOwn (.forLoop tg it body [] X.env) X.env).wrap K J gd lv) fs s
  refine seg_at (seg_bind_wrap ?_)
  rw [gc.over]
  refine wpAny_mono (hi.run _ s σ H _ I ht) (fun v s1 h1 => ?_) fun x s' hx => (gc.nox x s' hx).elim
  refine seg_bind_wrap (wpAny_of_eq (hs v) ?_)
  refine seg_bind_wrap (wpAny_standAt ?_)
  refine seg_bind_wrap (wpAny_holding ?_)
  rw [gc.over]
  refine wpAny_mono h1 (fun itv s2 h2 => ?_) fun x s' hx => (gc.nox x s' hx).elim
  obtain ⟨it, fp, tn, Jt, H2, e, I2, T, st2, f2, W, ⟨m0, w0⟩, turn⟩ := h2
  subst e
  have stat : ∀ {H' : Hp}, (∀ b ∈ fp, H' b = none) → ∀ b ∈ fp, FpOk X ip H' b := fun hn b hb => ⟨hn b hb, (f2 b hb).2⟩
  show Seg _ _ _ _ _ s₀ c (.call (.forLoop tg (.ref it) body [] X.env) none (gd false) (lv []) fun r => ((match r with | .ok f => (.pure f : Sem Flow) | .error e => .raise e).onRaise (cameBack X.env)).wrap K J gd lv) fs s2
  refine seg_call fun p => ?_
  have gl := fun (kk : Result → Sem PySem.Fin) => fc_loop (k := kk) (c' := .forLoop tg (.ref it) body [] X.env) (l := lv []) (kp := []) (p := p) gc rfl rfl
  have loop : ∀ (m i : Nat) (s₀ s : Shared) (σ : L2.St) (H : Hp), Inv X ip σ H s → tn i s.heap → (∀ b ∈ fp, H b = none) → W i m σ H →
      Seg (model X.prog X.w) A R (FY X D.yl) 1 s₀ (.forLoop tg (.ref it) body [] X.env) ((model X.prog X.w).den (.forLoop tg (.ref it) body [] X.env))
        (.ret (fun r => ((match r with | .ok f => (.pure f : Sem Flow) | .error e => .raise e).onRaise (cameBack X.env)).wrap K J gd lv) none (gd false) (lv []) c p [] :: fs) s := by
    intro m
    induction m using Nat.strongRecOn with
    | ind m ih =>
      intro i s₀ s3 σ3 H3 I3 st3 fr3 w3
      refine seg_forLoop (fun e => (do noteFrame e X.env; theTreesLotGoes e : Sem Unit).bind fun _ => .raise e) (fun _ => rfl) ?_
      rw [(gl _).over]
      rcases turn i m σ3 H3 w3 with ⟨stop, qn⟩ | ⟨go, N, hN, step⟩
      · refine wpAny_mono (T.done X rfl rfl rfl hc i ip s3 σ3 H3 (fun _ _ => False) I3 (stat fr3) st3 stop) (fun r s4 ⟨hr, I4⟩ => ?_) fun _ _ z => z.elim
        subst hr
        dsimp only
        refine seg_again rfl ?_
        exact seg_leaf (.ok .next) (k.ok s₀ s4 .next ⟨σ3, H3, I4, qn⟩)
      · refine wpAny_mono (T.item X rfl rfl rfl hc i ip s3 σ3 H3 (fun _ _ => False) I3 (stat fr3) st3 go) (fun r s4 ⟨u, hr, h4⟩ => ?_) fun _ _ z => z.elim
        subst hr
        dsimp only
        refine wpAny_mono h4 (fun _ s5 ⟨x, H5, I5, r5, y5, st5, fr5⟩ => ?_) fun _ _ z => z.elim
        have I5' := I5.pinned (stat fr5) (T.obj _ _ st5)
        refine wpAny_mono (hg.run _ s5 σ3 H5 x u _ I5' r5 (step x H5 y5)) (fun _ s6 ⟨σ6, H6, I6, q6⟩ => ?_) fun x s' hx => (gc.nox x s' hx).elim
        have again : ∀ {s7 : Shared} {σ7 : L2.St} {H7 : Hp}, Inv X (ip ++ pinsAt fp s5.heap) σ7 H7 s7 → N σ7 H7 → ∃ m', m' < m ∧ Inv X ip σ7 H7 s7 ∧ tn (i + 1) s7.heap ∧ (∀ b ∈ fp, H7 b = none) ∧ W (i + 1) m' σ7 H7 := fun {s7 σ7 H7} I7 n7 => by
          obtain ⟨m', hm, w7⟩ := hN σ7 H7 n7
          refine ⟨m', hm, I7.unpinned, T.keep _ _ _ st5 fun b hb o e => (I7.pin (b, o) (List.mem_append_right _ (List.mem_append_right _ (mem_pinsAt hb e)))).1, fun b hb => ?_, w7⟩
          obtain ⟨o, e, d⟩ := T.obj _ _ st5 b hb
          exact (I7.pin (b, o) (List.mem_append_right _ (List.mem_append_right _ (mem_pinsAt hb e)))).2.1
        refine hb.run A (ip ++ pinsAt fp s5.heap) R s₀ _ _ _ _ id id s6 σ6 H6 { D with nx := N, ct := N, bk := D.nx } (gl _) ⟨fun s₀' s7 f hs => ?_⟩ I6 q6
        cases f with
        | next =>
          obtain ⟨σ7, H7, I7, n7⟩ := hs
          obtain ⟨m', hm, J7, st7, fr7, w7⟩ := again I7 n7
          exact seg_again rfl (ih m' hm (i + 1) s₀' s7 σ7 H7 J7 st7 fr7 w7)
        | cont =>
          obtain ⟨σ7, H7, I7, n7⟩ := hs
          obtain ⟨m', hm, J7, st7, fr7, w7⟩ := again I7 n7
          exact seg_again rfl (ih m' hm (i + 1) s₀' s7 σ7 H7 J7 st7 fr7 w7)
        | brk =>
          obtain ⟨σ7, H7, I7, q7⟩ := hs
          exact seg_leaf (.ok .next) (k.ok s₀' s7 .next ⟨σ7, H7, I7.unpinned, q7⟩)
        | ret v =>
          obtain ⟨x7, σ7, H7, I7, r7, q7⟩ := hs
          exact seg_leaf (.ok (.ret v)) (k.ok s₀' s7 (.ret v) ⟨x7, σ7, H7, I7.unpinned, r7, q7⟩)
  exact loop m0 0 s₀ s2 σ H2 I2 st2 (fun b hb => (f2 b hb).1) w0
theorem for_rangeF {lo : Int} {n : Nat} {g : TG} {tb : TF} {D : FEnds} {σ : L2.St} {H : Hp} (Pv : Nat → L2.St → Hp → Prop) (h0 : Pv 0 σ H)
    (hs : ∀ i σ H, i < n → Pv i σ H → g (.int (lo + i)) σ H fun σ2 H2 => tb { D with nx := Pv (i + 1), ct := Pv (i + 1), bk := D.nx } σ2 H2) (hd : ∀ σ H, Pv n σ H → D.nx σ H) :
    ∃ W : Nat → Nat → L2.St → Hp → Prop, (∃ m, W 0 m σ H) ∧ ∀ i m σ H, W i m σ H →
      ((Itr lo n).stop i H ∧ D.nx σ H) ∨ ((Itr lo n).go i H ∧ ∃ N : L2.St → Hp → Prop, (∀ σ' H', N σ' H' → ∃ m', m' < m ∧ W (i + 1) m' σ' H') ∧ ∀ x H', (Itr lo n).yld i H x H' → g x σ H' fun σ2 H2 => tb { D with nx := N, ct := N, bk := D.nx } σ2 H2) := by
  refine ⟨fun i m σ H => m = n - i ∧ i ≤ n ∧ Pv i σ H, ⟨n, by simp, Nat.zero_le _, h0⟩, ?_⟩
  rintro i m σ H ⟨rfl, hi, p⟩
  by_cases hlt : i < n
  · refine .inr ⟨hlt, Pv (i + 1), fun σ' H' p' => ⟨n - (i + 1), by omega, rfl, hlt, p'⟩, fun x H' y => ?_⟩
    obtain ⟨e, y⟩ := y
    subst e y
    exact hs i σ _ hlt p
  · have e : i = n := by omega
    subst e
    exact .inl ⟨Nat.le_refl _, hd σ H p⟩
end
end Gk
/-! A generator def's promise of its first item; for over it, left at the first turn. -/
namespace Gk
open PySem PySem.Spec PyProof.Rows L2 GenW

/-- the arguments, the heap, what is wanted if nothing is handed out, what is wanted of the first item -/
abbrev SpF := List V → Hp → (Hp → Prop) → VK → Prop
def FBack (P : Program) (w : World) (outer : List Env) (H : Hp) (s : Shared) (a : Addr) (g : Nat) (H' : Hp) (s1 : Shared) : Prop :=
  s1.os = s.os ∧ AllBare s1.gens ∧ Un (frs outer) [] H H' s.heap s1.heap ∧ HOk P w H' s1.heap ∧ s1.heap.IsGen a g
def FEnd (P : Program) (w : World) (outer : List Env) (H : Hp) (s : Shared) (a : Addr) (g : Nat) (Q : Hp → Prop) (s1 : Shared) : Prop := ∃ H', FBack P w outer H s a g H' s1 ∧ Q H'
def FREnd (P : Program) (w : World) (outer : List Env) (H : Hp) (s : Shared) (a : Addr) (g : Nat) (Q : Hp → Prop) : GenEnd := fun n s₀ r s1 =>
  ((r = .ok (.ret .none) ∨ r = .ok .next) ∧ FEnd P w outer H s a g Q s1) ∨ ∃ e, r = .error e ∧ False
def FYItem (P : Program) (w : World) (outer : List Env) (H : Hp) (s : Shared) (a : Addr) (g : Nat) (Q : VK) : Protocol := fun n s₀ v s1 kap =>
  ∃ x H', RelV x v ∧ FBack P w outer H s a g H' s1 ∧ Q x H'
def FMade (P : Program) (w : World) (k : Nat) (outer : List Env) (H : Hp) (s : Shared) (Qn : Hp → Prop) (Qy : VK) (u : Value) (s' : Shared) : Prop :=
  ∃ (a : Addr) (g : Nat) (c : Code), u = .ref a ∧ s.heap.objs.size ≤ a ∧ a < s'.heap.objs.size ∧ s'.heap.IsGen a g ∧ s'.gens[g]? = some (.fresh c) ∧ s'.os = s.os ∧ AllBare s'.gens ∧ s'.heap.NoLimit ∧ (∀ b o, s.heap.get? b = some o → s'.heap.get? b = some o) ∧
    ∀ (A : Around) (s2 : Shared), Room k A → A.frames = some outer → (∀ b o, s'.heap.get? b = some o → s2.heap.get? b = some o) → s2.os = s.os → AllBare s2.gens →
      Seg (model P w) A (FREnd P w outer H s a g Qn) (FYItem P w outer H s a g Qy) 1 s2 c ((model P w).den c) [] s2
structure GF (P : Program) (w : World) (K : PySem.W.Frag) (mg : Str → Option Value) (base : Heap) (k : Nat) (f : Addr) (fd : FuncData) (ps : List Str) (sp : SpF) : Prop where
  len : ∀ vs H Qn Qy, sp vs H Qn Qy → vs.length = ps.length
  run : ∀ (A : Around) (outer : List Env) (s : Shared) (H : Hp) (args : Args) (us : List Value) (vs : List V) (Qn : Hp → Prop) (Qy : VK), Room k A → Env0 P w K mg base A outer s H → BindsTo s fd args (ps.zip us) → Vals vs us → sp vs H Qn Qy →
    codeAny (model P w) A (.call (.ref f) args) (fun r s' => match r with | .ok (.ret u) => FMade P w k outer H s Qn Qy u s' | _ => False) s
/-- the context of the body: nothing is raised -/
def fcx (P : Program) (w : World) (K : PySem.W.Frag) (mg : Str → Option Value) (base : Heap) (N : List Str) (qual : Str) (scope : Scope) (f : Addr) (cd : Value) (A : Around) (outer : List Env) (s : Shared) (H : Hp) (pn : List (Addr × Obj)) : Cx :=
  (gcxOf P w K mg base N qual scope f cd A outer s H L2.E0 pn).nox
theorem gf_of {P : Program} {w : World} {K : PySem.W.Frag} {mg : Str → Option Value} {base : Heap} {k : Nat} {f : Addr} {name qual : Str} {params : Arguments} {body : List Stmt} {scope : Scope} {dV kV doc pm cdv ct oc : Value} {an od : Option Addr}
    {osl : Array (Option Value)} {N ps : List Str} {sp : SpF} (lk : K.lookup f = some ⟨oc, od, .func (PySem.W.fnOf name qual params body scope dV kV doc pm an cdv ct), osl⟩) (hcd : PySem.W.codeIn K cdv qual = true) (S : GScope N ps scope)
    (len : ∀ vs H Qn Qy, sp vs H Qn Qy → vs.length = ps.length)
    (hbody : ∀ (A : Around) (outer : List Env) (s : Shared) (H : Hp) (vs : List V) (Qn : Hp → Prop) (Qy : VK) (pn : List (Addr × Obj)), Room k (A.deeper (envOfC qual scope s.heap.objs.size f cdv)) → sp vs H Qn Qy →
      ∃ t, FSs (fcx P w K mg base N qual scope f cdv A outer s H pn) body t ∧ t { nx := fun _ H' => Qn H', rt := fun v H' => v = .non ∧ Qn H', yl := Qy } (start N vs) H) :
    GF P w K mg base (k + 1) f (PySem.W.fnOf name qual params body scope dV kV doc pm an cdv ct) ps sp := by
  refine ⟨len, fun A outer s H args us vs Qn Qy hr e0 hb r hsp => ?_⟩
  have hl := len _ _ _ _ hsp
  have KX : K.In s.heap := e0.mod.kin.keeps fun b o e => (e0.bs b o e).1
  have lim : s.heap.NoLimit := e0.mod.nolimit.keeps fun b o e => (e0.bs b o e).1
  have hkind : ∀ y ∈ ps.zip us, scope.names.lookup y.1 = some .local ∨ (scope.names.lookup y.1 = some .cell ∧ ((cellsFrom (s.heap.objs.size + 1) scope.names []).lookup y.1).isSome = true) := fun ⟨n, v⟩ hy => by
    rcases S.par n (List.of_mem_zip hy).1 with q | q
    · exact .inl q
    · exact .inr ⟨q, PySem.W.cellsFrom_some _ _ _ (.inl q)⟩
  refine codeAny_call_generator hr.depth (KX _ _ lk) rfl S.co S.gen rfl (PySem.W.codeRec_of KX hcd) (hb _ _ _ _ ?_)
  refine wpAny_newFunctionEnv_cells S.kind hkind fun env he s1 x => ?_
  subst he
  have lim1 : s1.heap.NoLimit := lim.keeps x.toInCall.keep
  refine ⟨lim1, ?_⟩
  obtain ⟨h1, tk, es1, hk1⟩ := x.done
  have os1 : s1.os = s.os := by rw [es1]
  have gen1 : s1.gens = s.gens := by rw [es1]
  have lt1 : s.heap.objs.size < s1.heap.objs.size := x.toInCall.ns.lt
  have sz1 : s.heap.objs.size ≤ s1.heap.objs.size := Nat.le_of_lt lt1
  have kp1 : ∀ b o, s.heap.get? b = some o → s1.heap.get? b = some o := x.toInCall.keep
  have main : ∀ (go : Obj) (nm qn : Value) (tk2 : Nat), go.cls = .type "generator" → go.data = .fields #[.int s1.gens.size 0, nm, qn] → go.slots = #[] → (∀ h : Heap, (h.push go).get? h.objs.size = some go) →
      FMade P w (k + 1) outer H s Qn Qy (.ref s1.heap.objs.size) { s1 with gens := s1.gens.push (.fresh (.func body (envOfC qual scope s.heap.objs.size f cdv))), toks := tk2, heap := s1.heap.push go } := by
    intro go nm qn tk2 hgc hgd0 hgs hgp
    have hgen : ∀ h : Heap, h.get? s1.heap.objs.size = some go → h.IsGen s1.heap.objs.size s1.gens.size := fun h e => ⟨go, nm, qn, e, hgc, hgd0, hgs⟩
    have hpushed : (s1.heap.push go).get? s1.heap.objs.size = some go := hgp _
    refine ⟨s1.heap.objs.size, s1.gens.size, _, rfl, sz1, ?_, hgen _ hpushed, Array.getElem?_push_size .., os1, ?_, lim1.keeps fun b o e => Heap.get?_push_of_some _ e, fun b o e => Heap.get?_push_of_some _ (kp1 b o e), ?_⟩
    · show _ < (s1.heap.push _).objs.size
      rw [Heap.size_push]; exact Nat.lt_succ_self _
    · exact AllBare.push (by rw [gen1]; exact e0.bare) rfl
    intro Aw s2 hrw hfr hk2 hos hba
    have e0w : Env0 P w K mg base Aw outer s H := ⟨hfr, e0.mod, e0.bs, e0.bsz, e0.funs, e0.frf, e0.hok, e0.bare⟩
    obtain ⟨t, ht, hq⟩ := hbody Aw outer s H vs Qn Qy [(s1.heap.objs.size, go)] (hrw.deeper _) hsp
    have I1 : Inv (gcxOf P w K mg base N qual scope f cdv Aw outer s H L2.E0 []) [] (start N vs) H s1 := inv_startG S hrw.hd e0w hl r x
    have kp2 : ∀ b o, s1.heap.get? b = some o → s2.heap.get? b = some o := fun b o e => hk2 b o (Heap.get?_push_of_some _ e)
    have I2 : Inv (gcxOf P w K mg base N qual scope f cdv Aw outer s H L2.E0 []) [] (start N vs) H s2 :=
      I1.call' (ch := []) (hos.trans os1.symm) (Un.kept kp2) (I1.hok.kept kp2) hba fun b z => by simp at z
    have hea : s2.heap.get? s1.heap.objs.size = some go := hk2 s1.heap.objs.size go hpushed
    have hgd : ∀ v, go.data ≠ .cell v := fun v q => by rw [hgd0] at q; cases q
    have hG : Inv (fcx P w K mg base N qual scope f cdv Aw outer s H [(s1.heap.objs.size, go)]) [] (start N vs) H s2 := by
      refine Inv.wish (X := gcxOf P w K mg base N qual scope f cdv Aw outer s H L2.E0 [(s1.heap.objs.size, go)]) (Inv.pinnedG I2 fun p hp => ?_) _
      rcases List.mem_append.mp hp with z | z
      · rw [List.mem_singleton.mp z]
        exact ⟨hea, I1.hok.fresh (Nat.le_refl _), Nat.ne_of_gt lt1, I1.nofs (Nat.le_refl _), hgd⟩
      · cases z
    have back : ∀ {ip : List (Addr × Obj)} {s' : Shared} {σ' : L2.St} {H' : Hp}, Inv (fcx P w K mg base N qual scope f cdv Aw outer s H [(s1.heap.objs.size, go)]) ip σ' H' s' → FBack P w outer H s s1.heap.objs.size s1.gens.size H' s' := fun {ip s' σ' H'} J =>
      ⟨J.os, J.bare, J.base, J.hok, hgen _ (J.pin (s1.heap.objs.size, go) (List.mem_append_left _ (List.mem_singleton.mpr rfl))).1⟩
    refine seg_func ?_
    refine seg_imp (R := FREnd P w outer H s s1.heap.objs.size s1.gens.size Qn) (Y := FY (fcx P w K mg base N qual scope f cdv Aw outer s H [(s1.heap.objs.size, go)]) Qy) (fun n s₀ r s1' hR => hR) (fun n s₀ v s1' kap kap' hkk hY => ?_) 1 ?_
    · obtain ⟨xx, ip, σ', H', rv, J, q⟩ := hY
      exact ⟨xx, H', rv, back J, q⟩
    · refine ht.run Aw [] _ s2 _ [] _ _ id id s2 (start N vs) H _ ⟨over_func, rfl, rfl, rfl, fun _ _ z => z⟩ ⟨fun s₀ s' fl hs => ?_⟩ hG hq
      cases fl with
      | next =>
        obtain ⟨σ', H', J, hQ⟩ := hs
        exact seg_end (.ok (.ret .none)) (.inl ⟨.inl rfl, H', back J, hQ⟩)
      | brk => obtain ⟨_, _, _, q⟩ := hs; exact False.elim q
      | cont => obtain ⟨_, _, _, q⟩ := hs; exact False.elim q
      | ret u =>
        obtain ⟨v, σ', H', J, rv, ev, hQ⟩ := hs
        subst ev
        have eu : u = Value.none := rv
        subst eu
        exact seg_end (.ok (.ret .none)) (.inl ⟨.inl rfl, H', back J, hQ⟩)
  exact main _ _ _ _ rfl rfl rfl fun h => Heap.get?_push_size _ rfl

/-! ### for x in f(..): .., left at its first turn -/
section
variable {X : Cx} {k : Nat} {f : Addr} {fd : FuncData} {ps : List Str} {sp : SpF} {x : Str} {p pos fpos : Pos} {e : Expr} {es : List Expr} {t : TA} {tg : Expr} {g : TG} {tb : TS} {body : List Stmt}
def tForF (sp : SpF) (t : TA) (g : TG) (tb : TS) : TS := fun D σ H => t σ H fun vs H1 => sp vs H1 (fun H2 => D.nx σ H2) fun v H2 => g v σ H2 fun σ3 H3 => tb { D with nx := fun _ _ => False, ct := fun _ _ => False, bk := D.nx } σ3 H3
theorem ps_forF (F : GF X.prog X.w X.K X.mg X.base k f fd ps sp) (hr : Room (k + 3) X.A) (hx : Gl X x) (hm : X.mg x = some (.ref f)) (hk : PySem.W.keepIn X.K (.ref f) = true) (hbn : Binds X.K fd ps [])
    (ha : PA X (e :: es) t) (hp : PassesOwn (model X.prog X.w) X.A X.env X.xe) (hc : X.calm = true) (hg : PG X tg g) (hb : PSs X body tb)
    (hdb : (x == ("__debug__" : Str)) = false := by decide) (he : starEach (e :: es) X.env = (false, eval e X.env) :: starEach es X.env := by rfl) (hpl : (backTo pos (starEach es X.env)).any (·.1) = false := by rfl)
    (hs : ∀ v, foldedSetIterable (.Call (.Name x p) (e :: es) [] pos) X.env v = pure v := by intro _; rfl) :
    PS X (.For tg (.Call (.Name x p) (e :: es) [] pos) body [] fpos) (tForF sp t g tb) := by
  refine ⟨fun pins s σ H D I h => ?_⟩
  refine wpAny_For ?_ hs
  refine wpAny_Call_Name_kw (ld_glob I hx hm ?_ hdb)
  refine PySem.W.callWith_K (h₀ := X.base) I.ok.mod.kin hk (thn (ha.run pos pins s σ H _ I h) fun us s1 ⟨vs, H1, I1, r1, q1⟩ => ⟨I1.kIn, ?_⟩) he hpl
  have hl : (us ++ []).length = ps.length := by rw [List.append_nil, ← r1.length]; exact F.len _ _ _ _ q1
  have b := hbn s1 us I1.kIn hl
  rw [List.append_nil] at b
  refine wpAny_call (codeAny_mono (F.run X.A X.stack s1 H1 ⟨us, []⟩ us vs _ _ (hr.mono (by omega)) I1.env0 b r1 q1) fun res s2 hq => ?_)
  cases res with
  | error er => exact False.elim hq
  | ok fl =>
    cases fl with
    | brk => exact False.elim hq
    | cont => exact False.elim hq
    | next => exact False.elim hq
    | ret u =>
      obtain ⟨a, gi, c, rfl, ha1, ha2, hgen, hgs, hos, hbare, hlim, hkp, wake⟩ := hq
      refine wpAny_pyIter_gen hgen ?_
      refine codeAny_forLoop_any (fun n s' => n = 0 ∧ s' = s2) ?_ 0 ⟨rfl, rfl⟩
      rintro n s3 ⟨rfl, rfl⟩
      have rm : Room k X.A.in1.in1 := by
        refine ⟨hr.hd, ?_, ?_⟩
        · have := hr.dp
          show X.A.depth + 3 * k + 5 < _
          omega
        · have := hr.un
          show X.A.units + 1 + 1 + 16 * k + 200 < _
          omega
      have dep : X.A.depth < recursionLimit := by have := hr.dp; omega
      have goes : GenState.Goes (model X.prog X.w) X.A.in1 (fun n s₀ r s₁ => ((r = .ok (.ret .none) ∨ r = .ok .next) ∧ FEnd X.prog X.w X.stack H1 s1 a gi (fun H2 => D.nx σ H2) s₁) ∨ ∃ e, r = .error e ∧ False)
          (FYItem X.prog X.w X.stack H1 s1 a gi fun v H2 => g v σ H2 fun σ3 H3 => tb { D with nx := fun _ _ => False, ct := fun _ _ => False, bk := D.nx } σ3 H3) 1 (.fresh c) (.send .none) (s3.setGen gi .running) :=
        ⟨rfl, wake X.A.in1 _ ⟨rm.hd, by have := hr.dp; show X.A.depth + 3 * k + 5 < _; omega, by have := hr.un; show X.A.units + 1 + 16 * k + 200 < _; omega⟩ I1.ok.frames (fun _ _ z => z) hos (allBare_setGen hbare rfl)⟩
      refine wpAny_passesOwn hp (next_genG (F := fun _ _ s₁ => FEnd X.prog X.w X.stack H1 s1 a gi (fun H2 => D.nx σ H2) s₁) (Er := fun _ _ => False) (I1.ok.hd hc) hlim dep hgen hgs goes (fun v s₁ gs' hbg hv => ?_) (fun s₁ hf h' hk' => ?_) fun e s₁ z => z.elim)
      · obtain ⟨vv, H2, rv, ⟨o1, o2, o3, o4, o5⟩, q⟩ := hv
        have J : Inv X pins σ H2 (s₁.setGen gi gs') := I1.call' (ch := []) o1 o3 o4 (allBare_setGen o2 hbg) fun b z => by cases z
        obtain ⟨og, nm, qn, hog, hcg, hdg, hsg⟩ := o5
        refine go_of (s := s₁.setGen gi gs') (o := og) (n := "generator") hog hcg hdg (by decide) ?_
        refine wpAny_passesOwn hp (thn (hg.run _ _ σ H2 vv v _ J rv q) fun _ s6 ⟨σ6, H6, I6, q6⟩ => ?_)
        refine wpAny_passesOwn hp (thn (hb.run _ s6 σ6 H6 _ I6 q6) fun f s7 q7 => ?_)
        cases f with
        | next => obtain ⟨_, _, _, z⟩ := q7; exact False.elim z
        | cont => obtain ⟨_, _, _, z⟩ := q7; exact False.elim z
        | brk => exact q7
        | ret v => exact q7
      · obtain ⟨H2, ⟨o1, o2, o3, o4, o5⟩, q⟩ := hf
        have J : Inv X pins σ H2 { s₁.setGen gi .finished with heap := h' } := I1.call' (ch := []) o1 (o3.trans (Un.kept hk')) (o4.kept hk') (allBare_setGen o2 rfl) fun b z => by cases z
        exact wpAny_execs_nil ⟨σ, H2, J, q⟩
end
end Gk
namespace Gk
open PySem PySem.Spec PyProof.Rows L2 GenW
section
variable {P : Program} {w : World} {K : PySem.W.Frag} {mg : Str → Option Value} {base : Heap}
theorem gF_ok {x qual : Str} {st : Stmt} {f : Addr} {fd : FuncData} {N ps : List Str} {k : Nat} {sp : SpF} (F : L2.Fun K x qual st f fd) (S : GScope N ps (defScope st))
    (len : ∀ vs H Qn Qy, sp vs H Qn Qy → vs.length = ps.length)
    (hbody : ∀ (cdv : Value) (A : Around) (outer : List Env) (s : Shared) (H : Hp) (vs : List V) (Qn : Hp → Prop) (Qy : VK) (pn : List (Addr × Obj)), Room k (A.deeper (envOfC qual (defScope st) s.heap.objs.size f cdv)) → sp vs H Qn Qy →
      ∃ t, FSs (fcx P w K mg base N qual (defScope st) f cdv A outer s H pn) (defBody st) t ∧ t { nx := fun _ H' => Qn H', rt := fun v H' => v = .non ∧ Qn H', yl := Qy } (start N vs) H) :
    GF P w K mg base (k + 1) f fd ps sp := by
  obtain ⟨oc, od, kV, doc, pm, an, cdv, ct, osl, rfl, lk, hcd⟩ := F.ex
  exact gf_of lk hcd S len fun A outer s H vs Qn Qy pn hr h => hbody cdv A outer s H vs Qn Qy pn hr h
structure Dgf (P : Program) (w : World) (K : PySem.W.Frag) (mg : Str → Option Value) (base : Heap) (k : Nat) (x : Str) (ps : List Str) (sp : SpF) : Prop where
  ex : ∃ (f : Addr) (fd : FuncData), GF P w K mg base k f fd ps sp ∧ mg x = some (.ref f) ∧ PySem.W.keepIn K (.ref f) = true ∧ Binds K fd ps []
end
section
variable {X : Cx} {k j : Nat} {ps : List Str} {sp : SpF} {x : Str} {p pos fpos : Pos} {e : Expr} {es : List Expr} {t : TA} {tg : Expr} {g : TG} {tb : TS} {body : List Stmt}
theorem ps_forD (D : Dgf X.prog X.w X.K X.mg X.base k x ps sp) (hr : Room j X.A) (hj : k + 3 ≤ j) (hx : Gl X x)
    (ha : PA X (e :: es) t) (hp : PassesOwn (model X.prog X.w) X.A X.env X.xe) (hc : X.calm = true) (hg : PG X tg g) (hb : PSs X body tb)
    (hdb : (x == ("__debug__" : Str)) = false := by decide) (he : starEach (e :: es) X.env = (false, eval e X.env) :: starEach es X.env := by rfl) (hpl : (backTo pos (starEach es X.env)).any (·.1) = false := by rfl)
    (hs : ∀ v, foldedSetIterable (.Call (.Name x p) (e :: es) [] pos) X.env v = pure v := by intro _; rfl) :
    PS X (.For tg (.Call (.Name x p) (e :: es) [] pos) body [] fpos) (tForF sp t g tb) := by
  obtain ⟨f, fd, F, hm, hk, hb'⟩ := D.ex
  exact ps_forF F (hr.mono hj) hx hm hk hb' ha hp hc hg hb hdb he hpl hs
end
end Gk
namespace Pf
open PySem PySem.Spec PyProof.Rows L2 Gk
abbrev nClash : List Str := ["trace", "scheme", "cells", "one", "other"]
abbrev nFirst : List Str := ["trace", "scheme", "pair"]
abbrev nSure : List Str := ["trace", "scheme"]
/-! ### pairs of positions, the first one -/
def outAt (l : List (Int × Int)) (i : Nat) : Int := (l.getD i (0, 0)).2
theorem out_at {K : PySem.W.Frag} {H : Hp} {xs : List V} {l : List (Int × Int)} (hA : DpAll K H xs (l.map pd)) {i : Nat} (hi : i < l.length) : ∃ a b, xs[i]? = some (.ref a) ∧ SqT K H a [.int b, .int (outAt l i)] := by
  have hx : i < xs.length := by rw [lc_len hA]; exact hi
  obtain ⟨p, a, h1, h2, h3⟩ := pd_at hA (List.getElem?_eq_getElem hx)
  refine ⟨a, p.1, ?_, ?_⟩
  · rw [List.getElem?_eq_getElem hx, h2]
  · have e : outAt l i = p.2 := by
      unfold outAt
      rw [List.getD_eq_getElem?_getD, h1]
      rfl
    rw [e]
    exact h3
def clashP (l : List (Int × Int)) (k : Str) (z : Int) (x : Option Int) (i j : Nat) : Bool := PyData.eqv (cl l k z x i) (cl l k z x j) && !decide (outAt l i = outAt l j)
def clashL (l : List (Int × Int)) (k : Str) (z : Int) (x : Option Int) : List (Int × Int) := allP (clashP l k z x) l.length l.length
theorem rowP_pre (p : Nat → Nat → Bool) (i : Nat) {a : Nat} : ∀ {b : Nat}, a ≤ b → ∃ r, rowP p i b = rowP p i a ++ r
  | 0, h => ⟨[], by rw [Nat.le_zero.mp h, List.append_nil]⟩
  | b + 1, h => by
    by_cases e : a = b + 1
    · exact ⟨[], by rw [e, List.append_nil]⟩
    · obtain ⟨r, hr⟩ := rowP_pre p i (a := a) (b := b) (by omega)
      refine ⟨r ++ (if p i (i + 1 + b) = true then [(((i : Nat) : Int), ((i + 1 + b : Nat) : Int))] else []), ?_⟩
      show rowP p i b ++ _ = _
      rw [hr, List.append_assoc]
theorem allP_pre (p : Nat → Nat → Bool) (n : Nat) {a : Nat} : ∀ {b : Nat}, a ≤ b → ∃ r, allP p n b = allP p n a ++ r
  | 0, h => ⟨[], by rw [Nat.le_zero.mp h, List.append_nil]⟩
  | b + 1, h => by
    by_cases e : a = b + 1
    · exact ⟨[], by rw [e, List.append_nil]⟩
    · obtain ⟨r, hr⟩ := allP_pre p n (a := a) (b := b) (by omega)
      refine ⟨r ++ rowP p b (n - (b + 1)), ?_⟩
      show allP p n b ++ _ = _
      rw [hr, List.append_assoc]
theorem allP_first {p : Nat → Nat → Bool} {n i m : Nat} (h1 : allP p n i = []) (h2 : rowP p i m = []) (hp : p i (i + 1 + m) = true) (hi : i + 1 + m < n) : ∃ r, allP p n n = (((i : Nat) : Int), ((i + 1 + m : Nat) : Int)) :: r := by
  obtain ⟨r1, e1⟩ := allP_pre p n (show i + 1 ≤ n by omega)
  obtain ⟨r2, e2⟩ := rowP_pre p i (show m + 1 ≤ n - (i + 1) by omega)
  have e3 : rowP p i (m + 1) = [(((i : Nat) : Int), ((i + 1 + m : Nat) : Int))] := by
    show rowP p i m ++ _ = _
    rw [h2, if_pos hp]
    rfl
  refine ⟨r2 ++ r1, ?_⟩
  rw [e1]
  show (allP p n i ++ rowP p i (n - (i + 1))) ++ r1 = _
  rw [h1, e2, e3]
  rfl
section
variable {P : Program} {w : World} {K : PySem.W.Frag} {mg : Str → Option Value} {base : Heap}
def spClash (K : PySem.W.Frag) : SpF := fun vs H Qn Qy => ∃ (t c : Addr) (l : List (Int × Int)) (k : Str) (z : Int) (x : Option Int), vs = [.ref t, .ref c] ∧ PairsAt K H t l ∧ Fair l ∧ 1 ≤ l.length ∧ l.length ≤ 64 ∧ SqT K H c (planV k z x) ∧ PlanOk k z x ∧
  (clashL l k z x = [] → ∀ H', Same H H' → Qn H') ∧ ∀ e r, clashL l k z x = e :: r → ∀ H' T, Same H H' → SqT K H' T [.int e.1, .int e.2] → Qy (.ref T) H'
def spFirst (K : PySem.W.Frag) : Sp := fun vs H Q _ => ∃ (t c : Addr) (l : List (Int × Int)) (k : Str) (z : Int) (x : Option Int), vs = [.ref t, .ref c] ∧ PairsAt K H t l ∧ Fair l ∧ 1 ≤ l.length ∧ l.length ≤ 64 ∧ SqT K H c (planV k z x) ∧ PlanOk k z x ∧
  (clashL l k z x = [] → ∀ H', Same H H' → Q .non H') ∧ ∀ e r, clashL l k z x = e :: r → ∀ H' T, Same H H' → SqT K H' T [.int e.1, .int e.2] → Q (.ref T) H'
def spSure (K : PySem.W.Frag) : Sp := fun vs H Q _ => ∃ (t c : Addr) (l : List (Int × Int)) (k : Str) (z : Int) (x : Option Int), vs = [.ref t, .ref c] ∧ PairsAt K H t l ∧ Fair l ∧ 1 ≤ l.length ∧ l.length ≤ 64 ∧ SqT K H c (planV k z x) ∧ PlanOk k z x ∧
  ∀ H', Same H H' → Q (.bl (decide (clashL l k z x = []))) H'
end
end Pf
namespace Pf
open PySem PySem.Spec PyProof.Rows L2 Gk Fold
/-! ### histories of the machine, as they are told of a moment -/
theorem hM_past {l : List (Int × Int)} (h1 : 1 ≤ l.length) (k : Str) (L : Nat) (b : Int) : ∀ m, hM l k L m (ownO k b) = past (hB l k b) (cj l k b m) L
  | 0 => by
    rw [cj_zero]
    unfold past
    rw [Nat.zero_min]
    show List.replicate L false = List.replicate (L - 0) false ++ run (hB l k b) (0 - 0) 0
    unfold run
    simp
  | m + 1 => by
    have ih := hM_past h1 k L b m
    by_cases c : counts l k b m
    · have e : ownO k b = ownO k (brAt l m) := by
        unfold ownO
        rcases c with c | c
        · rw [if_neg c, if_neg c]
        · rw [c]
      have : Decidable (counts l k b m) := .isTrue c
      rw [hM_push e, ih, cj_step h1, if_pos c, past_push, cj_dig h1 c]
      rfl
    · have e : ¬ ownO k b = ownO k (brAt l m) := fun z => c (by
        unfold ownO at z
        by_cases o : k = "own"
        · rw [if_pos o, if_pos o] at z
          exact .inr (Option.some.inj z).symm
        · exact .inl o)
      have : Decidable (counts l k b m) := .isFalse c
      rw [hM_stay e, ih, cj_step h1, if_neg c, Nat.add_zero]
theorem hAtM_hist {l : List (Int × Int)} (h1 : 1 ≤ l.length) (k : Str) (L m : Nat) : hAtM l k L m = hist l k m L := by
  unfold hAtM
  rw [hM_past h1, hist_cj]
/-- the steady cell of a position, as a key -/
def sK (l : List (Int × Int)) (k : Str) (x : Option Int) (L i : Nat) : CK := cK k x (brAt l i).toNat (hR l k L L i)
theorem cM_steady {l : List (Int × Int)} (fair : Fair l) (h1 : 1 ≤ l.length) (h2 : l.length ≤ 64) {k : Str} {x : Option Int} {L r : Nat} (hr : L ≤ r) (i : Nat) : cM l k x L (r * l.length + i) = sK l k x L i := by
  unfold cM sK
  rw [hAtM_hist h1, brAt_round, show hist l k (r * l.length + i) L = hR l k L r i from rfl, hR_late fair h1 h2 k hr]
theorem sK_cl {l : List (Int × Int)} {k : Str} {z : Int} {x : Option Int} (i j : Nat) : PyData.eqv (cl l k z x i) (cl l k z x j) = decide (sK l k x z.toNat i = sK l k x z.toNat j) := by
  unfold cl cellD sK cK
  by_cases c1 : k = "folded"
  · rw [if_pos c1, if_pos c1, if_pos c1, if_pos c1]
    show decide _ = decide _
    refine decide_eq_decide.mpr ⟨fun h => by rw [h], fun h => ?_⟩
    injection h with h
    injection h with h
  · rw [if_neg c1, if_neg c1, if_neg c1, if_neg c1]
    by_cases c2 : k = "shared"
    · rw [if_pos c2, if_pos c2, if_pos c2, if_pos c2]
      show decide _ = decide _
      refine decide_eq_decide.mpr ⟨fun h => by rw [h], fun h => ?_⟩
      injection h with h
      injection h with h
    · rw [if_neg c2, if_neg c2, if_neg c2, if_neg c2]
      show (decide _ && (decide _ && true)) = decide _
      rw [Bool.and_true, ← Bool.decide_and]
      refine decide_eq_decide.mpr ⟨fun h => by rw [h.1, h.2], fun h => ?_⟩
      injection h with h
      injection h with h h3
      injection h with h
      injection h3 with h3 _
      injection h3 with h3
      exact ⟨h, h3⟩
/-- whether some positions clash -/
def Clash (l : List (Int × Int)) (k : Str) (x : Option Int) (L : Nat) : Prop := ∃ i j, i < j ∧ j < l.length ∧ sK l k x L i = sK l k x L j ∧ outAt l i ≠ outAt l j
theorem rowP_has {p : Nat → Nat → Bool} {i j : Nat} : ∀ {m}, i < j → j < i + 1 + m → p i j = true → (((i : Nat) : Int), ((j : Nat) : Int)) ∈ rowP p i m
  | 0, h1, h2, _ => by omega
  | m + 1, h1, h2, h3 => by
    unfold rowP
    rcases Nat.lt_or_ge j (i + 1 + m) with a | a
    · exact List.mem_append_left _ (rowP_has h1 a h3)
    · have e : j = i + 1 + m := by omega
      subst e
      rw [if_pos h3]
      exact List.mem_append_right _ (List.mem_singleton.mpr rfl)
theorem allP_has {p : Nat → Nat → Bool} {n i j : Nat} : ∀ {m}, i < m → i < j → j < n → p i j = true → (((i : Nat) : Int), ((j : Nat) : Int)) ∈ allP p n m
  | 0, h, _, _, _ => by omega
  | m + 1, h, h1, h2, h3 => by
    unfold allP
    rcases Nat.lt_or_ge i m with a | a
    · exact List.mem_append_left _ (allP_has a h1 h2 h3)
    · have e : i = m := by omega
      subst e
      exact List.mem_append_right _ (rowP_has h1 (by omega) h3)
theorem clash_iff {l : List (Int × Int)} {k : Str} {z : Int} {x : Option Int} : clashL l k z x ≠ [] ↔ Clash l k x z.toNat := by
  constructor
  · intro h
    obtain ⟨y, ys, e⟩ := List.exists_cons_of_ne_nil h
    have hy : y ∈ allP (clashP l k z x) l.length l.length := by
      show y ∈ clashL l k z x
      rw [e]
      exact List.mem_cons_self
    obtain ⟨a, b, _, h1, h2, h3⟩ := allP_in (Nat.le_refl _) hy
    unfold clashP at h3
    rw [Bool.and_eq_true, sK_cl, decide_eq_true_eq, Bool.not_eq_true', decide_eq_false_iff_not] at h3
    exact ⟨a, b, h1, h2, h3.1, h3.2⟩
  · rintro ⟨i, j, h1, h2, h3, h4⟩ e
    have : (((i : Nat) : Int), ((j : Nat) : Int)) ∈ clashL l k z x := allP_has (by omega) h1 h2 (by
      unfold clashP
      rw [Bool.and_eq_true, sK_cl, decide_eq_true_eq, Bool.not_eq_true', decide_eq_false_iff_not]
      exact ⟨h3, h4⟩)
    rw [e] at this
    exact (nomatch this)
/-! ### steady from the round B on -/
section
variable {l : List (Int × Int)} {k : Str} {x : Option Int} {L B : Nat} {w v0 : Int}
/-- from the round B on each position has its steady cell -/
def FromB (l : List (Int × Int)) (k : Str) (x : Option Int) (L B : Nat) : Prop := ∀ r i, B ≤ r → i < l.length → cM l k x L (r * l.length + i) = sK l k x L i
theorem fromB_far (fair : Fair l) (h1 : 1 ≤ l.length) (h2 : l.length ≤ 64) : FromB l k x L L := fun r i hr _ => cM_steady fair h1 h2 hr i
theorem out_round (r i : Nat) (hi : i < l.length) : outM l (r * l.length + i) = outAt l i := by
  unfold outM outAt
  rw [Nat.mul_comm, Nat.mul_add_mod, Nat.mod_eq_of_lt hi]
theorem gM_round (fb : FromB l k x L B) {r r' : Nat} (hr : B ≤ r) (hr' : B ≤ r') (c : CK) : ∀ i, i ≤ l.length → ∀ v, gM l k x L w c (r * l.length) i v = gM l k x L w c (r' * l.length) i v
  | 0, _, _ => rfl
  | i + 1, hi, v => by
    rw [gM, gM, gM_round fb hr hr' c i (by omega) v, fb r i hr (by omega), fb r' i hr' (by omega), out_round r i (by omega), out_round r' i (by omega)]
theorem uM_fix (fb : FromB l k x L B) (hw : 1 ≤ w) (h0 : 0 ≤ v0) (h1 : v0 ≤ top w) (c : CK) : ∀ j, uM l k x L w v0 ((B + (top w).toNat + j) * l.length) c = uM l k x L w v0 ((B + (top w).toNat) * l.length) c := by
  have inn := fun m => vM_in (l := l) (k := k) (x := x) (L := L) hw h0 h1 m c
  have st : ∀ t, uM l k x L w v0 ((B + (t + 1)) * l.length) c = gM l k x L w c (B * l.length) l.length (uM l k x L w v0 ((B + t) * l.length) c) := fun t => by
    rw [gM_round fb (Nat.le_refl B) (show B ≤ B + t by omega) c l.length (Nat.le_refl _), ← uM_g]
    congr 1
    rw [← Nat.succ_mul]
    rfl
  have e := chain (f := gM l k x L w c (B * l.length) l.length) (a := fun t => uM l k x L w v0 ((B + t) * l.length) c) (gM_mono _) st (T := top w) (fun t => (inn _).1) (fun t => (inn _).2)
  intro j
  induction j with
  | zero => rfl
  | succ j ih =>
    have s1 := st ((top w).toNat + j)
    rw [show B + ((top w).toNat + j + 1) = B + (top w).toNat + (j + 1) by omega, show B + ((top w).toNat + j) = B + (top w).toNat + j by omega, ih] at s1
    rw [s1]
    have s2 := st (top w).toNat
    have e : uM l k x L w v0 ((B + ((top w).toNat + 1)) * l.length) c = uM l k x L w v0 ((B + (top w).toNat) * l.length) c := e
    rw [← s2, e]
/-- the value at a place of a late round -/
theorem uM_in (fb : FromB l k x L B) (hw : 1 ≤ w) (h0 : 0 ≤ v0) (h1 : v0 ≤ top w) (c : CK) (j i : Nat) (hi : i ≤ l.length) : uM l k x L w v0 ((B + (top w).toNat + j) * l.length + i) c = gM l k x L w c (B * l.length) i (uM l k x L w v0 ((B + (top w).toNat) * l.length) c) := by
  rw [uM_g, uM_fix fb hw h0 h1 c j, gM_round fb (Nat.le_refl B) (show B ≤ B + (top w).toNat + j by omega) c i hi]
theorem eR_fix (fb : FromB l k x L B) (hw : 1 ≤ w) (h0 : 0 ≤ v0) (h1 : v0 ≤ top w) (j : Nat) : eR l k x L w v0 (B + (top w).toNat + j) = eR l k x L w v0 (B + (top w).toNat) := by
  unfold eR
  have : ∀ i, i ≤ l.length → bR l k x L w v0 (B + (top w).toNat + j) i = bR l k x L w v0 (B + (top w).toNat) i := fun i => by
    induction i with
    | zero => intro _; rfl
    | succ i ih =>
      intro hi
      have p1 : pM l k x L w v0 ((B + (top w).toNat + j) * l.length + i) = pM l k x L w v0 ((B + (top w).toNat) * l.length + i) := by
        unfold pM
        have u1 := uM_in fb hw h0 h1 (sK l k x L i) j i (by omega)
        have u2 := uM_in fb hw h0 h1 (sK l k x L i) 0 i (by omega)
        rw [Nat.add_zero] at u2
        rw [valM_u, valM_u, fb _ i (by omega) (by omega), fb _ i (by omega) (by omega), u1, u2]
      have w1 : wrongAt l k x L w v0 ((B + (top w).toNat + j) * l.length + i) ↔ wrongAt l k x L w v0 ((B + (top w).toNat) * l.length + i) := by
        unfold wrongAt
        rw [p1, out_round _ i (by omega), out_round _ i (by omega)]
      rw [bR, bR, ih (by omega)]
      by_cases c : wrongAt l k x L w v0 ((B + (top w).toNat) * l.length + i)
      · rw [if_pos c, if_pos (w1.mpr c)]
      · rw [if_neg c, if_neg (fun z => c (w1.mp z))]
  exact this _ (Nat.le_refl _)
theorem aft_keep {v o : Int} (hw : 1 ≤ w) (h0 : 0 ≤ v) (h1 : v ≤ top w) (ho : o = 0 ∨ o = 1) (e : prd w v = o) : prd w (aft w v o) = o := by
  have tp := top_pos hw
  unfold prd at *
  unfold aft
  rcases ho with rfl | rfl
  · rw [if_neg (show ¬ (0 : Int) = 1 by decide)]
    by_cases c : 2 * v > top w
    · rw [if_pos c] at e; exact absurd e (by decide)
    · rw [if_neg]
      split <;> omega
  · rw [if_pos rfl]
    by_cases c : 2 * v > top w
    · rw [if_pos]
      split <;> omega
    · rw [if_neg c] at e; exact absurd e (by decide)
theorem bR_zero (j : Nat) : ∀ n, bR l k x L w v0 j n = 0 ↔ ∀ i, i < n → ¬ wrongAt l k x L w v0 (j * l.length + i)
  | 0 => ⟨fun _ i h => (nomatch h), fun _ => rfl⟩
  | n + 1 => by
    rw [bR]
    have ih := bR_zero j n
    constructor
    · intro h i hi
      by_cases c : wrongAt l k x L w v0 (j * l.length + n)
      · rw [if_pos c] at h; omega
      · rw [if_neg c] at h
        rcases Nat.lt_or_ge i n with a | a
        · exact ih.mp (by omega) i a
        · rw [show i = n by omega]; exact c
    · intro h
      rw [if_neg (h n (by omega)), ih.mpr fun i hi => h i (by omega)]
/-- where positions clash, each late round has an error -/
theorem clash_err (fair : Fair l) (hl : 1 ≤ l.length) (fb : FromB l k x L B) (hw : 1 ≤ w) (h0 : 0 ≤ v0) (h1 : v0 ≤ top w) (cl : Clash l k x L) {r : Nat} (hr : B ≤ r) : eR l k x L w v0 r ≠ 0 := by
  obtain ⟨i, j, ij, jn, same, ne⟩ := cl
  intro z
  have right := (bR_zero r l.length).mp z
  have right : ∀ q, q < l.length → prd w (uM l k x L w v0 (r * l.length + q) (sK l k x L q)) = outAt l q := fun q hq => by
    have := right q hq
    unfold wrongAt pM at this
    rw [valM_u, fb r q hr hq, out_round r q hq] at this
    exact Decidable.of_not_not this
  have inn := fun m => vM_in (l := l) (k := k) (x := x) (L := L) hw h0 h1 m (sK l k x L i)
  have bit := fun q (hq : q < l.length) => by
    have := outM_bit fair hl (r * l.length + q)
    rw [out_round r q hq] at this
    exact this
  have go : ∀ d, i + 1 + d ≤ j → prd w (uM l k x L w v0 (r * l.length + (i + 1 + d)) (sK l k x L i)) = outAt l i := fun d => by
    induction d with
    | zero =>
      intro _
      rw [show r * l.length + (i + 1 + 0) = r * l.length + i + 1 by omega, uM_succ, fb r i hr (by omega), if_pos rfl, out_round r i (by omega)]
      exact aft_keep hw (inn _).1 (inn _).2 (bit i (by omega)) (right i (by omega))
    | succ d ih =>
      intro hd
      have ih := ih (by omega)
      rw [show r * l.length + (i + 1 + (d + 1)) = r * l.length + (i + 1 + d) + 1 by omega, uM_succ, fb r (i + 1 + d) hr (by omega)]
      by_cases c : sK l k x L i = sK l k x L (i + 1 + d)
      · rw [if_pos c, out_round r (i + 1 + d) (by omega)]
        have rt := right (i + 1 + d) (by omega)
        rw [← c] at rt
        have e : outAt l (i + 1 + d) = outAt l i := rt.symm.trans ih
        rw [e]
        exact aft_keep hw (inn _).1 (inn _).2 (bit i (by omega)) ih
      · rw [if_neg c]
        exact ih
  have g := go (j - (i + 1)) (by omega)
  rw [show i + 1 + (j - (i + 1)) = j by omega] at g
  have rt := right j jn
  rw [← same] at rt
  exact ne (g.symm.trans rt)
/-- where none clash, the late rounds are without errors -/
theorem sure_right (hl : 1 ≤ l.length) (fair : Fair l) (fb : FromB l k x L B) (hw : 1 ≤ w) (h0 : 0 ≤ v0) (h1 : v0 ≤ top w) (nc : ¬ Clash l k x L) (j : Nat) : ∀ i, i < l.length → pM l k x L w v0 ((B + (top w).toNat + j) * l.length + i) = outAt l i := by
  intro i hi
  have tp := top_pos hw
  generalize hc : sK l k x L i = c
  have inn := fun m => vM_in (l := l) (k := k) (x := x) (L := L) hw h0 h1 m c
  have one : ∀ q, q < l.length → sK l k x L q = c → outAt l q = outAt l i := fun q hq e => by
    by_cases d : outAt l q = outAt l i
    · exact d
    · exfalso
      rcases Nat.lt_trichotomy q i with a | a | a
      · exact nc ⟨q, i, a, hi, by rw [e, hc], d⟩
      · subst a; exact d rfl
      · exact nc ⟨i, q, a, hq, by rw [e, hc], fun z => d z.symm⟩
  generalize hv : uM l k x L w v0 ((B + (top w).toNat) * l.length) c = v
  have vin : 0 ≤ v ∧ v ≤ top w := by rw [← hv]; exact inn _
  have fixed : gM l k x L w c (B * l.length) l.length v = v := by
    have a := uM_in fb hw h0 h1 c 0 l.length (Nat.le_refl _)
    have b := uM_fix fb hw h0 h1 c 1
    rw [hv] at a b
    rw [← a, Nat.add_zero, ← b]
    congr 1
    rw [← Nat.succ_mul]
  have here : cM l k x L (B * l.length + i) = c := by rw [fb B i (Nat.le_refl _) hi, hc]
  have bit := outM_bit fair hl (B * l.length + i)
  rw [out_round B i hi] at bit
  have res : ∀ u, prd w u = outAt l i → gM l k x L w c (B * l.length) i v = u → pM l k x L w v0 ((B + (top w).toNat + j) * l.length + i) = outAt l i := fun u hu e => by
    unfold pM
    rw [valM_u, fb _ i (by omega) hi, hc, uM_in fb hw h0 h1 c j i (by omega), hv, e, hu]
  rcases bit with o | o
  · have dn : ∀ q, q ≤ l.length → 0 ≤ gM l k x L w c (B * l.length) q v ∧ gM l k x L w c (B * l.length) q v ≤ v ∧ (i < q → gM l k x L w c (B * l.length) q v ≤ (if v - 1 < 0 then 0 else v - 1)) := fun q => by
      induction q with
      | zero => intro _; exact ⟨vin.1, Int.le_refl _, fun h => (nomatch h)⟩
      | succ q ih =>
        intro hq
        obtain ⟨a1, a2, a3⟩ := ih (by omega)
        rw [gM]
        by_cases c2 : c = cM l k x L (B * l.length + q)
        · rw [if_pos c2]
          have eo : outM l (B * l.length + q) = 0 := by
            rw [out_round B q (by omega), one q (by omega) (by rw [← fb B q (Nat.le_refl _) (by omega)]; exact c2.symm), o]
          rw [eo]
          unfold aft
          rw [if_neg (by decide)]
          refine ⟨by split <;> omega, by split <;> omega, fun _ => ?_⟩
          split <;> split <;> omega
        · rw [if_neg c2]
          refine ⟨a1, a2, fun h => a3 ?_⟩
          rcases Nat.lt_or_ge i q with g | g
          · exact g
          · exact absurd (by rw [show q = i by omega]; exact here.symm) c2
    have last := dn l.length (Nat.le_refl _)
    rw [fixed] at last
    have v00 : v = 0 := by
      have := last.2.2 hi
      split at this <;> omega
    refine res 0 ?_ (by have := dn i (by omega); omega)
    unfold prd
    rw [if_neg (by omega), o]
  · have up : ∀ q, q ≤ l.length → gM l k x L w c (B * l.length) q v ≤ top w ∧ v ≤ gM l k x L w c (B * l.length) q v ∧ (i < q → (if top w < v + 1 then top w else v + 1) ≤ gM l k x L w c (B * l.length) q v) := fun q => by
      induction q with
      | zero => intro _; exact ⟨vin.2, Int.le_refl _, fun h => (nomatch h)⟩
      | succ q ih =>
        intro hq
        obtain ⟨a1, a2, a3⟩ := ih (by omega)
        rw [gM]
        by_cases c2 : c = cM l k x L (B * l.length + q)
        · rw [if_pos c2]
          have eo : outM l (B * l.length + q) = 1 := by
            rw [out_round B q (by omega), one q (by omega) (by rw [← fb B q (Nat.le_refl _) (by omega)]; exact c2.symm), o]
          rw [eo]
          unfold aft
          rw [if_pos rfl]
          refine ⟨by split <;> omega, by split <;> omega, fun _ => ?_⟩
          split <;> split <;> omega
        · rw [if_neg c2]
          refine ⟨a1, a2, fun h => a3 ?_⟩
          rcases Nat.lt_or_ge i q with g | g
          · exact g
          · exact absurd (by rw [show q = i by omega]; exact here.symm) c2
    have last := up l.length (Nat.le_refl _)
    rw [fixed] at last
    have vt : v = top w := by
      have := last.2.2 hi
      split at this <;> omega
    refine res (top w) ?_ (by have := up i (by omega); omega)
    unfold prd
    rw [if_pos (by omega), o]
theorem sure_zero (hl : 1 ≤ l.length) (fair : Fair l) (fb : FromB l k x L B) (hw : 1 ≤ w) (h0 : 0 ≤ v0) (h1 : v0 ≤ top w) (nc : ¬ Clash l k x L) (j : Nat) : eR l k x L w v0 (B + (top w).toNat + j) = 0 :=
  (bR_zero _ _).mpr fun i hi h => h (by rw [sure_right hl fair fb hw h0 h1 nc j i hi, out_round _ i hi])
end
end Pf
/-! Dicts whose keys are cells: whole numbers, texts, or tuples of those. -/
namespace Gk
open PySem PySem.Spec PyProof.Rows L2
/-- two rules of one expression -/
theorem pe_either {X : Cx} {e : Expr} {t t' : TE} (a : PE X e t) (b : PE X e t') : PE X e (fun σ H Q => t σ H Q ∨ t' σ H Q) :=
  ⟨fun pins s σ H Q I h => h.elim (a.run pins s σ H Q I) (b.run pins s σ H Q I)⟩
/-- two rules of one function -/
theorem CallR.either {X : Cx} {v : Value} {r r' : List V → Hp → VK → Prop} (a : CallR X v r) (b : CallR X v r') : CallR X v (fun xs H Q => r xs H Q ∨ r' xs H Q) := by
  intro pins s σ H xs us Q I rs h
  rcases h with h | h
  · exact a pins s σ H xs us Q I rs h
  · exact b pins s σ H xs us Q I rs h
/-- two rules of one method -/
theorem MtR.either {X : Cx} {id : String} {r r' : V → List V → Hp → VK → Prop} (a : MtR X id r) (b : MtR X id r') : MtR X id (fun x xs H Q => r x xs H Q ∨ r' x xs H Q) := by
  intro pins s σ H x xs v us Q I rx rxs h
  rcases h with h | h
  · exact a pins s σ H x xs v us Q I rx rxs h
  · exact b pins s σ H x xs v us Q I rx rxs h
def rSetdK : V → List V → Hp → VK → Prop := fun x xs H Q => ∃ (a : Addr) (kvs : List (L2.Key × V)) (k : L2.Key) (d : V), x = .ref a ∧ xs = [kV k, d] ∧ H a = some (.dK kvs) ∧ kvs.length < sizeLine ∧
  (∀ v, valV kvs k = some v → Q v H) ∧ (valV kvs k = none → Q d (upd H a (.dK (putK kvs k d))))
theorem mt_setdK {X : Cx} : MtR X "dict.setdefault" rSetdK := by
  intro pins s σ H x xs v us Q I rx rxs h
  obtain ⟨a, kvs, k, d, rfl, rfl, ha, hl, q1, q2⟩ := h
  cases rx
  obtain ⟨u1, u2, rfl, r1, r2⟩ := vals2 rxs
  exact d_setd I ha r1 r2 hl (fun v hv w' s4 I4 rw' => ⟨v, _, I4, rw', q1 v hv⟩) fun hn w' s4 I4 rw' => ⟨d, _, I4, rw', q2 hn⟩
def rSetdT : V → List V → Hp → VK → Prop := fun x xs H Q => ∃ (a : Addr) (kvs : List (List L2.Key × V)) (k : List L2.Key) (b : Addr) (d : V), x = .ref a ∧ xs = [.ref b, d] ∧ H a = some (.dT kvs) ∧ H b = some (.tup (k.map kV)) ∧ kvs.length < sizeLine ∧
  (∀ v, valV kvs k = some v → Q v H) ∧ (valV kvs k = none → Q d (upd H a (.dT (putK kvs k d))))
theorem mt_setdT {X : Cx} (hu : X.A.units + 1 < cLine) : MtR X "dict.setdefault" rSetdT := by
  intro pins s σ H x xs v us Q I rx rxs h
  obtain ⟨a, kvs, k, b, d, rfl, rfl, ha, hb, hl, q1, q2⟩ := h
  cases rx
  obtain ⟨u1, u2, rfl, r1, r2⟩ := vals2 rxs
  cases r1
  obtain ⟨z, hd, ys, rel, dd⟩ := dt_of I.hok ha
  have val := rel.val k
  refine call_setdefault_heap (knd := tupleKind (mixKind X.prog X.w)) (k := k) (tupleKind_room_in1 hu) (key_of I.hok hb) hd dd (fun p hp => ?_) (fun hn h' dd' hs => ?_) (by rw [← Paired.length rel]; exact z)
  · rw [hp] at val
    obtain ⟨w0, ev, rv⟩ : ∃ w0, valV kvs k = some w0 ∧ RelV w0 p.2 := by
      rcases ev : valV kvs k with _ | w0
      · rw [ev] at val
        exact False.elim val
      · rw [ev] at val
        exact ⟨w0, rfl, val⟩
    exact ⟨w0, H, I.tok _, rv, q1 w0 ev⟩
  · rw [hn] at val
    have ev : valV kvs k = none := by
      rcases ev : valV kvs k with _ | w0
      · rfl
      · rw [ev] at val
        exact False.elim val
    have n2 : (putK kvs k d).length ≤ sizeLine := by
      have := length_putK kvs k d
      omega
    obtain ⟨o, es, ep, e1, e2⟩ := dd'
    have keep : ∀ c ts, H c = some (.tup ts) → (upd H a (.dT (putK kvs k d))) c = some (.tup ts) := fun c ts e => by
      rw [upd_ne (fun w => by rw [w, ha] at e; cases e)]
      exact e
    have new : ObjOk X.prog X.w (upd H a (.dT (putK kvs k d))) h' a (.dT (putK kvs k d)) := ⟨n2, hd, _, (rel.put k hb r2).keeps keep, o, es, ep, e1, e2.1, e2.2.1, e2.2.2.1, e2.2.2.2.2⟩
    exact ⟨d, _, d_write I (by rw [ha]; exact True.intro) hs ⟨o, e1⟩ new, r2, q2 ev⟩
end Gk
/-! sorted of a dict whose keys are tuples of a whole number and a text. -/
namespace Gk
open PySem PySem.Spec PyProof.Rows L2
/-- the place that a value names -/
def adr : Value → Addr
  | .ref a => a
  | _ => 0
def pairSh : Nat → Bool := fun i => i == 1
/-- y's tuple does not come after y''s -/
def TupLe (H : Hp) (y y' : Addr) : Prop := ∀ (b : Int) (t : Str) (b' : Int) (t' : Str), H y = some (.tup [.int b, .str t]) → H y' = some (.tup [.int b', .str t']) →
  PyProof.Rows.lexLt PyProof.Rows.itemOrd [.inl b', .inr t'.cps.toList] [.inl b, .inr t.cps.toList] = false
section
variable {X : Cx} {pins : List (Addr × Obj)} {σ : L2.St} {H : Hp} {s : Shared}
/-- such a tuple, as the sort sees it -/
theorem pair_here {h : Heap} (ok : HOk X.prog X.w H h) {y : Addr} {b : Int} {t : Str} (e : H y = some (.tup [.int b, .str t])) :
    PyProof.Rows.G.tupKeyC h pairSh (.ref y) = some [.inl b, .inr t.cps.toList] ∧ ∃ f, PyProof.Rows.TupOf h pairSh (.ref y) f := by
  obtain ⟨_, its, vals, o, ho, hc, n, hd⟩ := (show ObjOk X.prog X.w H h y (.tup [.int b, .str t]) from ok y _ e)
  rcases vals with _ | ⟨r1, _ | ⟨r2, _ | _⟩⟩
  obtain ⟨u1, rfl⟩ := r1
  obtain ⟨u2, rfl⟩ := r2
  refine ⟨?_, .int b u1, y, o, _, n, rfl, ho, hc, hd, rfl, fun _ => ⟨_, _, rfl⟩, fun z => by cases z⟩
  have hT : PyProof.Rows.G.isTupObj h (.ref y) = true := by simp [PyProof.Rows.G.isTupObj, ho, hc]
  unfold PyProof.Rows.G.tupKeyC
  rw [if_pos hT]
  simp [PyProof.Rows.tupKey, ho, hd, PyProof.Rows.tupItems, pairSh]
theorem pairs_here {h : Heap} (ok : HOk X.prog X.w H h) : ∀ {bs : List Addr}, (∀ y ∈ bs, ∃ (b : Int) (t : Str), H y = some (.tup [.int b, .str t])) →
    (∃ fs, PyProof.Rows.TupsOf h pairSh (bs.map Value.ref) fs) ∧ ∀ v ∈ bs.map Value.ref, ∃ l, PyProof.Rows.G.tupKeyC h pairSh v = some l
  | [], _ => ⟨⟨[], .nil⟩, fun v hv => by cases hv⟩
  | y :: bs, a => by
    obtain ⟨b, t, e⟩ := a y List.mem_cons_self
    obtain ⟨k, f, tf⟩ := pair_here ok e
    obtain ⟨⟨fs, tfs⟩, ks⟩ := pairs_here ok (bs := bs) fun z hz => a z (List.mem_cons_of_mem _ hz)
    refine ⟨⟨f :: fs, .cons tf tfs⟩, fun v hv => ?_⟩
    rcases List.mem_cons.mp hv with rfl | hv
    · exact ⟨_, k⟩
    · exact ks v hv
def rSortedDT : List V → Hp → VK → Prop := fun xs H Q => ∃ (d : Addr) (kvs : List (List L2.Key × V)), xs = [.ref d] ∧ H d = some (.dT kvs) ∧ (∀ p ∈ kvs, ∃ (b : Int) (t : Str), p.1 = [.inl b, .inr t]) ∧ kvs.length ≤ 1000 ∧
  ∀ (bs ys : List Addr) (p : Addr), IsKeys H kvs bs → ys.Perm bs → ys.Pairwise (TupLe H) → H p = none → Q (.ref p) (upd H p (.lst (ys.map V.ref)))
theorem keys_tup {kvs : List (List L2.Key × V)} {bs : List Addr} (k : IsKeys H kvs bs) (shp : ∀ p ∈ kvs, ∃ (b : Int) (t : Str), p.1 = [.inl b, .inr t]) : ∀ y ∈ bs, ∃ (b : Int) (t : Str), H y = some (.tup [.int b, .str t]) := by
  unfold IsKeys at k
  induction k with
  | nil => intro y hy; cases hy
  | @cons p y0 ps ys e _ ih =>
    intro y hy
    rcases List.mem_cons.mp hy with rfl | hy
    · obtain ⟨b, t, ep⟩ := shp p List.mem_cons_self
      rw [ep] at e
      exact ⟨b, t, e⟩
    · exact ih (fun q hq => shp q (List.mem_cons_of_mem _ hq)) y hy
theorem cr_sortedDT (hc : X.calm = true) : CallR X (.builtin "sorted") rSortedDT := by
  intro pins s σ H xs us Q I r q
  obtain ⟨d, kvs, rfl, hd, shp, hl, q⟩ := q
  obtain ⟨u, rfl, rx⟩ := vals1 r
  cases rx
  obtain ⟨z, hs, ks, pr, o, es, ep, ho, hx, hdt, he, hn⟩ := (show ObjOk X.prog X.w H s.heap d (.dT kvs) from I.hok d _ hd)
  have l1 : es.size = ks.length := size_of_entries he
  have l2 : kvs.length = ks.length := Paired.length pr
  have kb : IsKeys H kvs (ks.map fun x => x.2.1) := isKeys_of pr
  have tups := keys_tup kb shp
  have bl : (ks.map fun x => x.2.1).length = ks.length := List.length_map ..
  apply Calls.call_function_entry kind_sorted plain_sorted entry_sorted (args_sorted1 _)
  unfold Builtin.«sorted»
  refine wpAny_bind (m := checkCount "sorted" 1 1 _) (wpAny_pure (wpAny_bind (PySem.W.kdu_collect (A := X.A.in1) (kdl_raw hs hx hdt) (I.ok.hd hc) ho (by omega) fun h1 t1 acc kp it => ?_)))
  have ea : acc.toList = (ks.map fun x => x.2.1).map Value.ref := by
    refine List.ext_getElem (by rw [Array.length_toList, it.1, List.length_map, bl]; exact l1) fun j a1 a2 => ?_
    obtain ⟨en, e1, e2⟩ := it.2 j (acc.toList[j]) (by rw [← Array.getElem?_toList]; exact List.getElem?_eq_getElem a1)
    have jk : j < ks.length := by rw [List.length_map, bl] at a2; exact a2
    have e3 := entry_at he j
    rw [e1, List.getElem?_eq_getElem jk] at e3
    have e4 : en = entryOfKey (tupleKind (mixKind X.prog X.w)) ks[j] := Option.some.inj e3
    rw [e2, e4, List.getElem_map, List.getElem_map]
    rfl
  have I1 : Inv X pins σ H { s with heap := h1, toks := t1 } := I.kept kp
  generalize (ks.map fun x => x.2.1) = bs at *
  rw [ea]
  have l3 : (bs.map Value.ref).length ≤ sizeLine := by rw [List.length_map, sizeLine_eq]; omega
  refine wpAny_bind (wpAny_newList ?_ l3)
  have hL : (h1.push (seqObj "list" (bs.map Value.ref).toArray 0)).get? h1.objs.size = some (seqObj "list" (bs.map Value.ref).toArray 0) := Heap.get?_push_size _ rfl
  have I2 : Inv X pins σ H { s with heap := h1.push (seqObj "list" (bs.map Value.ref).toArray 0), toks := t1 } := I1.kept (t' := t1) fun b u e => Heap.get?_push_of_some _ e
  obtain ⟨⟨fs, tf⟩, kk⟩ := pairs_here I2.hok tups
  show wpAny _ _ _ _ _ { s with heap := h1.push (seqObj "list" (bs.map Value.ref).toArray 0), toks := t1 }
  refine wpAny_bind (wpAny_holding (wpAny_call_entry slot_list_sort ⟨_, hL, rfl⟩ entry_list_sort (PyProof.Rows.G.list_sort_tups (s := { s with heap := h1.push (seqObj "list" (bs.map Value.ref).toArray 0), toks := t1 }) hL tf kk l3 fun st' pm so _ => ⟨_, rfl, ?_⟩) (args_list_sort _)))
  have pl := Array.perm_iff_toList_perm.mp pm
  rw [pairsOf_toList] at pl
  have each : ∀ p ∈ (arrOf st').toList, p.1 = Value.ref (adr p.2) ∧ p.2 = Value.ref (adr p.2) ∧ adr p.2 ∈ bs := fun p hp => by
    obtain ⟨a1, a2⟩ := mem_zip_self (pl.mem_iff.mp hp)
    obtain ⟨y, hy, ey⟩ := List.mem_map.mp a2
    rw [← a1, ← ey]
    exact ⟨rfl, rfl, hy⟩
  have outs : ((arrOf st').map (·.2)).toList = ((arrOf st').toList.map fun p => adr p.2).map Value.ref := by
    rw [Array.toList_map, List.map_map]
    exact List.map_congr_left fun p hp => (each p hp).2.1
  have perm : ((arrOf st').toList.map fun p => adr p.2).Perm bs := by
    have g := pl.map fun p => adr p.2
    have e : (((bs.map Value.ref).zip (bs.map Value.ref)).map fun p => adr p.2) = bs := by
      have : ∀ l : List Addr, (((l.map Value.ref).zip (l.map Value.ref)).map fun p => adr p.2) = l := fun l => by
        induction l with
        | nil => rfl
        | cons y l ih => simp only [List.map_cons, List.zip_cons_cons, ih]; rfl
      exact this bs
    rwa [e] at g
  have n1 : (pairsOf (bs.map Value.ref)).size = bs.length := by rw [pairsOf_size, List.length_map]
  have n2 : (arrOf st').size = bs.length := by rw [pm.size_eq, n1]
  have sorted : ((arrOf st').toList.map fun p => adr p.2).Pairwise (TupLe H) := by
    rw [List.pairwise_iff_getElem]
    intro i j hi hj ij b t b' t' e e'
    rw [List.length_map, Array.length_toList] at hi hj
    rw [List.getElem_map] at e e'
    have oi := each _ (List.getElem_mem (show i < (arrOf st').toList.length by rw [Array.length_toList]; exact hi))
    have oj := each _ (List.getElem_mem (show j < (arrOf st').toList.length by rw [Array.length_toList]; exact hj))
    have ki := (pair_here I2.hok e).1
    have kj := (pair_here I2.hok e').1
    have k := so i j (Nat.le_of_lt ij) (by rw [n1]; omega)
    unfold PyProof.Rows.KK at k
    rw [Array.getElem?_eq_getElem hi, Array.getElem?_eq_getElem hj] at k
    have ki2 : PyProof.Rows.G.tupKeyC (h1.push (seqObj "list" (bs.map Value.ref).toArray 0)) pairSh (arrOf st')[i].1 = some [.inl b, .inr t.cps.toList] := by
      have q := oi.1
      rw [Array.getElem_toList] at q
      rw [q]
      rw [Array.getElem_toList] at ki
      exact ki
    have kj2 : PyProof.Rows.G.tupKeyC (h1.push (seqObj "list" (bs.map Value.ref).toArray 0)) pairSh (arrOf st')[j].1 = some [.inl b', .inr t'.cps.toList] := by
      have q := oj.1
      rw [Array.getElem_toList] at q
      rw [q]
      rw [Array.getElem_toList] at kj
      exact kj
    simp only [ki2, kj2] at k
    exact k
  obtain ⟨n, hn'⟩ := sortedHeap_at (vs := bs.map Value.ref) (out := (arrOf st').map (·.2)) hL
  refine wpAny_pure ⟨_, rfl, .ref h1.objs.size, upd H h1.objs.size (.lst (((arrOf st').toList.map fun p => adr p.2).map V.ref)), I1.laid (t' := t1) (fun b u e => ?_) (Nat.le_refl _) ?_, rfl, q bs _ _ kb perm sorted (I1.hok.fresh (Nat.le_refl _))⟩
  · have hb : b < h1.objs.size := Heap.lt_size e
    exact (sortedHeap_old (Nat.ne_of_lt hb) (by rw [size_push']; exact Nat.lt_succ_of_lt hb)).trans (Heap.get?_push_of_some _ e)
  · have vr : Vals (((arrOf st').toList.map fun p => adr p.2).map V.ref) ((arrOf st').map (·.2)).toList := by rw [outs]; exact vals_refs _
    have vl : (((arrOf st').toList.map fun p => adr p.2).map V.ref).length ≤ sizeLine := by
      rw [List.length_map, List.length_map, Array.length_toList, n2, sizeLine_eq]
      have : bs.length = kvs.length := by rw [bl, l2]
      omega
    have new : ObjOk X.prog X.w (upd H h1.objs.size (.lst (((arrOf st').toList.map fun p => adr p.2).map V.ref))) (sortedHeap (h1.push (seqObj "list" (bs.map Value.ref).toArray 0)) h1.objs.size (bs.map Value.ref) ((arrOf st').map (·.2))) h1.objs.size (.lst (((arrOf st').toList.map fun p => adr p.2).map V.ref)) :=
      ⟨vl, _, n, vr, by rw [Array.toArray_toList]; exact hn'⟩
    exact new
end
end Gk
/-! dict(list of pairs), the keys tuples. -/
namespace Gk
open PySem PySem.Spec PyProof.Rows L2
abbrev EntT := List L2.Key × Addr × V
/-- what such a dict keeps -/
def mergeT (acc : List (List L2.Key × V)) (es : List EntT) : List (List L2.Key × V) := es.foldl (fun a e => putK a e.1 e.2.2) acc
theorem mergeT_len : ∀ (es : List EntT) (acc : List (List L2.Key × V)), (mergeT acc es).length ≤ acc.length + es.length
  | [], _ => Nat.le_refl _
  | e :: es, acc => by
    have h1 := mergeT_len es (putK acc e.1 e.2.2)
    have h2 := length_putK acc e.1 e.2.2
    show (mergeT (putK acc e.1 e.2.2) es).length ≤ _
    rw [List.length_cons]
    omega
/-- the last entry of a key counts -/
theorem mergeT_val : ∀ (es : List EntT) (acc : List (List L2.Key × V)) (k : List L2.Key), valV (mergeT acc es) k = es.foldl (fun o e => if k = e.1 then some e.2.2 else o) (valV acc k)
  | [], _, _ => rfl
  | e :: es, acc, k => by
    show valV (mergeT (putK acc e.1 e.2.2) es) k = _
    rw [mergeT_val es, List.foldl_cons, valV_put]
section
variable {X : Cx} {pins : List (Addr × Obj)} {σ : L2.St} {H : Hp} {s : Shared}
abbrev EntV (H : Hp) : List EntT → List (List L2.Key × Addr × Value) → Prop := Paired fun e q => e.1 = q.1 ∧ e.2.1 = q.2.1 ∧ H q.2.1 = some (.tup (q.1.map kV)) ∧ RelV e.2.2 q.2.2
theorem merged_kt : ∀ {es : List EntT} {qs : List (List L2.Key × Addr × Value)}, EntV H es qs → ∀ {acc xs}, KT H acc xs → KT H (mergeT acc es) (PySem.storedAllH xs qs)
  | _, _, .nil, _, _, r => r
  | _, _, .cons (a := e) (b := q) h t, acc, xs, r => by
    obtain ⟨h1, h2, h3, h4⟩ := h
    have := r.put (b := q.2.1) q.1 h3 h4
    rw [← h1] at this
    have g := merged_kt t this
    rw [h1] at g
    show KT H (mergeT (putK acc e.1 e.2.2) _) _
    rw [h1]
    exact g
theorem ents_of (I : Inv X pins σ H s) : ∀ {ps : List Addr} {es : List EntT}, Paired (fun p e => SqT X.K H p [.ref e.2.1, e.2.2] ∧ H e.2.1 = some (.tup (e.1.map kV))) ps es →
    ∃ qs, EntV H es qs ∧ qs.length = ps.length ∧ ∀ (j : Nat) (q : List L2.Key × Addr × Value), qs[j]? = some q → ∃ p, ps[j]? = some p ∧ s.heap.IsTuple p #[.ref q.2.1, q.2.2]
  | _, _, .nil => ⟨[], .nil, rfl, fun j q e => by simp at e⟩
  | _, _, .cons (a := p) (b := e) h t => by
    obtain ⟨qs, r, hl, hp⟩ := ents_of I t
    obtain ⟨h1, h2⟩ := h
    obtain ⟨its, rv, ht, _⟩ := I.tuple h1
    obtain ⟨u, y, ei, ru, ry⟩ := vals2 rv
    subst ei
    cases ru
    refine ⟨(e.1, e.2.1, y) :: qs, .cons ⟨rfl, rfl, h2, ry⟩ r, by rw [List.length_cons, List.length_cons, hl], fun j q g => ?_⟩
    cases j with
    | zero =>
      obtain rfl := Option.some.inj g
      exact ⟨p, rfl, ht⟩
    | succ j =>
      obtain ⟨p2, e1, e2⟩ := hp j q (by simpa using g)
      exact ⟨p2, by simpa using e1, e2⟩
end
section
variable {X : Cx}
/-- dict(l), l a list of pairs whose first items are such tuples -/
def rDictT (K : PySem.W.Frag) : List V → Hp → VK → Prop := fun xs H Q => ∃ (a : Addr) (ps : List Addr) (es : List EntT), xs = [.ref a] ∧ SqL K H a (ps.map V.ref) ∧ Paired (fun p e => SqT K H p [.ref e.2.1, e.2.2] ∧ H e.2.1 = some (.tup (e.1.map kV))) ps es ∧ es.length ≤ 1000 ∧
  ∀ p, H p = none → Q (.ref p) (upd H p (.dT (mergeT [] es)))
theorem cr_dictT (hc : X.calm = true) (hu : X.A.units + 2 < cLine) : CallR X (.type "dict") (rDictT X.K) := by
  intro pins s σ H xs us Q I r q
  obtain ⟨a, ps, es, rfl, hq, hp, few, q⟩ := q
  obtain ⟨u, rfl, rx⟩ := vals1 r
  cases rx
  obtain ⟨its, rv, pl, hz⟩ := I.list hq
  obtain rfl := refs_at rv
  obtain ⟨qs, ev, ql, qp⟩ := ents_of I hp
  have el : es.length = ps.length := by rw [Paired.length ev, ql]
  have szp : (qs.map fun q => (Value.ref q.2.1, q.2.2)).length = qs.length := List.length_map ..
  have keys : ∀ {es : List EntT} {qs : List (List L2.Key × Addr × Value)}, EntV H es qs → ∀ x ∈ qs, H x.2.1 = some (.tup (x.1.map kV)) := by
    intro es qs e
    induction e with
    | nil => intro x hx; exact nomatch hx
    | cons h _ ih =>
      intro x hx
      rcases List.mem_cons.mp hx with rfl | hx
      · exact h.2.2.1
      · exact ih x hx
  refine PySem.call_dict_pairsH (knd := tupleKind (mixKind X.prog X.w)) (ps := qs) (PySem.PairArg.list a (ps.map Value.ref).toArray (fun j => ps.getD j 0) (qs.map fun q => (Value.ref q.2.1, q.2.2))) (I.ok.hd hc) (tupleKind_room_in1 hu) ⟨pl, ?_, ?_⟩ ⟨szp.symm, ?_⟩ ?_ ?_ ?_
  · rw [szp, ql]
    simp
  · intro j k v e
    rw [List.getElem?_map] at e
    cases g : qs[j]? with
    | none => rw [g] at e; cases e
    | some x =>
      rw [g] at e
      obtain ⟨p, e1, e2⟩ := qp j x g
      obtain rfl : k = .ref x.2.1 := (congrArg Prod.fst (Option.some.inj e)).symm
      obtain rfl : v = x.2.2 := (congrArg Prod.snd (Option.some.inj e)).symm
      refine ⟨?_, .inl ?_⟩
      · have g0 : ps.getD j 0 = p := by rw [List.getD_eq_getElem?_getD, e1]; rfl
        show ((ps.map Value.ref).toArray)[j]? = some (.ref (ps.getD j 0))
        rw [List.getElem?_toArray, List.getElem?_map, e1, g0]
        rfl
      · have g0 : ps.getD j 0 = p := by rw [List.getD_eq_getElem?_getD, e1]; rfl
        show s.heap.IsTuple (ps.getD j 0) _
        rw [g0]
        exact e2
  · intro j k v e
    have e : (qs.map fun q => (Value.ref q.2.1, q.2.2))[j]? = some (k, v) := e
    rw [List.getElem?_map] at e
    cases g : qs[j]? with
    | none => rw [g] at e; cases e
    | some x =>
      rw [g] at e
      obtain rfl : k = .ref x.2.1 := (congrArg Prod.fst (Option.some.inj e)).symm
      obtain rfl : v = x.2.2 := (congrArg Prod.snd (Option.some.inj e)).symm
      exact ⟨x.1, x.2.1, rfl, rfl⟩
  · intro h' hk x hx
    obtain ⟨o, its, n, h1, h2⟩ := key_of I.hok (keys ev x hx)
    exact ⟨o, its, n, hk _ _ (Nat.ne_of_lt (Heap.lt_size h1)) (fun z => nomatch z) h1, h2⟩
  · rw [szp, ql, ← el, sizeLine_eq]
    omega
  · intro h' tk hd' k
    have hm : (s.heap.objs.size == sysModules) = false := beq_eq_false_iff_ne.mpr (Nat.ne_of_gt I.big)
    have hlen : (mergeT [] es).length ≤ sizeLine := by
      have := mergeT_len es []
      rw [sizeLine_eq]
      simp at this
      omega
    have hn := I.hok.fresh (Nat.le_refl s.heap.objs.size)
    have kt : KT H (mergeT [] es) (PySem.storedAllH [] qs) := merged_kt ev .nil
    obtain ⟨o, en, ep, h1, h2, h3, h4, _, h5⟩ := hd'
    refine ⟨.ref s.heap.objs.size, upd H s.heap.objs.size (.dT (mergeT [] es)), I.laid (t' := tk) (fun b o e => k b o (fun z => nomatch z) e) (Nat.le_refl _) ?_, rfl, q _ hn⟩
    exact ⟨hlen, hm, _, kt.keeps fun b ys e => by rw [upd_ne (ne_of_none e hn)]; exact e, o, en, ep, h1, h2, h3, h4, h5⟩
end
end Gk
/-! Dicts whose keys are None or whole numbers. -/
namespace Gk
open PySem PySem.Spec PyProof.Rows L2
def ownIs : Option Int → Value → Bool
  | none, v => v == .none
  | some i, v => keyIs (.inl i) v
def oKey : Option Int → V
  | none => .non
  | some i => .int i
def ownH (w : World) : Option Int → Int
  | none => reduceHash 0xFCA86420
  | some i => hashInt i
theorem ownIs_shape : ∀ {k : Option Int} {v : Value}, ownIs k v = true → (k = none ∧ v = .none) ∨ ∃ i t, k = some i ∧ v = Value.int i t
  | none, v, h => .inl ⟨rfl, by cases v <;> first | rfl | exact absurd h Bool.false_ne_true⟩
  | some i, v, h => by
    rcases keyIs_shape (k := .inl i) h with ⟨j, t, e, rfl⟩ | ⟨x, t, e, _⟩
    · obtain rfl := Sum.inl.inj e
      exact .inr ⟨i, t, rfl, rfl⟩
    · cases e
theorem hash_none {prog : Program} {w : World} {A : Around} {E : Value → Shared → Prop} {s : Shared} {Q : Int → Shared → Prop} (h : Q (reduceHash 0xFCA86420) { s with toks := s.toks + 1 }) : wpAny (model prog w) A (PySem.pyHash .none) Q E s :=
  PySem.W.pyHash_slot (T := "NoneType") rfl PySem.F.slot_NoneType_hash PySem.F.entry_NoneType_hash (PySem.F.args_NoneType_hash_1 _) (by rfl) (.inl rfl) (wpAny_bind (wpAny_pure (wpAny_bind (wpAny_mkInt (wpAny_pure ⟨_, _, rfl, h⟩)))))
def ownKind (prog : Program) (w : World) : PySem.KeyKind prog w (Option Int) where
  is := ownIs
  hash := ownH w
  inj := fun v a b ha hb => by
    rcases ownIs_shape ha with ⟨rfl, rfl⟩ | ⟨i, t, rfl, rfl⟩
    · rcases ownIs_shape hb with ⟨rfl, _⟩ | ⟨i, t, rfl, e⟩
      · rfl
      · cases e
    · rcases ownIs_shape hb with ⟨rfl, e⟩ | ⟨j, u, rfl, e⟩
      · cases e
      · injection e with e1 _
        rw [e1]
  byValue := fun k v h => by
    rcases ownIs_shape h with ⟨rfl, rfl⟩ | ⟨i, t, rfl, rfl⟩ <;> rfl
  pyHash := fun hv h => by
    rcases ownIs_shape hv with ⟨rfl, rfl⟩ | ⟨i, t, rfl, rfl⟩
    · exact hash_none h
    · exact wpAny_pyHash_int h
  eqBool := fun hu hv h => by
    rcases ownIs_shape hu with ⟨rfl, rfl⟩ | ⟨i, t, rfl, rfl⟩
    · rcases ownIs_shape hv with ⟨rfl, rfl⟩ | ⟨j, u, rfl, rfl⟩
      · exact SeqAt.EqAt.same _ _ _ _ _ (by simpa using h)
      · exact SeqAt.EqAt.none_int j u _ _ _ _ (by simpa using h)
    · rcases ownIs_shape hv with ⟨rfl, rfl⟩ | ⟨j, u, rfl, rfl⟩
      · exact SeqAt.EqAt.int_none i t _ _ _ _ (by simpa using h)
      · refine wpAny_eqBool_int ?_
        have e : (i == j) = decide (some i = some j) := by
          rw [Bool.eq_iff_iff]
          simp
        rw [e]
        exact h
  «strs» := fun k x t v h => by
    rcases ownIs_shape h with ⟨rfl, e⟩ | ⟨i, u, rfl, e⟩ <;> cases e
end Gk
namespace Gk
open PySem PySem.Spec PyProof.Rows L2
/-- a dict whose keys are None or whole numbers -/
def dN (P : Program) (w : World) (a : Addr) (kvs : List (Option Int × V)) : HO := .ext fun h => kvs.length ≤ sizeLine ∧ (a == sysModules) = false ∧ ∃ vs, KV kvs vs ∧ h.DictOf (ownKind P w) a vs
section
variable {P : Program} {w : World} {H : Hp} {h : Heap} {a : Addr} {kvs : List (Option Int × V)}
theorem dn_ok {vs : List (Option Int × Value)} (z : kvs.length ≤ sizeLine) (hd : (a == sysModules) = false) (rel : KV kvs vs) (dd : h.DictOf (ownKind P w) a vs) : ObjOk P w H h a (dN P w a kvs) := by
  refine ⟨⟨z, hd, vs, rel, dd⟩, ?_, ?_⟩
  · obtain ⟨o, _, _, e, _⟩ := dd
    exact ⟨o, e⟩
  · rintro h1 h2 ⟨z1, hd1, vs1, rel1, o, es, ep, e, r⟩ k
    exact ⟨z1, hd1, vs1, rel1, o, es, ep, k _ e, r⟩
theorem dn_at (ok : HOk P w H h) (e : H a = some (dN P w a kvs)) : kvs.length ≤ sizeLine ∧ (a == sysModules) = false ∧ ∃ vs, KV kvs vs ∧ h.DictOf (ownKind P w) a vs := by
  obtain ⟨x, _, _⟩ := (show ObjOk P w H h a (dN P w a kvs) from ok a _ e)
  exact x
theorem oKey_is {k : Option Int} {u : Value} (r : RelV (oKey k) u) : (ownKind P w).is k u = true := by
  cases k with
  | none => cases r; rfl
  | some i => obtain ⟨t, rfl⟩ := r; exact keyIs_int i t
end
section
variable {X : Cx} {pins : List (Addr × Obj)} {σ : L2.St} {H : Hp} {s : Shared} {a : Addr} {kvs : List (Option Int × V)} {k : Option Int} {d y v : V} {u r : Value} {A : Around} {E : Value → Shared → Prop}
theorem n_get2 {Q : Value → Shared → Prop} (I : Inv X pins σ H s) (e : H a = some (dN X.prog X.w a kvs)) (ry : RelV (oKey k) u) (rd : RelV d r) (h : ∀ w' s', Inv X pins σ H s' → RelV ((valV kvs k).getD d) w' → Q w' s') :
    wpAny (model X.prog X.w) A (call (.builtin "dict.get") [.ref a, u, r]) Q E s := by
  obtain ⟨z, hd, vs, rel, dd⟩ := dn_at I.hok e
  exact call_meetsIn PySem.F.slot_dict_get dd.typeIs PySem.F.entry_dict_get (PySem.F.args_dict_get_3 _ _ _) (meets_dict_get_default (ownKind X.prog X.w) a (oKey_is ry) hd r) ⟨_, dd.mapOf, h _ _ (I.tok _) ((rel.val k).getD rd)⟩
theorem n_set {Q : Unit → Shared → Prop} (I : Inv X pins σ H s) (e : H a = some (dN X.prog X.w a kvs)) (hl : kvs.length < sizeLine) (ry : RelV (oKey k) u) (rv : RelV v r) (h : ∀ s', Inv X pins σ (upd H a (dN X.prog X.w a (putK kvs k v))) s' → Q () s') :
    wpAny (model X.prog X.w) A (setItem (.ref a) u r) Q E s := by
  obtain ⟨z, hd, vs, rel, dd⟩ := dn_at I.hok e
  have hz : vs.length ≤ sizeLine := by rw [← rel.length]; exact z
  have hl : (putK kvs k v).length ≤ sizeLine := by have := length_putK kvs k v; omega
  refine wpAny_setItem_pairs (hsz := hz) (oKey_is ry) dd fun h' dd' hs => h _ ?_
  have he : ∃ q, h'.get? a = some q := let ⟨q, _, _, hq, _⟩ := dd'; ⟨q, hq⟩
  exact d_write I (by rw [e]; exact True.intro) hs he (dn_ok hl hd (rel.put k rv) dd')
end
section
variable {X : Cx} {o e f : Expr} {apos cpos pos : Pos} {td ty tx : TE}
/-- d.get(y, x) -/
def tNGet (P : Program) (w : World) (td ty tx : TE) : TE := fun σ H Q => td σ H fun x H1 => ∃ a, x = .ref a ∧ (∃ kvs, H1 a = some (dN P w a kvs)) ∧ ty σ H1 fun y H2 => tx σ H2 fun z H3 => ∃ kvs k, H3 a = some (dN P w a kvs) ∧ y = oKey k ∧ Q ((valV kvs k).getD z) H3
theorem pe_nget (ho : PE X o td) (he : PE X e ty) (hf : PE X f tx) (m : M2 X o "get" apos e f cpos) : PE X (.Call (.Attribute o "get" apos) [e, f] [] cpos) (tNGet X.prog X.w td ty tx) := by
  refine ⟨fun pins s σ H Q I h => ?_⟩
  refine wpAny_Call_method m.base m.few m.line PySem.F.plainAttrs_dict PySem.F.slot_dict_get PySem.F.type_dict_get (thn (ho.run pins s σ H _ I h) fun u s1 ⟨x, H1, I1, rx, a, ex, ⟨kv1, d1⟩, q1⟩ => ?_)
  subst ex
  obtain rfl : u = Value.ref a := rx
  obtain ⟨z, hd, vs, rel, dd⟩ := dn_at I1.hok d1
  refine ⟨dd.typeIs, fun b q => ?_, ?_⟩
  · cases q
    obtain ⟨ob, _, _, h1, h2, _⟩ := dd
    exact ⟨ob, h1, h2.2.1⟩
  rw [m.trees]
  refine Calls.callWith_builtin rfl (Calls.evalArgs_plain (Calls.spliced_cons (thn (he.run pins s1 σ H1 _ I1 q1) fun iv s2 ⟨y, H2, I2, ry, q2⟩ =>
    Calls.spliced_cons (thn (hf.run pins s2 σ H2 _ I2 q2) fun fv s3 ⟨z, H3, I3, rz, kvs, k, e3, ey, q3⟩ => Calls.spliced_nil ?_))))
  subst ey
  exact n_get2 I3 e3 ry rz fun w' s4 I4 rw' => ⟨_, H3, I4, rw', q3⟩
end
end Gk
namespace Gk
open PySem PySem.Spec PyProof.Rows L2
section
variable {X : Cx} {o e f : Expr} {apos cpos pos : Pos} {td ty tx : TE}
/-- {}, to be such a dict -/
def tNNew (P : Program) (w : World) : TE := fun _ H Q => ∀ p, H p = none → Q (.ref p) (upd H p (dN P w p []))
theorem pe_dnewN (P : Program) (w : World) (h1 : X.prog = P := by rfl) (h2 : X.w = w := by rfl) : PE X (.Dict [] [] pos) (tNNew P w) := by
  subst h1 h2
  exact ⟨fun pins s σ H Q I h => wpAny_Dict_empty ⟨.ref s.heap.objs.size, _, I.laid (a := s.heap.objs.size) (o := dN X.prog X.w s.heap.objs.size []) (t' := s.toks) (fun _ _ q => Heap.get?_push_of_some _ q) (Nat.le_refl _)
    (dn_ok (Nat.zero_le _) (not_modules I) .nil (Heap.DictOf.new s.heap)), rfl, h _ (I.hok.fresh (Nat.le_refl _))⟩⟩
theorem pe_ngetP (P : Program) (w : World) (ho : PE X o td) (he : PE X e ty) (hf : PE X f tx) (m : M2 X o "get" apos e f cpos) (h1 : X.prog = P := by rfl) (h2 : X.w = w := by rfl) : PE X (.Call (.Attribute o "get" apos) [e, f] [] cpos) (tNGet P w td ty tx) := by
  subst h1 h2
  exact pe_nget ho he hf m
/-- d[k] = v -/
def rSetN (P : Program) (w : World) : TSet := fun o i v H Q => ∃ a kvs k, o = .ref a ∧ i = oKey k ∧ H a = some (dN P w a kvs) ∧ kvs.length < sizeLine ∧ Q (upd H a (dN P w a (putK kvs k v)))
theorem set_dN (P : Program) (w : World) (h1 : X.prog = P := by rfl) (h2 : X.w = w := by rfl) : PSet X (rSetN P w) := by
  subst h1 h2
  intro pins s σ H o i v ov iv u Q I ro ri rv h
  obtain ⟨a, kvs, k, rfl, rfl, e, hl, q⟩ := h
  cases (show ov = Value.ref a from ro)
  exact n_set I e hl ri rv fun s' I' => ⟨_, I', q⟩
/-- {}, to be a dict of cells: of whole numbers or texts, or of tuples of those -/
theorem pe_dnewC : PE X (.Dict [] [] pos) (fun σ H Q => tDNewK σ H Q ∨ tDNewT σ H Q) := pe_either pe_dnewK pe_dnewT
end
end Gk
namespace Pf
open PySem PySem.Spec PyProof.Rows L2 Gk Fold
/-! ### groups: the positions of each cell -/
def posL (l : List (Int × Int)) (k : Str) (x : Option Int) (L : Nat) (c : CK) (i : Nat) : List Nat := (List.range i).filter fun j => decide (sK l k x L j = c)
theorem posL_succ (l : List (Int × Int)) (k : Str) (x : Option Int) (L : Nat) (c : CK) (i : Nat) : posL l k x L c (i + 1) = posL l k x L c i ++ if sK l k x L i = c then [i] else [] := by
  unfold posL
  rw [List.range_succ, List.filter_append]
  by_cases e : sK l k x L i = c
  · simp [e]
  · simp [e]
theorem posL_mem {l : List (Int × Int)} {k : Str} {x : Option Int} {L : Nat} {c : CK} {i j : Nat} : j ∈ posL l k x L c i ↔ j < i ∧ sK l k x L j = c := by
  unfold posL
  rw [List.mem_filter, List.mem_range, decide_eq_true_eq]
theorem posL_len (l : List (Int × Int)) (k : Str) (x : Option Int) (L : Nat) (c : CK) (i : Nat) : (posL l k x L c i).length ≤ i := by
  have := List.length_filter_le (fun j => decide (sK l k x L j = c)) (List.range i)
  rwa [List.length_range] at this
/-- a value that is the key -/
def KeyV (H : Hp) (v : V) : CK → Prop
  | .inl q => v = kV q
  | .inr q => ∃ p, v = .ref p ∧ H p = some (.tup (q.map kV))
theorem KeyV.same {H H' : Hp} {v : V} {c : CK} (h : KeyV H v c) (s : ∀ b ts, H b = some (.tup ts) → H' b = some (.tup ts)) : KeyV H' v c := by
  cases c with
  | inl q => exact h
  | inr q => obtain ⟨p, e, hp⟩ := h; exact ⟨p, e, s _ _ hp⟩
theorem keyV_ck {K : PySem.W.Frag} {H : Hp} {v : V} {k : Str} {x : Option Int} {b : Nat} {h : List Bool} (kv : KeyV H v (cK k x b h)) : Ck K H v (cellD k x b h) := by
  unfold cK at kv
  unfold cellD
  by_cases c1 : k = "folded"
  · rw [if_pos c1] at kv ⊢
    cases (show v = .int _ from kv)
    exact Ck.int _
  · rw [if_neg c1] at kv ⊢
    by_cases c2 : k = "shared"
    · rw [if_pos c2] at kv ⊢
      cases (show v = .str _ from kv)
      exact Ck.str _
    · rw [if_neg c2] at kv ⊢
      obtain ⟨p, rfl, hp⟩ := kv
      exact Ck.tup hp
theorem ck_keyV {K : PySem.W.Frag} {H : Hp} {v : V} {k : Str} {x : Option Int} {b : Nat} {h : List Bool} (c : Ck K H v (cellD k x b h)) : KeyV H v (cK k x b h) := by
  cases t : tupK k with
  | false => obtain ⟨q, e, rfl⟩ := cK_inl c t; rw [e]; rfl
  | true => obtain ⟨q, p, e, rfl, hp⟩ := cK_inr c t; rw [e]; exact ⟨p, rfl, hp⟩
/-- a dict that keeps f of the cells, its keys in their order -/
def DK (H : Hp) (a : Addr) (k : Str) (f : CK → Option V) (ks : List CK) : Prop :=
  (tupK k = false ∧ ∃ kvs, H a = some (.dK kvs) ∧ kvs.map (fun e => (Sum.inl e.1 : CK)) = ks ∧ ∀ q, valV kvs q = f (.inl q)) ∨ (tupK k = true ∧ ∃ kvs, H a = some (.dT kvs) ∧ kvs.map (fun e => (Sum.inr e.1 : CK)) = ks ∧ ∀ q, valV kvs q = f (.inr q))
theorem DK.same {H H' : Hp} {a : Addr} {k : Str} {f : CK → Option V} {ks : List CK} (d : DK H a k f ks) (e : ∀ o, H a = some o → H' a = some o) : DK H' a k f ks := by
  rcases d with ⟨t, kvs, h, r⟩ | ⟨t, kvs, h, r⟩
  · exact .inl ⟨t, kvs, e _ h, r⟩
  · exact .inr ⟨t, kvs, e _ h, r⟩
theorem DK.there {H : Hp} {a : Addr} {k : Str} {f : CK → Option V} {ks : List CK} (d : DK H a k f ks) : ∃ o, H a = some o ∧ (∀ ts, o ≠ .tup ts) ∧ (∀ b u, o ≠ .frz b u) ∧ ∀ xs, o ≠ .lst xs := by
  rcases d with ⟨t, kvs, h, r⟩ | ⟨t, kvs, h, r⟩
  · exact ⟨_, h, (fun ts z => by cases z), (fun _ _ z => by cases z), fun xs z => by cases z⟩
  · exact ⟨_, h, (fun ts z => by cases z), (fun _ _ z => by cases z), fun xs z => by cases z⟩
theorem DK.ty {K : PySem.W.Frag} {H : Hp} {a : Addr} {k : Str} {f : CK → Option V} {ks : List CK} (d : DK H a k f ks) : tyV K "dict" (.ref a) H := by
  rcases d with ⟨t, kvs, h, r⟩ | ⟨t, kvs, h, r⟩
  · exact .inr (.inr (.inl ⟨rfl, .inl ⟨kvs, h⟩⟩))
  · exact .inr (.inr (.inl ⟨rfl, .inr ⟨kvs, h⟩⟩))
theorem DK.get {k : Str} {x : Option Int} {b : Nat} {h : List Bool} {H : Hp} {K : PySem.W.Frag} {v : V} {a : Addr} {f : CK → Option V} {ks : List CK} (d : DK H a k f ks) (c : Ck K H v (cellD k x b h)) : DGet H a v (f (cK k x b h)) := by
  rcases d with ⟨t, kvs, e, _, l⟩ | ⟨t, kvs, e, _, l⟩
  · obtain ⟨q, eq, rfl⟩ := cK_inl c t
    rw [eq]
    exact .inl ⟨kvs, q, .inl e, rfl, (l q).symm⟩
  · obtain ⟨q, p, eq, rfl, hp⟩ := cK_inr c t
    rw [eq]
    exact .inr ⟨kvs, q, p, .inl e, rfl, hp, (l q).symm⟩
theorem putK_new {κ : Type} [DecidableEq κ] {kvs : List (κ × V)} {q : κ} {y : V} (n : valV kvs q = none) : putK kvs q y = kvs ++ [(q, y)] := by
  unfold putK
  rw [valV_any, n]
  rfl
/-- d.setdefault(c, v) -/
theorem DK.setd {k : Str} {x : Option Int} {b : Nat} {h : List Bool} {H : Hp} {K : PySem.W.Frag} {v y : V} {a : Addr} {f : CK → Option V} {ks : List CK} {Q : VK} (d : DK H a k f ks) (c : Ck K H v (cellD k x b h)) (hn : ks.length < sizeLine)
    (old : ∀ w, f (cK k x b h) = some w → Q w H) (new : f (cK k x b h) = none → ∀ H', DK H' a k (fun q => if q = cK k x b h then some y else f q) (ks ++ [cK k x b h]) → (∀ z, z ≠ a → H' z = H z) → Q y H') : rSetdK (.ref a) [v, y] H Q ∨ rSetdT (.ref a) [v, y] H Q := by
  rcases d with ⟨t, kvs, e, ek, l⟩ | ⟨t, kvs, e, ek, l⟩
  · obtain ⟨q, eq, rfl⟩ := cK_inl c t
    rw [eq] at old new
    refine .inl ⟨a, kvs, q, y, rfl, rfl, e, by rw [← ek, List.length_map] at hn; exact hn, fun w hw => old w (by rw [← l]; exact hw), fun hw => new (by rw [← l]; exact hw) _ (.inl ⟨t, _, upd_same, ?_, fun r => ?_⟩) fun z hz => upd_ne hz⟩
    · rw [putK_new hw, List.map_append, ek]
      rfl
    · rw [valV_put, l]
      dsimp only
      by_cases er : r = q
      · rw [if_pos er, if_pos (by rw [er])]
      · rw [if_neg er, if_neg (fun z => er (Sum.inl.inj z))]
  · obtain ⟨q, p, eq, rfl, hp⟩ := cK_inr c t
    rw [eq] at old new
    refine .inr ⟨a, kvs, q, p, y, rfl, rfl, e, hp, by rw [← ek, List.length_map] at hn; exact hn, fun w hw => old w (by rw [← l]; exact hw), fun hw => new (by rw [← l]; exact hw) _ (.inr ⟨t, _, upd_same, ?_, fun r => ?_⟩) fun z hz => upd_ne hz⟩
    · rw [putK_new hw, List.map_append, ek]
      rfl
    · rw [valV_put, l]
      dsimp only
      by_cases er : r = q
      · rw [if_pos er, if_pos (by rw [er])]
      · rw [if_neg er, if_neg (fun z => er (Sum.inr.inj z))]
/-- a cell, as the kind of scheme makes it -/
def CellIs (k : Str) (c : CK) : Prop := ∃ (x : Option Int) (b : Nat) (h : List Bool), c = cK k x b h
/-- sorted(d), whatever the kind of scheme -/
def rSorted3a : List V → Hp → VK → Prop := fun xs H Q => (∃ (a : Addr) (kvs : List (L2.Key × V)) (ks : List Int), xs = [.ref a] ∧ Rd H a (.dK kvs) ∧ kvs.map (·.1) = ks.map Sum.inl ∧ ks.length < 64 ∧ ∀ (ys : List Int) (p : Addr), ys.Perm ks → ys.Pairwise (· ≤ ·) → H p = none → Q (.ref p) (upd H p (.lst (ys.map V.int)))) ∨
  ((∃ (a : Addr) (kvs : List (L2.Key × V)) (ks : List Str), xs = [.ref a] ∧ Rd H a (.dK kvs) ∧ kvs.map (·.1) = ks.map Sum.inr ∧ ks.length < 64 ∧ ∀ ys p, ys.Perm ks → sortedS ys = true → H p = none → Q (.ref p) (upd H p (.lst (ys.map V.str)))) ∨ rSortedDT xs H Q)
structure rSorted3 (xs : List V) (H : Hp) (Q : VK) : Prop where
  out : rSorted3a xs H Q
theorem cr_sorted3a {X : Cx} (hc : X.calm = true) : CallR X (.builtin "sorted") rSorted3a := CallR.either (call_sortedDI hc) (CallR.either (call_sortedD hc) (cr_sortedDT hc))
theorem cr_sorted3 {X : Cx} (hc : X.calm = true) : CallR X (.builtin "sorted") rSorted3 := fun pins s σ H xs us Q I r h => cr_sorted3a hc pins s σ H xs us Q I r h.out
theorem all_inl {ks : List L2.Key} (h : ∀ q ∈ ks, ∃ i : Int, q = .inl i) : ∃ is : List Int, ks = is.map Sum.inl := by
  induction ks with
  | nil => exact ⟨[], rfl⟩
  | cons q ks ih =>
    obtain ⟨i, rfl⟩ := h q List.mem_cons_self
    obtain ⟨is, rfl⟩ := ih fun y hy => h y (List.mem_cons_of_mem _ hy)
    exact ⟨i :: is, rfl⟩
theorem all_inr {ks : List L2.Key} (h : ∀ q ∈ ks, ∃ s : Str, q = .inr s) : ∃ ss : List Str, ks = ss.map Sum.inr := by
  induction ks with
  | nil => exact ⟨[], rfl⟩
  | cons q ks ih =>
    obtain ⟨i, rfl⟩ := h q List.mem_cons_self
    obtain ⟨is, rfl⟩ := ih fun y hy => h y (List.mem_cons_of_mem _ hy)
    exact ⟨i :: is, rfl⟩
theorem isKeys_both {H : Hp} {kvs : List (List L2.Key × V)} {bs : List Addr} (k : IsKeys H kvs bs) : (∀ y ∈ bs, ∃ e ∈ kvs, H y = some (.tup (e.1.map kV))) ∧ ∀ e ∈ kvs, ∃ y ∈ bs, H y = some (.tup (e.1.map kV)) := by
  unfold IsKeys at k
  induction k with
  | nil => exact ⟨fun y hy => (nomatch hy), fun y hy => (nomatch hy)⟩
  | @cons p y0 ps ys e _ ih =>
    refine ⟨fun y hy => ?_, fun q hq => ?_⟩
    · rcases List.mem_cons.mp hy with rfl | hy
      · exact ⟨p, List.mem_cons_self, e⟩
      · obtain ⟨q, hq, g⟩ := ih.1 y hy
        exact ⟨q, List.mem_cons_of_mem _ hq, g⟩
    · rcases List.mem_cons.mp hq with rfl | hq
      · exact ⟨y0, List.mem_cons_self, e⟩
      · obtain ⟨y, hy, g⟩ := ih.2 q hq
        exact ⟨y, List.mem_cons_of_mem _ hy, g⟩
theorem DK.sorted {H : Hp} {a : Addr} {k : Str} {f : CK → Option V} {ks : List CK} {Q : VK} (d : DK H a k f ks) (cells : ∀ c ∈ ks, CellIs k c) (few : ks.length < 64)
    (q : ∀ (vs : List V) (p : Addr), vs.length = ks.length → (∀ v ∈ vs, ∃ c ∈ ks, KeyV H v c) → (∀ c ∈ ks, ∃ v ∈ vs, KeyV H v c) → H p = none → Q (.ref p) (upd H p (.lst vs))) : rSorted3 [.ref a] H Q := by
  constructor
  rcases d with ⟨t, kvs, e, rfl, l⟩ | ⟨t, kvs, e, rfl, l⟩
  · rw [List.length_map] at few
    by_cases c1 : k = "folded"
    · obtain ⟨is, ei⟩ : ∃ is : List Int, kvs.map (·.1) = is.map Sum.inl := all_inl fun w hw => by
        obtain ⟨g, hg, rfl⟩ := List.mem_map.mp hw
        obtain ⟨x, b, h, ec⟩ := cells (Sum.inl g.1) (List.mem_map.mpr ⟨g, hg, rfl⟩)
        unfold cK at ec
        rw [if_pos c1] at ec
        exact ⟨_, Sum.inl.inj ec⟩
      have il : is.length = kvs.length := by
        have := congrArg List.length ei
        rw [List.length_map, List.length_map] at this
        exact this.symm
      refine .inl ⟨a, kvs, is, rfl, .inl e, ei, by omega, fun ys p pm _ np => q (ys.map V.int) p ?_ ?_ ?_ np⟩
      · rw [List.length_map, List.length_map, pm.length_eq, il]
      · intro v hv
        obtain ⟨i, hi, rfl⟩ := List.mem_map.mp hv
        have : (Sum.inl i : L2.Key) ∈ kvs.map (·.1) := by rw [ei]; exact List.mem_map.mpr ⟨i, pm.mem_iff.mp hi, rfl⟩
        obtain ⟨g, hg, eg⟩ := List.mem_map.mp this
        exact ⟨Sum.inl g.1, List.mem_map.mpr ⟨g, hg, rfl⟩, by rw [eg]; rfl⟩
      · intro c hc
        obtain ⟨g, hg, rfl⟩ := List.mem_map.mp hc
        have : g.1 ∈ is.map (Sum.inl : Int → L2.Key) := by rw [← ei]; exact List.mem_map.mpr ⟨g, hg, rfl⟩
        obtain ⟨i, hi, eg⟩ := List.mem_map.mp this
        exact ⟨.int i, List.mem_map.mpr ⟨i, pm.mem_iff.mpr hi, rfl⟩, by rw [← eg]; rfl⟩
    · have c2 : k = "shared" := by
        unfold tupK at t
        rw [Bool.not_eq_false', Bool.or_eq_true, decide_eq_true_eq, decide_eq_true_eq] at t
        exact t.resolve_left c1
      obtain ⟨is, ei⟩ : ∃ is : List Str, kvs.map (·.1) = is.map Sum.inr := all_inr fun w hw => by
        obtain ⟨g, hg, rfl⟩ := List.mem_map.mp hw
        obtain ⟨x, b, h, ec⟩ := cells (Sum.inl g.1) (List.mem_map.mpr ⟨g, hg, rfl⟩)
        unfold cK at ec
        rw [if_neg c1, if_pos c2] at ec
        exact ⟨_, Sum.inl.inj ec⟩
      have il : is.length = kvs.length := by
        have := congrArg List.length ei
        rw [List.length_map, List.length_map] at this
        exact this.symm
      refine .inr (.inl ⟨a, kvs, is, rfl, .inl e, ei, by omega, fun ys p pm _ np => q (ys.map V.str) p ?_ ?_ ?_ np⟩)
      · rw [List.length_map, List.length_map, pm.length_eq, il]
      · intro v hv
        obtain ⟨i, hi, rfl⟩ := List.mem_map.mp hv
        have : (Sum.inr i : L2.Key) ∈ kvs.map (·.1) := by rw [ei]; exact List.mem_map.mpr ⟨i, pm.mem_iff.mp hi, rfl⟩
        obtain ⟨g, hg, eg⟩ := List.mem_map.mp this
        exact ⟨Sum.inl g.1, List.mem_map.mpr ⟨g, hg, rfl⟩, by rw [eg]; rfl⟩
      · intro c hc
        obtain ⟨g, hg, rfl⟩ := List.mem_map.mp hc
        have : g.1 ∈ is.map (Sum.inr : Str → L2.Key) := by rw [← ei]; exact List.mem_map.mpr ⟨g, hg, rfl⟩
        obtain ⟨i, hi, eg⟩ := List.mem_map.mp this
        exact ⟨.str i, List.mem_map.mpr ⟨i, pm.mem_iff.mpr hi, rfl⟩, by rw [← eg]; rfl⟩
  · rw [List.length_map] at few
    have t' := t
    unfold tupK at t'
    rw [Bool.not_eq_true', Bool.or_eq_false_iff, decide_eq_false_iff_not, decide_eq_false_iff_not] at t'
    refine .inr (.inr ⟨a, kvs, rfl, e, fun g hg => ?_, by omega, fun bs ys p ik pm _ np => q (ys.map V.ref) p ?_ ?_ ?_ np⟩)
    · obtain ⟨x, b, h, ec⟩ := cells (Sum.inr g.1) (List.mem_map.mpr ⟨g, hg, rfl⟩)
      unfold cK at ec
      rw [if_neg t'.1, if_neg t'.2] at ec
      exact ⟨_, _, Sum.inr.inj ec⟩
    · have : kvs.length = bs.length := Paired.length ik
      rw [List.length_map, List.length_map, pm.length_eq, this]
    · intro v hv
      obtain ⟨y, hy, rfl⟩ := List.mem_map.mp hv
      obtain ⟨g, hg, hh⟩ := (isKeys_both ik).1 y (pm.mem_iff.mp hy)
      exact ⟨Sum.inr g.1, List.mem_map.mpr ⟨g, hg, rfl⟩, y, rfl, hh⟩
    · intro c hc
      obtain ⟨g, hg, rfl⟩ := List.mem_map.mp hc
      obtain ⟨y, hy, hh⟩ := (isKeys_both ik).2 g hg
      exact ⟨.ref y, List.mem_map.mpr ⟨y, pm.mem_iff.mpr hy, rfl⟩, y, rfl, hh⟩
end Pf
/-! set(list of whole numbers), its order led. -/
namespace Gk
open PySem PySem.Spec PyProof.Rows L2
abbrev bareSet (w : World) : Obj := ⟨.type "set", none, .set #[] 0 (.fresh 0 0 (!w.params.followText "set-order")), #[]⟩
abbrev setHeap (w : World) (s : Shared) : Heap := s.heap.push (bareSet w)
/-- what the set's __init__ leaves behind -/
def Filled (w : World) (s : Shared) (ns : List Int) (s2 : Shared) : Prop :=
  ∃ g t c, s2 = { s with heap := g, toks := t } ∧ SetR w g s.heap.objs.size (fun j => decide (j ∈ ns)) c ∧ ∀ b o, s.heap.get? b = some o → g.get? b = some o
section
variable {P : Program} {w : World} {A : Around} {E : Value → Shared → Prop} {s : Shared}
set_option maxHeartbeats 3000000 in
theorem set_ints {l : Addr} {its : List Value} {ns : List Int} {Q : Value → Shared → Prop} (calm : A.handled = none) (hl : s.heap.IsList l its.toArray) (hit : IntsAre its ns) (few : ns.length + 1 < scanBound)
    (fin : ∀ s2, Filled w s ns s2 → Q (.ref s.heap.objs.size) s2) : wpAny (model P w) A (call (.type "set") [.ref l]) Q E s := by
  have new : (setHeap w s).get? s.heap.objs.size = some (bareSet w) := Heap.get?_push_size _ rfl
  have ty : Shared.TypeIs { s with heap := setHeap w s } (.ref s.heap.objs.size) "set" := ⟨_, new, rfl⟩
  have size : its.toArray.size = ns.length := by
    rw [List.size_toArray]
    exact IntsAre.length hit
  obtain ⟨c0, tl0, mro⟩ := PySem.F.called_set.mro
  have k1 := PySem.F.called_set.made
  have k2 := PySem.F.called_set.sub
  have k3 := PySem.F.called_set.notType
  have k4 := PySem.F.called_set.canCreate
  have k5 := PySem.F.typeCall_set_1 (.ref l)
  refine wpAny_call (codeAny_of_tree ?_)
  show wpAny (model P w) _ (callAny (.type "set") _) _ _ s
  refine wpAny_pure ⟨Code.quiet_builtin _ (by decide +kernel), codeAny_builtin PySem.F.entry_type_call ?_⟩
  rw [Around.under_plain (weight_type_call_type "set" [.ref l] []) rfl]
  repeat (any_goals (first | assumption | wp_step))
  refine codeAny_mono (code_set_led1 (.ref l) (E := E) (Q₁ := fun u s1 => u = .ref s.heap.objs.size ∧ s1 = { s with heap := setHeap w s }) ⟨rfl, rfl⟩) fun r s1 hr => ?_
  rcases r with er | fl
  · exact hr
  · cases fl with
    | brk => exact hr.elim
    | cont => exact hr.elim
    | next => exact hr.elim
    | ret u =>
      obtain ⟨rfl, rfl⟩ := hr
      have k6 := PySem.F.called_set.init.lookup
      have k7 := PySem.F.called_set.init.bind (.ref s.heap.objs.size)
      repeat (any_goals (first | assumption | wp_step))
      refine codeAny_mono (codeAny_call_builtin (R := wants (fun r s2 => r = .none ∧ Filled w s ns s2) E) PySem.F.called_set.init.plain PySem.F.entry_set_init (check_set_init_1 ty ?_)) fun r2 s2 hr2 => ?_
      · obtain ⟨⟨cl, dd, da, sl⟩, here, hc, nl, hd⟩ := hl
        simp only at hc hd
        subst hc hd
        have lt : l < s.heap.objs.size := Heap.lt_size here
        have here1 := Heap.get?_push_of_some (bareSet w) here
        have z1 := PySem.F.sub_list_set
        have z2 := PySem.F.sub_list_frozenset
        have z3 : (Value.type "list" == Value.type "dict") = false := by decide
        have hl1 : (setHeap w s).IsList l its.toArray := ⟨_, here1, rfl, nl, rfl⟩
        unfold Builtin.«set.__init__» noKeywords Builtin.Frozenset.updateFrom
        generalize it : pyIter = walk
        wp_walk
        subst it
        refine wpAny_pyIter_list hl1 (wpAny_bind (wpAny_runValue ?_))
        have nx : (setHeap w s).objs.size = s.heap.objs.size + 1 := Heap.size_push ..
        have ne1 : l ≠ (setHeap w s).objs.size := by
          rw [nx]
          exact Nat.ne_of_lt (Nat.lt_succ_of_lt lt)
        have out : s.heap.objs.size ∉ [(setHeap w s).objs.size, l] := by
          rw [nx]
          simp only [List.mem_cons, List.not_mem_nil, or_false, not_or]
          exact ⟨Nat.ne_of_lt (Nat.lt_succ_self _), Nat.ne_of_gt lt⟩
        have vals : ∀ (i : Nat) (v : Value), its.toArray[i]? = some v → ∃ k t, ns[i]? = some k ∧ v = .int k t := fun i v hv => by
          obtain ⟨g1, g2⟩ := Array.getElem?_eq_some_iff.mp hv
          have hi : i < ns.length := by omega
          obtain ⟨t, e⟩ := PyProof.Rows.IntsAre.int_at hit i v (by rwa [List.getElem?_toArray] at hv)
          exact ⟨ns[i], t, List.getElem?_eq_getElem hi, by rw [e, List.getD_eq_getElem?_getD, List.getElem?_eq_getElem hi] <;> rfl⟩
        refine set_update_ints ((Walks.list (by simp [calm]) _ l ne1 its.toArray).toS) s.heap.objs.size out ns size few vals (its.toArray.size - 0) 0 _ (by omega) (Nat.zero_le _) ⟨⟨_, Heap.get?_push_size _ rfl, rfl, rfl⟩, hl1.push _⟩ ?_ ?_
        · exact ⟨0, Nat.le_refl 0, setR_new_at (Heap.get?_push_of_some _ new)⟩
        · intro s3 c mv hc hS
          obtain ⟨h3, g3, d3, t3, o3⟩ := s3
          obtain rfl : g3 = s.gens := mv.gens
          obtain rfl : d3 = s.drawn := mv.drawn
          obtain rfl : o3 = s.os := mv.os
          show wpAny _ _ _ _ _ _
          refine wpAny_pure ?_
          show wpAny _ _ (ret Value.none) _ _ _
          refine wpAny_pure ⟨rfl, h3, t3, c, rfl, hS, fun b o e => ?_⟩
          have hb := Heap.lt_size e
          refine mv.heap b o ?_ (Heap.get?_push_of_some _ (Heap.get?_push_of_some _ e))
          simp only [List.mem_cons, List.not_mem_nil, or_false, not_or]
          show b ≠ s.heap.objs.size ∧ b ≠ (setHeap w s).objs.size
          rw [nx]
          exact ⟨Nat.ne_of_lt hb, Nat.ne_of_lt (Nat.lt_succ_of_lt hb)⟩
      · rcases r2 with er | fl2
        · exact hr2
        · cases fl2 with
          | brk => exact hr2.elim
          | cont => exact hr2.elim
          | next => exact hr2.elim
          | ret u =>
            obtain ⟨rfl, f⟩ := hr2
            repeat (any_goals (first | assumption | wp_step))
            exact fin _ f
end
section
variable {X : Cx}
/-- set(l), l a list of whole numbers -/
def rSetI (K : PySem.W.Frag) (w : World) : List V → Hp → VK → Prop := fun xs H Q => ∃ (l : Addr) (ns : List Int), xs = [.ref l] ∧ SqL K H l (ns.map V.int) ∧ ns.length ≤ 1000 ∧
  ∀ (p : Addr) (ks : List Int), H p = none → ks.Nodup → (∀ k, k ∈ ks ↔ k ∈ ns) → Q (.ref p) (upd H p (SetO w p (fun j => decide (j ∈ ns)) ks.length))
theorem cr_setI (hc : X.calm = true) : CallR X (.type "set") (rSetI X.K X.w) := by
  intro pins s σ H xs us Q I r h
  obtain ⟨l, ns, rfl, hl, few, q⟩ := h
  rw [Vals.ref1 r]
  obtain ⟨its, rv, pl, hz⟩ := I.list hl
  have hn : H s.heap.objs.size = none := I.hok.fresh (Nat.le_refl _)
  refine set_ints (I.ok.hd hc) pl.isList (ints_of_vals rv) (by unfold scanBound; omega) fun s2 f => ?_
  obtain ⟨g, t, c, rfl, R, keep⟩ := f
  have R' := R
  obtain ⟨o, es, ep, tb, ho, hx, hd, ge, nd, hm, hb, hf, hcn, _⟩ := R'
  have len : (es.toList.map keyOf).length = c := by rw [List.length_map, Array.length_toList]; exact hcn
  refine ⟨.ref s.heap.objs.size, upd H s.heap.objs.size (SetO X.w s.heap.objs.size (fun j => decide (j ∈ ns)) c), I.laid (t' := t) keep (Nat.le_refl _) (setO_new R), rfl, ?_⟩
  have := q s.heap.objs.size (es.toList.map keyOf) hn nd fun k => by rw [← hm k, decide_eq_true_eq]
  rwa [len] at this
end
end Gk
/-! set(l), whatever the list's values are: what one of them does to the set is given. -/
namespace Gk
open PySem PySem.Spec PyProof.Rows L2
/-- how the set at S takes the values of a list one by one: J n is its state behind n of them, h0 the heap that the keys stand in -/
structure Fill (P : Program) (w : World) (A : Around) (S : Addr) (h0 : Heap) (its : List Value) (J : Nat → Heap → Prop) : Prop where
  stay : ∀ {n : Nat} {h h' : Heap}, J n h → (∀ o, h.get? S = some o → h'.get? S = some o) → (∀ b o, h0.get? b = some o → h'.get? b = some o) → J n h'
  put : ∀ {E : Value → Shared → Prop} {n : Nat} {v : Value} {s : Shared} {Q : Bool → Shared → Prop}, its[n]? = some v → J n s.heap → (∀ b o, h0.get? b = some o → s.heap.get? b = some o) →
    (∀ r g t, Heap.SameBut S s.heap g → s.toks ≤ t → J (n + 1) g → Q r { s with heap := g, toks := t }) → wpAny (model P w) A (setAdd S v) Q E s
section
variable {P : Program} {w : World} {A : Around} {E : Value → Shared → Prop} {s : Shared} {S : Addr} {h0 : Heap} {its : List Value} {J : Nat → Heap → Prop}
theorem fill_loop {I : Addr} {fp wr : List Addr} {G : Array GenState → Array GenState → Prop} {Pv : Nat → Value → Prop} {St : Nat → Shared → Prop} {R : Result → Shared → Prop} {n : Nat} (en : n = its.length)
    (W : WalksS P w A.in1 I fp wr G n Pv St) (out : S ∉ fp) (vals : ∀ i v, Pv i v → its[i]? = some v) (F : Fill P w A.in1 S h0 its J) (no : h0.get? S = none) (free : ∀ b ∈ wr, h0.get? b = none) :
    ∀ (left i : Nat) (s : Shared), n - i = left → i ≤ n → St i s → (∀ b o, h0.get? b = some o → s.heap.get? b = some o) → J i s.heap →
      (∀ s2, Moved (S :: wr) G s s2 → (∀ b o, h0.get? b = some o → s2.heap.get? b = some o) → J n s2.heap → R (.ok (.ret .none)) s2) →
      codeAny (model P w) A (.builtin "set.update.loop" ⟨[.ref S, .ref I], []⟩) R s := by
  have outw : S ∉ wr := fun h => out (W.sub _ h)
  have more : ∀ {s1 s2 : Shared}, Moved wr G s1 s2 → (∀ b o, h0.get? b = some o → s1.heap.get? b = some o) → ∀ b o, h0.get? b = some o → s2.heap.get? b = some o := fun mv k b o e =>
    mv.heap b o (fun hb => by have := free b hb; rw [e] at this; cases this) (k b o e)
  intro left
  induction left with
  | zero =>
    intro i s el hi st k j fin
    obtain rfl : i = n := by omega
    refine codeAny_builtin PyProof.Rows.F.entry_set_update_loop ?_
    rw [Around.under_plainId PyProof.Rows.F.plain_set_update_loop _]
    show wpAny (model P w) A.in1 (pyNext (.ref I) >>= _) _ _ s
    refine wpAny_bind (W.done s _ _ st fun s2 mv => ?_)
    show wpAny (model P w) A.in1 (ret Value.none) _ _ s2
    exact wpAny_pure (fin s2 (mv.mono fun b hb => List.mem_cons_of_mem _ hb) (more mv k) (F.stay j (fun o e => mv.heap S o outw e) (more mv k)))
  | succ left ih =>
    intro i s el hi st k j fin
    have lt : i < n := by omega
    refine codeAny_builtin PyProof.Rows.F.entry_set_update_loop ?_
    rw [Around.under_plainId PyProof.Rows.F.plain_set_update_loop _]
    show wpAny (model P w) A.in1 (pyNext (.ref I) >>= _) _ _ s
    refine wpAny_bind (W.item i s _ _ lt st fun v s2 pv st2 mv => ?_)
    show wpAny (model P w) A.in1 (holding [v] (setAdd S v) >>= _) _ _ s2
    have k2 := more mv k
    refine wpAny_bind (wpAny_holding (F.put (vals i v pv) (F.stay j (fun o e => mv.heap S o outw e) k2) k2 fun r g t sb tk j2 => ?_))
    have old : ∀ b, b ≠ S → ∀ o, s2.heap.get? b = some o → g.get? b = some o := fun b nb o e => (sb.2 b nb).trans e
    have k3 : ∀ b o, h0.get? b = some o → g.get? b = some o := fun b o e => old b (fun z => by rw [z, no] at e; cases e) o (k2 b o e)
    refine wpAny_pure ⟨plainId_quiet PyProof.Rows.F.plain_set_update_loop _, ih (i + 1) _ (by omega) lt (W.frame _ s2 _ _ st2 tk fun b hb o e => old b (fun z => out (z ▸ hb)) o e) k3 j2 fun s3 mv3 k4 j3 => fin s3 ?_ k4 j3⟩
    exact Moved.trans W.gtrans ((mv.mono fun b hb => List.mem_cons_of_mem _ hb).then_heap tk fun b o hb e => old b (fun z => hb (z ▸ List.mem_cons_self)) o e) mv3
/-- what the set's __init__ leaves -/
def Full (s : Shared) (J : Heap → Prop) (s2 : Shared) : Prop := ∃ g t, s2 = { s with heap := g, toks := t } ∧ J g ∧ ∀ b o, s.heap.get? b = some o → g.get? b = some o
set_option maxHeartbeats 6000000 in
theorem set_any {l : Addr} {Q : Value → Shared → Prop} (calm : A.handled = none) (hl : s.heap.IsList l its.toArray) (F : ∀ A' : Around, A'.units ≤ A.units + 8 → Fill P w A' s.heap.objs.size s.heap its J)
    (j0 : ∀ h, h.get? s.heap.objs.size = some (bareSet w) → (∀ b o, s.heap.get? b = some o → h.get? b = some o) → J 0 h) (fin : ∀ s2, Full s (J its.length) s2 → Q (.ref s.heap.objs.size) s2) : wpAny (model P w) A (call (.type "set") [.ref l]) Q E s := by
  have new : (setHeap w s).get? s.heap.objs.size = some (bareSet w) := Heap.get?_push_size _ rfl
  have ty : Shared.TypeIs { s with heap := setHeap w s } (.ref s.heap.objs.size) "set" := ⟨_, new, rfl⟩
  have size : its.toArray.size = its.length := List.size_toArray
  obtain ⟨c0, tl0, mro⟩ := PySem.F.called_set.mro
  have k1 := PySem.F.called_set.made
  have k2 := PySem.F.called_set.sub
  have k3 := PySem.F.called_set.notType
  have k4 := PySem.F.called_set.canCreate
  have k5 := PySem.F.typeCall_set_1 (.ref l)
  refine wpAny_call (codeAny_of_tree ?_)
  show wpAny (model P w) _ (callAny (.type "set") _) _ _ s
  refine wpAny_pure ⟨Code.quiet_builtin _ (by decide +kernel), codeAny_builtin PySem.F.entry_type_call ?_⟩
  rw [Around.under_plain (weight_type_call_type "set" [.ref l] []) rfl]
  repeat (any_goals (first | assumption | wp_step))
  refine codeAny_mono (code_set_led1 (.ref l) (E := E) (Q₁ := fun u s1 => u = .ref s.heap.objs.size ∧ s1 = { s with heap := setHeap w s }) ⟨rfl, rfl⟩) fun r s1 hr => ?_
  rcases r with er | fl
  · exact hr
  · cases fl with
    | brk => exact hr.elim
    | cont => exact hr.elim
    | next => exact hr.elim
    | ret u =>
      obtain ⟨rfl, rfl⟩ := hr
      have k6 := PySem.F.called_set.init.lookup
      have k7 := PySem.F.called_set.init.bind (.ref s.heap.objs.size)
      repeat (any_goals (first | assumption | wp_step))
      refine codeAny_mono (codeAny_call_builtin (R := wants (fun r s2 => r = .none ∧ Full s (J its.length) s2) E) PySem.F.called_set.init.plain PySem.F.entry_set_init (check_set_init_1 ty ?_)) fun r2 s2 hr2 => ?_
      · obtain ⟨⟨cl, dd, da, sl⟩, here, hc, nl, hd⟩ := hl
        simp only at hc hd
        subst hc hd
        have lt : l < s.heap.objs.size := Heap.lt_size here
        have here1 := Heap.get?_push_of_some (bareSet w) here
        have z1 := PySem.F.sub_list_set
        have z2 := PySem.F.sub_list_frozenset
        have z3 : (Value.type "list" == Value.type "dict") = false := by decide
        have hl1 : (setHeap w s).IsList l its.toArray := ⟨_, here1, rfl, nl, rfl⟩
        unfold Builtin.«set.__init__» noKeywords Builtin.Frozenset.updateFrom
        generalize it : pyIter = walk
        wp_walk
        subst it
        refine wpAny_pyIter_list hl1 (wpAny_bind (wpAny_runValue ?_))
        have nx : (setHeap w s).objs.size = s.heap.objs.size + 1 := Heap.size_push ..
        have ne1 : l ≠ (setHeap w s).objs.size := by
          rw [nx]
          exact Nat.ne_of_lt (Nat.lt_succ_of_lt lt)
        have out : s.heap.objs.size ∉ [(setHeap w s).objs.size, l] := by
          rw [nx]
          simp only [List.mem_cons, List.not_mem_nil, or_false, not_or]
          exact ⟨Nat.ne_of_lt (Nat.lt_succ_self _), Nat.ne_of_gt lt⟩
        have none_at : ∀ b, s.heap.objs.size ≤ b → s.heap.get? b = none := fun b hb => by
          cases e : s.heap.get? b with
          | none => rfl
          | some o => exact absurd (Heap.lt_size e) (Nat.not_lt.mpr hb)
        have twice : ∀ (b : Addr) (o : Obj) (x : Obj), s.heap.get? b = some o → ((setHeap w s).push x).get? b = some o := fun b o x e => Heap.get?_push_of_some _ (Heap.get?_push_of_some _ e)
        refine fill_loop (J := J) (h0 := s.heap) (its := its) size ((Walks.list (by simp [calm]) _ l ne1 its.toArray).toS) out (fun i v hv => by rw [← List.getElem?_toArray]; exact hv) (F _ ?_) (none_at _ (Nat.le_refl _)) (fun b hb => none_at b ?_) (its.toArray.size - 0) 0 _ (by omega) (Nat.zero_le _) ⟨⟨_, Heap.get?_push_size _ rfl, rfl, rfl⟩, hl1.push _⟩ (fun b o e => twice b o _ e) ?_ ?_
        · show A.units + 1 + 1 + 1 ≤ A.units + 8
          omega
        · rw [List.mem_singleton.mp hb, nx]
          exact Nat.le_succ _
        · exact j0 _ (Heap.get?_push_of_some _ new) fun b o e => twice b o _ e
        · intro s3 mv keep hS
          obtain ⟨h3, g3, d3, t3, o3⟩ := s3
          obtain rfl : g3 = s.gens := mv.gens
          obtain rfl : d3 = s.drawn := mv.drawn
          obtain rfl : o3 = s.os := mv.os
          show wpAny _ _ _ _ _ _
          refine wpAny_pure ?_
          show wpAny _ _ (ret Value.none) _ _ _
          rw [size] at hS
          exact wpAny_pure ⟨rfl, h3, t3, rfl, hS, keep⟩
      · rcases r2 with er | fl2
        · exact hr2
        · cases fl2 with
          | brk => exact hr2.elim
          | cont => exact hr2.elim
          | next => exact hr2.elim
          | ret u =>
            obtain ⟨rfl, f⟩ := hr2
            repeat (any_goals (first | assumption | wp_step))
            exact fin _ f
end
end Gk
/-! One value put into a set whose values are looked through one by one (numbers, texts): what its rows are behind it. -/
namespace Gk
open PySem PySem.Spec PyProof.Rows L2
/-- the set at a has these rows, and can be walked -/
structure Rows (w : World) (h : Heap) (a : Addr) (es : Array (Int × Value)) : Prop where
  ex : ∃ o ep t, h.get? a = some o ∧ o.ExactSet ∧ o.data = .set es ep t ∧ t.fits es.size = true ∧ Ris t.place.toList ∧ (w.params.followText "set-order" = true ∨ t.led = true)
  few : es.size < scanBound
section
variable {P : Program} {w : World} {A : Around} {E : Value → Shared → Prop} {s : Shared} {a : Addr} {es : Array (Int × Value)}
theorem Rows.at {h h' : Heap} (R : Rows w h a es) (k : ∀ o, h.get? a = some o → h'.get? a = some o) : Rows w h' a es := by
  obtain ⟨⟨o, ep, t, ho, r⟩, f⟩ := R
  exact ⟨⟨o, ep, t, k o ho, r⟩, f⟩
theorem Rows.new {h : Heap} (ho : h.get? a = some (bareSet w)) : Rows w h a #[] :=
  ⟨⟨_, 0, _, ho, ⟨rfl, rfl, rfl⟩, rfl, by rfl, List.Pairwise.nil, by
    show _ ∨ (!w.params.followText "set-order") = true
    cases w.params.followText "set-order"
    · exact .inr rfl
    · exact .inl rfl⟩, by decide⟩
/-- the rows laid down, and all anew where the table is too full -/
theorem rows_laid {gave : Bool → Sem Unit} (hg : ∀ (b : Bool) (s1 : Shared) (Q1 : Unit → Shared → Prop), Q1 () s1 → wpAny (model P w) A (gave b) Q1 E s1) {o : Obj} {ep : Nat} {t : SetTable} (ho : s.heap.get? a = some o) (hx : o.ExactSet) (hd : o.data = .set es ep t)
    {fs : Array (Int × Value)} {u : SetTable} (few : fs.size < scanBound) (ft : u.fits fs.size = true) (ri : Ris u.place.toList) (ld : w.params.followText "set-order" = true ∨ u.led = true) {dum : Bool} {Q : Option Bool → Shared → Prop}
    (fin : ∀ g gs, Heap.SameBut a s.heap g → Rows w g a gs → gs.toList.Perm fs.toList → Q (some true) { s with heap := g }) :
    wpAny (model P w) A (do
        storeSet a fs u
        if (!dum && u.tooFull) = true then do
            gave (relayAll u fs (SetTable.grown fs.size)).2.2
            storeSet a (relayAll u fs (SetTable.grown fs.size)).1 (relayAll u fs (SetTable.grown fs.size)).2.1
            pure (some true)
          else pure (some true)) Q E s := by
  refine wpAny_bind (wpAny_storeSet_of ho hd ?_ (fits_of_scanBound few))
  have here := store_at (es' := fs) (t' := u) ho hd
  have one := Heap.SameBut.update s.heap a (Obj.putSet fs u)
  split
  · have f1 := relayAll_perm u fs (SetTable.grown fs.size)
    have f2 := relayAll_fits u fs (SetTable.grown fs.size)
    have f3 := relayAll_ris u fs (SetTable.grown fs.size)
    have f4 := relayAll_led u fs (SetTable.grown fs.size)
    generalize relayAll u fs (SetTable.grown fs.size) = z at f1 f2 f3 f4 ⊢
    rcases z with ⟨gs, v, b⟩
    dsimp only at f1 f2 f3 f4 ⊢
    have few2 : gs.size < scanBound := by
      have := f1.length_eq
      rw [Array.length_toList, Array.length_toList] at this
      omega
    refine wpAny_bind (hg _ _ _ (wpAny_bind (wpAny_storeSet_of here rfl ?_ (fits_of_scanBound few2))))
    refine wpAny_pure (fin _ gs (one.trans (Heap.SameBut.update _ a _)) ⟨⟨_, _, v, store_at here rfl, hx, rfl, f2, f3, ?_⟩, few2⟩ f1)
    rcases ld with z | z
    · exact .inl z
    · exact .inr (f4.trans z)
  · exact wpAny_pure (fin _ fs one ⟨⟨_, _, u, here, hx, rfl, ft, ri, ld⟩, few⟩ (List.Perm.refl _))
/-- a value that is looked for row by row -/
theorem scan_put {κ : Type} [DecidableEq κ] {knd : KeyKind P w κ} {k : κ} {x : Value} {Q : Bool → Shared → Prop} (hk : knd.is k x = true) (sc : x.scannable = true) (R : Rows w s.heap a es) (el : ElemsOf knd es.toList) (room : es.size + 1 < scanBound)
    (old : (∃ e ∈ es.toList, knd.is k e.2 = true) → Q false s)
    (new : ∀ g gs, (∀ e ∈ es.toList, ¬ knd.is k e.2 = true) → Heap.SameBut a s.heap g → Rows w g a gs → gs.toList.Perm ((knd.hash k, x) :: es.toList) → Q true { s with heap := g }) : wpAny (model P w) A (setAddHashed a x (knd.hash k)) Q E s := by
  obtain ⟨⟨o, ep, t, ho, hx, hd, hf, hr, hl⟩, few⟩ := R
  unfold setAddHashed setAddHashedIn
  refine wpAny_holding (wpAny_bind (wpAny_setState_of ho hd hf ?_))
  dsimp only
  rw [byScan_of sc few el]
  simp only [↓reduceIte]
  unfold setAddByScan
  refine wpAny_bind (wpAny_bind (wpAny_rule (wpAny_bind (wpAny_setScan_of hk ho hd hf el ?_))))
  cases at_ : es.toList.findIdx? (fun e => knd.is k e.2) with
  | some i =>
    dsimp only
    obtain ⟨hi, pi, _⟩ := List.findIdx?_eq_some_iff_getElem.mp at_
    exact wpAny_pure (wpAny_pure (old ⟨_, List.getElem_mem hi, pi⟩))
  | none =>
    dsimp only
    have no : ∀ e ∈ es.toList, ¬ knd.is k e.2 = true := fun e he z => by
      have := List.findIdx?_eq_none_iff.mp at_ e he
      rw [z] at this
      cases this
    have way : ∀ (b : Bool) {s1 : Shared} {Q1 : Unit → Shared → Prop}, Q1 () s1 → wpAny (model P w) A (match b with | true => rule "set.scan.the-table-gave-way" | false => pure ()) Q1 E s1 :=
      fun b s1 Q1 q => by cases b <;> first | exact wpAny_pure q | exact wpAny_rule q
    have f1 := layNew_perm t es (knd.hash k) x
    have f2 := layNew_fits t es (knd.hash k) x
    have f3 := layNew_ris t es (knd.hash k) x hr
    have f4 := layNew_led t es (knd.hash k) x
    generalize layNew t es (knd.hash k) x = z at f1 f2 f3 f4 ⊢
    rcases z with ⟨fs, u, dum, gv⟩
    dsimp only at f1 f2 f3 f4 ⊢
    rw [Array.toList_push] at f1
    have pf : fs.toList.Perm ((knd.hash k, x) :: es.toList) := f1.trans (List.perm_append_singleton _ _)
    have fewf : fs.size < scanBound := by
      have := pf.length_eq
      rw [Array.length_toList, List.length_cons, Array.length_toList] at this
      omega
    have ld : w.params.followText "set-order" = true ∨ u.led = true := by
      rcases hl with z | z
      · exact .inl z
      · exact .inr (f4.trans z)
    have fin : ∀ g gs, Heap.SameBut a s.heap g → Rows w g a gs → gs.toList.Perm fs.toList → Q true { s with heap := g } := fun g gs sb r p => new g gs no sb r (p.trans pf)
    refine wpAny_bind (way _ ?_)
    split
    · refine wpAny_bind ?_
      rw [hashByValue_scannable 8 sc]
      refine wpAny_pure (rows_laid ?_ ho hx hd fewf ?_ ?_ ?_ ?_)
      · intro b s1 Q1 q
        cases b <;> first | exact wpAny_pure q | exact wpAny_rule q
      · first | (split <;> first | exact f2 | exact SetTable.fits_plain_off f2) | exact f2
      · first | (split <;> exact f3) | exact f3
      · first | (split <;> exact ld) | exact ld
      · intro g gs sb r p
        dsimp only
        exact wpAny_pure (fin g gs sb r p)
    · refine wpAny_bind (wpAny_pure ?_)
      simp only [↓reduceIte]
      refine rows_laid ?_ ho hx hd fewf f2 f3 ld ?_
      · intro b s1 Q1 q
        cases b <;> first | exact wpAny_pure q | exact wpAny_rule q
      · intro g gs sb r p
        dsimp only
        exact wpAny_pure (fin g gs sb r p)
end
/-! ### numbers and texts -/
/-- the rows are these keys, in this order -/
structure KeyRows (P : Program) (w : World) (es : Array (Int × Value)) (ks : List L2.Key) : Prop where
  el : ElemsOf (mixKind P w) es.toList
  vs : Vals (ks.map kV) (es.toList.map (·.2))
  nd : ks.Nodup
section
variable {P : Program} {w : World} {A : Around} {E : Value → Shared → Prop} {s : Shared} {a : Addr} {es : Array (Int × Value)} {ks : List L2.Key}
theorem vals_key : ∀ {ks : List L2.Key} {us : List Value}, Vals (ks.map kV) us → us.length = ks.length ∧ ∀ (i : Nat) (u : Value), us[i]? = some u → ∃ k, ks[i]? = some k ∧ RelV (kV k) u
  | [], [], _ => ⟨rfl, fun i u h => by simp at h⟩
  | [], _ :: _, h => by cases h
  | _ :: _, [], h => by cases h
  | k :: ks, u :: us, h => by
    cases h with
    | cons h1 h2 =>
      obtain ⟨l, f⟩ := vals_key h2
      refine ⟨congrArg Nat.succ l, fun i v hv => ?_⟩
      cases i with
      | zero => exact ⟨k, rfl, (Option.some.inj hv) ▸ h1⟩
      | succ i => exact f i v hv
theorem KeyRows.mem (T : KeyRows P w es ks) {k : L2.Key} : (∃ e ∈ es.toList, (mixKind P w).is k e.2 = true) ↔ k ∈ ks := by
  obtain ⟨l, f⟩ := vals_key T.vs
  rw [List.length_map] at l
  constructor
  · rintro ⟨e, he, h⟩
    obtain ⟨i, hi⟩ := List.mem_iff_getElem?.mp he
    obtain ⟨j, h1, h2⟩ := f i e.2 (by rw [List.getElem?_map, hi]; rfl)
    rw [(mixKind P w).inj _ _ _ h (kV_is h2)]
    exact List.mem_of_getElem? h1
  · intro hk
    obtain ⟨i, hi⟩ := List.mem_iff_getElem?.mp hk
    have il : i < es.toList.length := by
      have := (List.getElem?_eq_some_iff.mp hi).1
      omega
    obtain ⟨j, h1, h2⟩ := f i es.toList[i].2 (by rw [List.getElem?_map, List.getElem?_eq_getElem il]; rfl)
    rw [hi] at h1
    obtain rfl := Option.some.inj h1
    exact ⟨_, List.getElem_mem il, kV_is h2⟩
/-- rows in another order are the keys in another order -/
theorem vals_perm {us vs : List Value} (p : us.Perm vs) : ∀ {ks : List L2.Key}, Vals (ks.map kV) vs → ∃ js : List L2.Key, js.Perm ks ∧ Vals (js.map kV) us := by
  induction p with
  | nil => exact fun {ks} h => ⟨ks, List.Perm.refl _, h⟩
  | @cons x us vs p ih =>
    intro ks h
    cases ks with
    | nil => cases h
    | cons k ks =>
      cases h with
      | cons h1 h2 =>
        obtain ⟨js, q, g⟩ := ih h2
        exact ⟨k :: js, q.cons k, .cons h1 g⟩
  | @swap x y us =>
    intro ks h
    rcases ks with _ | ⟨k, _ | ⟨k2, ks⟩⟩
    · cases h
    · cases h with | cons _ h2 => cases h2
    · cases h with
      | cons h1 h2 =>
        cases h2 with
        | cons h3 h4 => exact ⟨k2 :: k :: ks, List.Perm.swap _ _ _, .cons h3 (.cons h1 h4)⟩
  | trans _ _ ih1 ih2 =>
    intro ks h
    obtain ⟨js, q1, g1⟩ := ih2 h
    obtain ⟨is, q2, g2⟩ := ih1 g1
    exact ⟨is, q2.trans q1, g2⟩
/-- what a set of keys has got from the first n of a list -/
structure KeyGot (P : Program) (w : World) (h : Heap) (a : Addr) (all : List L2.Key) (n : Nat) (ks : List L2.Key) : Prop where
  ex : ∃ es, Rows w h a es ∧ KeyRows P w es ks
  mem : ∀ k, k ∈ ks ↔ k ∈ all.take n
  len : ks.length ≤ n
theorem key_fill {S : Addr} {h0 : Heap} {its : List Value} {all : List L2.Key} (iv : Vals (all.map kV) its) (few : all.length + 1 < scanBound) : Fill P w A S h0 its fun n h => ∃ ks, KeyGot P w h S all n ks where
  stay := by
    rintro n h h' ⟨ks, ⟨es, R, T⟩, m, l⟩ k _
    exact ⟨ks, ⟨es, R.at k, T⟩, m, l⟩
  put := by
    rintro E n v s Q hv ⟨ks, ⟨es, R, T⟩, m, l⟩ _ fin
    obtain ⟨li, f⟩ := vals_key iv
    obtain ⟨k, hk, rv⟩ := f n v hv
    have nl : n < all.length := (List.getElem?_eq_some_iff.mp hk).1
    have sz : es.size = ks.length := by
      have := (vals_key T.vs).1
      rw [List.length_map, Array.length_toList] at this
      exact this
    have tk : all.take (n + 1) = all.take n ++ [k] := by rw [List.take_add_one, hk]; rfl
    have is := kV_is (P := P) (w := w) rv
    have sc := L2.key_scan rv
    unfold setAdd
    refine wpAny_holding (wpAny_bind ((mixKind P w).pyHash is ?_))
    refine scan_put (s := { s with toks := s.toks + 1 }) (knd := mixKind P w) is sc R T.el (by omega) (fun h => ?_) (fun g gs no sb R2 p => ?_)
    · refine fin false s.heap (s.toks + 1) (Heap.SameBut.refl S s.heap) (Nat.le_succ _) ⟨ks, ⟨es, R, T⟩, fun j => ?_, by omega⟩
      rw [tk, List.mem_append, ← m j, List.mem_singleton]
      exact ⟨.inl, fun z => z.elim id fun z => z ▸ T.mem.mp h⟩
    · have kn : k ∉ ks := fun z => by
        obtain ⟨e, he, h⟩ := T.mem.mpr z
        exact no e he h
      obtain ⟨js, q, g1⟩ := vals_perm (p.map (·.2)) (ks := k :: ks) (.cons rv T.vs)
      refine fin true g (s.toks + 1) sb (Nat.le_succ _) ⟨js, ⟨gs, R2, (ElemsOf.push T.el is sc).perm (p.trans (List.perm_append_singleton _ _).symm), g1, q.nodup_iff.mpr (List.nodup_cons.mpr ⟨kn, T.nd⟩)⟩, fun j => ?_, ?_⟩
      · rw [q.mem_iff, List.mem_cons, tk, List.mem_append, m j, List.mem_singleton]
        exact Or.comm
      · rw [q.length_eq, List.length_cons]
        omega
end
end Gk
/-! A tuple of numbers and texts put into a set of such tuples. -/
namespace Gk
open PySem PySem.Spec PyProof.Rows L2
abbrev KT (P : Program) (w : World) (h : Heap) (k : List L2.Key) (b : Addr) : Prop := IsTupleKey (mixKind P w) h k b
abbrev hT (P : Program) (w : World) (k : List L2.Key) : Int := tupleKeyHash (mixKind P w) k
abbrev rowT (P : Program) (w : World) (p : Addr × List L2.Key) : Int × Value := (hT P w p.2, .ref p.1)
section
variable {P : Program} {w : World} {A : Around} {E : Value → Shared → Prop} {s : Shared}
/-! ### what is asked of such a tuple besides its hash -/
theorem scan_items {k : List L2.Key} {us : List Value} (h : ItemsAre (mixKind P w) k us) : ∀ u ∈ us, u.scannable = true := by
  induction h with
  | nil => exact fun u hu => nomatch hu
  | cons h1 _ ih =>
    intro u hu
    rcases List.mem_cons.mp hu with rfl | hu
    · rcases keyIs_shape h1 with ⟨i, t, _, e⟩ | ⟨x, t, _, e⟩ <;> rw [e] <;> rfl
    · exact ih u hu
theorem noClass_scan (n : Nat) {u : Value} (h : u.scannable = true) : ofAClassStatement n u = pure false := by
  cases n <;> cases u <;> simp_all [Value.scannable, ofAClassStatement]
theorem noClass_T {k : List L2.Key} {b : Addr} {Q : Bool → Shared → Prop} (hk : KT P w s.heap k b) (q : Q false s) : wpAny (model P w) A (ofAClassStatement 8 (.ref b)) Q E s := by
  have ty := IsTupleKey.typeIs hk
  obtain ⟨o, us, n, ho, _, hd, hi⟩ := hk
  have sc := scan_items hi
  unfold ofAClassStatement
  refine wpAny_bind (wpAny_typeOf ty ?_)
  dsimp only
  have e : (("tuple" : String) == "tuple") = true := by decide
  simp only [e, if_true, Bool.not_true, Bool.false_eq_true, if_false]
  try refine wpAny_bind (wpAny_pure ?_)
  try simp only [Bool.not_true, Bool.false_eq_true, if_false]
  show wpAny (model P w) A (seqItems? (.ref b) >>= _) _ _ s
  refine wpAny_bind (wpAny_seqItems ho hd ?_)
  dsimp only
  refine wpAny_bind ?_
  show wpAny (model P w) A (forIn us _ _) _ _ s
  rw [← Array.forIn_toList]
  refine wpAny_forIn_list _ (fun left r s1 => r.1 = none ∧ s1 = s ∧ ∀ u ∈ left, u.scannable = true) _ (fun u left r s1 h => ?_) (fun r s1 h => ?_) _ _ ⟨rfl, rfl, sc⟩
  · obtain ⟨h1, rfl, h3⟩ := h
    rw [noClass_scan _ (h3 u List.mem_cons_self)]
    refine wpAny_bind (wpAny_pure ?_)
    simp only [Bool.false_eq_true, if_false]
    exact wpAny_pure ⟨rfl, rfl, fun v hv => h3 v (List.mem_cons_of_mem _ hv)⟩
  · obtain ⟨r1, r2⟩ := r
    obtain ⟨h1, rfl, _⟩ := h
    simp only at h1
    subst h1
    exact wpAny_pure q
theorem byVal_T {k : List L2.Key} {b : Addr} {Q : Bool → Shared → Prop} (hk : KT P w s.heap k b) (q : ∀ r, Q r s) : wpAny (model P w) A (hashByValue 8 (.ref b)) Q E s := by
  have ty := IsTupleKey.typeIs hk
  obtain ⟨o, us, n, ho, _, hd, hi⟩ := hk
  have sc := scan_items hi
  unfold hashByValue
  refine wpAny_bind (wpAny_specialOf ty PySem.F.slot_tuple_hash.lookup ?_)
  show wpAny (model P w) A (seqItems? (.ref b) >>= _) _ _ s
  refine wpAny_bind (wpAny_seqItems ho hd ?_)
  refine wpAny_bind ?_
  show wpAny (model P w) A (forIn us _ _) _ _ s
  rw [← Array.forIn_toList]
  refine wpAny_forIn_list _ (fun left r s1 => s1 = s ∧ ∀ u ∈ left, u.scannable = true) _ (fun u left r s1 h => ?_) (fun r s1 h => ?_) _ _ ⟨rfl, sc⟩
  · obtain ⟨rfl, h3⟩ := h
    rw [hashByValue_scannable _ (h3 u List.mem_cons_self)]
    refine wpAny_bind (wpAny_pure ?_)
    cases plainKind u with
    | true =>
      simp only [Bool.not_true, Bool.false_eq_true, if_false]
      exact wpAny_pure ⟨rfl, fun v hv => h3 v (List.mem_cons_of_mem _ hv)⟩
    | false =>
      simp only [Bool.not_false, if_true]
      refine wpAny_pure ?_
      exact wpAny_pure (q _)
  · obtain ⟨r1, r2⟩ := r
    obtain ⟨rfl, _⟩ := h
    cases r1 with
    | none => exact wpAny_pure (q _)
    | some v => exact wpAny_pure (q _)
theorem unseen_T {k : List L2.Key} {b : Addr} {Q : Bool → Shared → Prop} (hk : KT P w s.heap k b) {ys : List Value} (hy : ∀ y ∈ ys, ∃ j c, y = .ref c ∧ KT P w s.heap j c) (q : Q false s) : wpAny (model P w) A (searchCouldBeSeen (.ref b) ys) Q E s := by
  unfold searchCouldBeSeen
  refine wpAny_bind (wpAny_forIn_list _ (fun left r s1 => r.1 = none ∧ s1 = s ∧ ∀ y ∈ left, ∃ j c, y = Value.ref c ∧ KT P w s.heap j c) _ (fun y left r s1 h => ?_) (fun r s1 h => ?_) _ _ ⟨rfl, rfl, hy⟩)
  · obtain ⟨_, rfl, h3⟩ := h
    obtain ⟨j, c, rfl, hc⟩ := h3 y List.mem_cons_self
    have go : ∀ y ∈ left, ∃ j c, y = Value.ref c ∧ KT P w s1.heap j c := fun v hv => h3 v (List.mem_cons_of_mem _ hv)
    dsimp only
    by_cases very : (b == c || (carriedByValue (.ref b) && carriedByValue (.ref c))) = true
    · exact L2.wp_if_pos very (wpAny_pure ⟨rfl, rfl, go⟩)
    · refine L2.wp_if_neg very (wpAny_bind (wpAny_eqIsQuiet_tuple hk ?_))
      simp only [Bool.not_true, Bool.false_eq_true, if_false]
      refine wpAny_bind (wpAny_eqIsQuiet_tuple hc ?_)
      simp only [Bool.not_true, Bool.false_eq_true, if_false]
      refine wpAny_bind (noClass_T hk ?_)
      simp only [Bool.false_eq_true, if_false]
      refine wpAny_bind (noClass_T hc ?_)
      simp only [Bool.false_eq_true, if_false]
      exact wpAny_pure ⟨rfl, rfl, go⟩
  · obtain ⟨r1, r2⟩ := r
    obtain ⟨h1, rfl, _⟩ := h
    simp only at h1
    subst h1
    exact wpAny_pure q
end
/-! ### the table -/
structure TTab (P : Program) (w : World) (h : Heap) (a : Addr) (L : List (Addr × List L2.Key)) (es : Array (Int × Value)) (t : SetTable) : Prop where
  ob : ∃ o ep, h.get? a = some o ∧ o.ExactSet ∧ o.data = .set es ep t
  row : es.toList = L.map (rowT P w)
  tab : TabOk t (L.map fun p => hT P w p.2)
  nd : (L.map (·.2)).Nodup
  key : ∀ p ∈ L, KT P w h p.2 p.1
  led : w.params.followText "set-order" = true ∨ t.led = true
  room : L.length * 5 < t.mask * 3
  few : L.length < 64
section
variable {P : Program} {w : World} {A : Around} {E : Value → Shared → Prop} {s : Shared} {a : Addr} {L : List (Addr × List L2.Key)} {es : Array (Int × Value)} {t : SetTable}
theorem TTab.size {h : Heap} (T : TTab P w h a L es t) : es.size = L.length := by
  have e := congrArg List.length T.row
  rwa [Array.length_toList, List.length_map] at e
theorem TTab.fits {h : Heap} (T : TTab P w h a L es t) : t.fits es.size = true := by
  have e1 := T.tab.sz
  have e2 := T.size
  have e3 := T.room
  rw [List.length_map] at e1
  unfold SetTable.fits SetTable.fill
  rw [T.tab.dm]
  simp only [Bool.and_eq_true, beq_iff_eq, decide_eq_true_eq]
  refine ⟨by omega, ?_⟩
  show t.place.size + 0 ≤ t.mask
  omega
theorem TTab.at_ {h : Heap} (T : TTab P w h a L es t) {i : Nat} {p : Addr × List L2.Key} (e : L[i]? = some p) : es[i]? = some (rowT P w p) := by
  rw [← Array.getElem?_toList, T.row, List.getElem?_map, e]
  rfl
theorem TTab.own {h : Heap} (T : TTab P w h a L es t) : t.gaveWay = false := by
  unfold SetTable.gaveWay
  rw [mask_odd T.tab.mok]
  decide
/-- the way of a hash through the table -/
abbrev walkT (m : Nat) (h : Int) (c : Nat) : SetTable.Probe := nth m (runAt m (SetTable.bits h % (m + 1)) (SetTable.bits h)) c
theorem walkT_add (m : Nat) (h : Int) (c q : Nat) : nth m (walkT m h c) q = walkT m h (c + q) := (nth_add m c _ q).symm
theorem walkT_dummy (m : Nat) (h : Int) : ∀ c, (walkT m h c).dummy = none
  | 0 => rfl
  | c + 1 => by
    have e : walkT m h (c + 1) = adv m (walkT m h c) := nth_succ m _ c
    rw [e]
    unfold adv
    split <;> exact walkT_dummy m h c
/-- the search, from the c-th step of the way on -/
theorem seekT (T : TTab P w s.heap a L es t) {x : Addr} {k : List L2.Key} (hx : KT P w s.heap k x) (hu : A.units < cLine) {h : Int} (eh : h = hT P w k) {N : Nat} (big : N < 10 * SetTable.turns t.mask) (free : way t.mask h N ∉ t.place.toList) (full : ∀ c, c < N → way t.mask h c ∈ t.place.toList)
    {Q : SetFound → Shared → Prop} (found : k ∈ L.map (·.2) → Q (.there none) s) (lost : k ∉ L.map (·.2) → Q (.free (way t.mask h N) false) s) :
    ∀ (f c : Nat) (from_ : Option SetTable.Probe), from_.getD (t.probeStart h) = walkT t.mask h c → c ≤ N → N - c < f → (∀ (i : Nat) p, L[i]? = some p → p.2 = k → ∃ d, c ≤ d ∧ d < N ∧ t.place.toList[i]? = some (way t.mask h d)) →
      wpAny (model P w) A (setSearchFrom a (.ref x) h true f from_) Q E s := by
  intro f
  induction f with
  | zero => exact fun c _ _ _ z => absurd z (Nat.not_lt_zero _)
  | succ f ih =>
    intro c from_ ef hc hf ahead
    obtain ⟨o, ep, ho, hex, hd⟩ := T.ob
    have hashes : ∀ (i : Nat) p, L[i]? = some p → ((es[i]?.map (·.1)).getD 0) = hT P w p.2 := fun i p hp => by rw [T.at_ hp]; rfl
    have step : ∀ q, (nth t.mask (walkT t.mask h c) q).j = way t.mask h (c + q) := fun q => congrArg SetTable.Probe.j (walkT_add t.mask h c q)
    rw [setSearchFrom_succ]
    refine wpAny_bind (wpAny_setState_of ho hd T.fits ?_)
    dsimp only
    refine L2.wp_if_neg (by rw [T.own]; decide) ?_
    try refine wpAny_bind (wpAny_pure ?_)
    rcases go_spec t T.tab.ris T.tab.dm (fun i => (es[i]?.map (·.1)).getD 0) h (10 * SetTable.turns t.mask) (N - c) _ (walkT_dummy t.mask h c) (by omega) (fun q hq => by rw [step]; exact full _ (by omega)) (by rw [step, Nat.add_sub_cancel' hc]; exact free) with ⟨q, i, hq, hi, same, before, met⟩ | ⟨before, met⟩
    · -- a row of the same hash
      rw [step] at hi
      have met' : t.probe (fun i => (es[i]?.map (·.1)).getD 0) h (from_.getD (t.probeStart h)) = some (.candidate (way t.mask h (c + q)) i (walkT t.mask h (c + (q + 1)))) := by
        rw [ef, ← step, ← walkT_add]
        exact met
      rw [met']
      dsimp only
      have il : i < L.length := by
        have h1 := (List.getElem?_eq_some_iff.mp hi).1
        have h2 := T.tab.sz
        rw [List.length_map] at h2
        rw [Array.length_toList] at h1
        omega
      obtain ⟨p, hp⟩ : ∃ p, L[i]? = some p := ⟨_, List.getElem?_eq_getElem il⟩
      have pm : p ∈ L := List.mem_of_getElem? hp
      have live := slot_live T.tab.ris hi
      have then_ : wpAny (model P w) A (searchRest a (.ref x) h true f es t (way t.mask h (c + q)) i (walkT t.mask h (c + (q + 1)))) Q E s := by
        unfold searchRest
        rw [T.at_ hp]
        dsimp only
        refine wpAny_bind (wpAny_holding (wpAny_eqBool_tuple hu (T.key p pm) hx ?_))
        refine wpAny_bind (wpAny_setState_of ho hd T.fits ?_)
        dsimp only
        by_cases e : p.2 = k
        · exact L2.wp_if_pos (by simp [e]) (wpAny_pure (found (List.mem_map.mpr ⟨p, pm, e⟩)))
        · refine L2.wp_if_neg (by simp [e]) ?_
          try refine wpAny_bind (wpAny_pure ?_)
          rw [sameMem]
          dsimp only
          simp only [if_true, live, T.at_ hp]
          refine wpAny_bind (wpAny_isSame_ref_self (wpAny_bind (wpAny_pure ?_)))
          simp only [if_true]
          refine L2.wp_if_neg (by simp [e]) (ih (c + (q + 1)) _ rfl (by omega) (by omega) fun j r hj er => ?_)
          obtain ⟨d, d1, d2, d3⟩ := ahead j r hj er
          refine ⟨d, ?_, d2, d3⟩
          have hr : ((es[j]?.map (·.1)).getD 0) = h := by rw [hashes j r hj, er, eh]
          rcases Nat.lt_trichotomy d (c + q) with z | z | z
          · exact absurd hr (before (d - c) j (by omega) (by rw [step, Nat.add_sub_cancel' d1]; exact d3))
          · rw [z] at d3
            have l2 := slot_live T.tab.ris d3
            rw [live] at l2
            injection l2 with l2
            rw [← l2, hp] at hj
            exact absurd ((congrArg Prod.snd (Option.some.inj hj)).trans er) e
          · omega
      by_cases ld : t.led = true
      · refine L2.wp_if_neg (by simp [ld]) ?_
        try refine wpAny_bind (wpAny_pure ?_)
        exact then_
      · refine L2.wp_if_pos (by simp [ld]) (wpAny_bind (unseen_T hx (fun y hy => ?_) ?_))
        · obtain ⟨r, hr, rfl⟩ := List.mem_map.mp hy
          have hr2 : r ∈ es.toList := by
            have : r ∈ es ∧ r.1 = h := by simpa using hr
            simpa using this.1
          rw [T.row] at hr2
          obtain ⟨g, hg, rfl⟩ := List.mem_map.mp hr2
          exact ⟨g.2, g.1, rfl, T.key g hg⟩
        · refine L2.wp_if_neg (by decide) ?_
          try refine wpAny_bind (wpAny_pure ?_)
          exact then_
    · -- none: the empty slot
      have met' : t.probe (fun i => (es[i]?.map (·.1)).getD 0) h (from_.getD (t.probeStart h)) = some (.empty (way t.mask h N) none) := by
        have e2 : way t.mask h N = (nth t.mask (walkT t.mask h c) (N - c)).j := by rw [step, Nat.add_sub_cancel' hc]
        rw [ef, e2]
        exact met
      rw [met']
      dsimp only
      refine wpAny_pure (lost fun z => ?_)
      obtain ⟨r, hr, er⟩ := List.mem_map.mp z
      obtain ⟨j, hj⟩ := List.mem_iff_getElem?.mp hr
      obtain ⟨d, d1, d2, d3⟩ := ahead j r hj er
      exact before (d - c) j (by omega) (by rw [step, Nat.add_sub_cancel' d1]; exact d3) (by rw [hashes j r hj, er, eh])
theorem lookT (T : TTab P w s.heap a L es t) {x : Addr} {k : List L2.Key} (hx : KT P w s.heap k x) (hu : A.units < cLine) {Q : SetFound → Shared → Prop} (found : k ∈ L.map (·.2) → Q (.there none) s)
    (lost : ∀ N, k ∉ L.map (·.2) → way t.mask (hT P w k) N ∉ t.place.toList → (∀ c, c < N → way t.mask (hT P w k) c ∈ t.place.toList) → Q (.free (way t.mask (hT P w k) N) false) s) :
    wpAny (model P w) A (setSearch a (.ref x) (hT P w k) true) Q E s := by
  have rm := T.room
  obtain ⟨N, big, free, full⟩ := T.tab.first (by rw [List.length_map]; omega) (hT P w k)
  have less : 10 * SetTable.turns t.mask < 100000 := by
    unfold SetTable.turns
    rcases T.tab.mok with e | e | e <;> omega
  unfold setSearch
  refine seekT T hx hu rfl big free full found (fun z => lost N z free full) 100000 0 none rfl (Nat.zero_le _) (by omega) fun i p hp ep => ?_
  have il : i < t.place.toList.length := by
    have h1 := (List.getElem?_eq_some_iff.mp hp).1
    have h2 := T.tab.sz
    rw [List.length_map] at h2
    rw [Array.length_toList]
    omega
  obtain ⟨c, hc, e⟩ := T.tab.before (i := i) (j := t.place.toList[i]) free (by rw [List.getElem?_map, hp, ← ep]; rfl) (List.getElem?_eq_getElem il)
  exact ⟨c, Nat.zero_le _, hc, by rw [List.getElem?_eq_getElem il, e]⟩
end
end Gk
/-! Tuples put in: the table laid anew, the list's tuples one by one. -/
namespace Gk
open PySem PySem.Spec PyProof.Rows L2
theorem tabOff {t : SetTable} {hs : List Int} (T : TabOk t hs) : TabOk { t with plain := false } hs := ⟨T.ris, T.dm, T.sz, T.mok, T.bd, T.reach⟩
section
variable {P : Program} {w : World} {A : Around} {E : Value → Shared → Prop} {s : Shared} {a : Addr} {L : List (Addr × List L2.Key)} {es : Array (Int × Value)} {t : SetTable}
theorem kt_but {h g : Heap} {k : List L2.Key} {b : Addr} {o : Obj} {ep : Nat} (x : KT P w h k b) (ho : h.get? a = some o) (hd : o.data = .set es ep t) (sb : Heap.SameBut a h g) : KT P w g k b := by
  obtain ⟨u, us, n, hu, hc, hs, hi⟩ := x
  refine ⟨u, us, n, (sb.2 b fun e => ?_).trans hu, hc, hs, hi⟩
  rw [e, ho] at hu
  rw [Option.some.inj hu, hs] at hd
  cases hd
theorem kt_keep {h g : Heap} {k : List L2.Key} {b : Addr} (x : KT P w h k b) (m : ∀ c o, h.get? c = some o → g.get? c = some o) : KT P w g k b := by
  obtain ⟨u, us, n, hu, r⟩ := x
  exact ⟨u, us, n, m _ _ hu, r⟩
/-- the rows in the order of the table laid anew -/
theorem in_order {order : Array Nat} (row : es.toList = L.map (rowT P w)) (p : order.toList.Perm (List.range L.length)) :
    ∃ M : List (Addr × List L2.Key), (order.filterMap (es[·]?)).toList = M.map (rowT P w) ∧ M.Perm L ∧ (M.map fun p => hT P w p.2) = order.toList.map fun i => (es.map (·.1)).getD i 0 := by
  have sz : es.size = L.length := by
    have e := congrArg List.length row
    rwa [Array.length_toList, List.length_map] at e
  have at_ : ∀ i, i < L.length → es[i]? = some (rowT P w (L.getD i (0, []))) := fun i hi => by
    rw [← Array.getElem?_toList, row, List.getElem?_map, List.getD_eq_getElem?_getD, List.getElem?_eq_getElem hi]
    rfl
  have less : ∀ i ∈ order.toList, i < L.length := fun i hi => List.mem_range.mp (p.mem_iff.mp hi)
  have e0 : (order.filterMap (es[·]?)).toList = order.toList.filterMap fun i => es[i]? := by simp
  rw [e0]
  generalize order.toList = l at p less ⊢
  refine ⟨l.map fun i => L.getD i (0, []), ?_, ?_, ?_⟩
  · have go : ∀ l : List Nat, (∀ i ∈ l, i < L.length) → l.filterMap (fun i => es[i]?) = (l.map fun i => L.getD i (0, [])).map (rowT P w) := fun l => by
      induction l with
      | nil => exact fun _ => rfl
      | cons i l ih =>
        intro hl
        rw [List.filterMap_cons_some (at_ i (hl i List.mem_cons_self)), ih fun j hj => hl j (List.mem_cons_of_mem _ hj)]
        rfl
    exact go l less
  · have e : (List.range L.length).map (fun i => L.getD i (0, [])) = L := by
      refine List.ext_getElem? fun i => ?_
      rw [List.getElem?_map]
      by_cases h : i < L.length
      · rw [List.getElem?_range h, List.getElem?_eq_getElem h]
        show some (L.getD i (0, [])) = _
        rw [List.getD_eq_getElem?_getD, List.getElem?_eq_getElem h]
        rfl
      · rw [List.getElem?_eq_none (by rw [List.length_range]; omega), List.getElem?_eq_none (by omega)]
        rfl
    exact (p.map _).trans (by rw [e])
  · rw [List.map_map]
    refine List.map_congr_left fun i hi => ?_
    have h := less i hi
    have e5 : (es.map (·.1))[i]? = some (hT P w (L.getD i (0, [])).2) := by
      rw [Array.getElem?_map, at_ i h]
      rfl
    rw [Array.getD_eq_getD_getElem?, e5]
    rfl
theorem relayT {o : Obj} {ep : Nat} (ho : s.heap.get? a = some o) (hx : o.ExactSet) (hd : o.data = .set es ep t) (row : es.toList = L.map (rowT P w)) (sz : t.place.size = es.size) (dm : t.dummies = #[]) (fit : es.size ≤ t.mask) (nd : (L.map (·.2)).Nodup)
    (key : ∀ p ∈ L, KT P w s.heap p.2 p.1) (led : w.params.followText "set-order" = true ∨ t.led = true) (few : L.length < 64) {wanted m : Nat} (hw : SetTable.sizeAbove wanted - 1 = m) (hm : MaskOk m) (hw2 : SetTable.sizeAbove wanted ≤ 128) (room : L.length * 5 < m * 3) {Q : Unit → Shared → Prop}
    (fin : ∀ g M fs u, Heap.SameBut a s.heap g → TTab P w g a M fs u → M.Perm L → Q () { s with heap := g }) : wpAny (model P w) A (setRelay a wanted) Q E s := by
  have size : es.size = L.length := by
    have e := congrArg List.length row
    rwa [Array.length_toList, List.length_map] at e
  have fits : t.fits es.size = true := by
    unfold SetTable.fits SetTable.fill
    rw [dm]
    simp only [Bool.and_eq_true, beq_iff_eq, decide_eq_true_eq]
    refine ⟨sz, ?_⟩
    show t.place.size + 0 ≤ t.mask
    omega
  obtain ⟨u, order, anew, pm, T, em, el, epl, edm⟩ := relaid_ok t (hs := es.map (·.1)) (wanted := wanted) hw hm (by rw [Array.size_map, size]; omega)
  rw [Array.size_map, size] at pm
  obtain ⟨M, r1, r2, r3⟩ := in_order row pm
  rw [← r3] at T
  have size2 : (order.filterMap (es[·]?)).size = es.size := by
    have e := congrArg List.length r1
    rw [Array.length_toList, List.length_map, r2.length_eq] at e
    omega
  rw [setRelay_eq]
  refine wpAny_bind (wpAny_setState_of ho hd fits ?_)
  dsimp only
  refine L2.wp_if_neg (by rw [sizeLine_eq]; omega) ?_
  try refine wpAny_bind (wpAny_pure ?_)
  rw [anew]
  dsimp only
  refine wpAny_bind ?_
  refine L2.wp_if_neg (by rw [size2]; simp) ?_
  try refine wpAny_bind (wpAny_pure ?_)
  refine wpAny_pure ?_
  dsimp only
  refine wpAny_storeSet_of ho hd ?_ (by rw [size2, size, sizeLine_eq]; omega)
  have sb : Heap.SameBut a s.heap (s.heap.update a (Obj.putSet (order.filterMap (es[·]?)) u)) := Heap.SameBut.update ..
  exact fin _ M _ u sb ⟨⟨_, _, store_at ho hd, ⟨hx.1, hx.2.1, hx.2.2⟩, rfl⟩, r1, T, (r2.map _).nodup_iff.mpr nd, fun p hp => kt_but (key p (r2.mem_iff.mp hp)) ho hd sb, by rw [el]; exact led, by rw [r2.length_eq, em]; exact room, by rw [r2.length_eq]; exact few⟩ r2
/-- put in, or there already -/
theorem putT (T : TTab P w s.heap a L es t) {x : Addr} {k : List L2.Key} (hx : KT P w s.heap k x) (hu : A.units < cLine) (more : L.length + 1 < 64) {Q : Bool → Shared → Prop}
    (fin : ∀ r g M fs u, Heap.SameBut a s.heap g → TTab P w g a M fs u → (k ∈ L.map (·.2) → M = L) → (k ∉ L.map (·.2) → M.Perm ((x, k) :: L)) → Q r { s with heap := g }) : wpAny (model P w) A (setAddHashed a (.ref x) (hT P w k)) Q E s := by
  obtain ⟨o, ep, ho, hex, hd⟩ := T.ob
  have size := T.size
  have rm := T.room
  unfold setAddHashed
  refine wpAny_holding ?_
  rw [show (100000 : Nat) = 99999 + 1 from rfl, setAddHashedIn_succ]
  refine wpAny_bind (wpAny_setState_of ho hd T.fits ?_)
  dsimp only
  refine L2.wp_if_neg (by simp [byScan, Value.scannable]) ?_
  try refine wpAny_bind (wpAny_pure ?_)
  refine wpAny_bind (lookT T hx hu (fun hm => ?_) fun N hm free full => ?_)
  · dsimp only
    exact wpAny_pure (fin false s.heap L es t (Heap.SameBut.refl a s.heap) T (fun _ => rfl) fun z => absurd hm z)
  · dsimp only
    refine wpAny_bind (wpAny_setState_of ho hd T.fits ?_)
    dsimp only
    obtain ⟨q1, q2, q3, q4, q5, q6, _, _, q9⟩ := T.tab.put free full
    generalize t.put (way t.mask (hT P w k) N) = tp at q1 q3 q4 q5 q6 q9 ⊢
    obtain ⟨t1, i⟩ := tp
    dsimp only at q1 q3 q4 q5 q6 q9 ⊢
    subst q1
    generalize SetTable.below t.place (way t.mask (hT P w k) N) = i at q2 q3 ⊢
    have each : ∀ r : Bool, wpAny (model P w) A (do
        storeSet a (SetTable.insertAt es i (hT P w k, Value.ref x)) (if r = true then t1 else { t1 with plain := false })
        if (!false && (if r = true then t1 else { t1 with plain := false }).tooFull) = true then do
            setRelay a (SetTable.grown (es.size + 1))
            pure true
          else pure true) Q E s := fun r => by
      have any : ∃ t2, (if r = true then t1 else { t1 with plain := false }) = t2 ∧ TabOk t2 ((L.map fun p => hT P w p.2).take i ++ hT P w k :: (L.map fun p => hT P w p.2).drop i) ∧ t2.mask = t.mask ∧ t2.led = t.led ∧ t2.fill = L.length + 1 := by
        refine ⟨_, rfl, ?_⟩
        have l0 : (L.map fun p => hT P w p.2).length = L.length := List.length_map ..
        rw [l0] at q9
        cases r with
        | true => exact ⟨q3, q4, q5, q9⟩
        | false => exact ⟨tabOff q3, q4, q5, q9⟩
      obtain ⟨t2, et, T2, m2, l2, f2⟩ := any
      rw [et]
      have e1 : (SetTable.insertAt es i (hT P w k, Value.ref x)).toList = (L.take i ++ (x, k) :: L.drop i).map (rowT P w) := by
        rw [SetTable.toList_insertAt, T.row, List.map_append, List.map_cons, List.map_take, List.map_drop]
      have e2 : (L.map fun p => hT P w p.2).take i ++ hT P w k :: (L.map fun p => hT P w p.2).drop i = (L.take i ++ (x, k) :: L.drop i).map fun p => hT P w p.2 := by
        rw [List.map_append, List.map_cons, List.map_take, List.map_drop]
      rw [e2] at T2
      have pm := put_perm L i (x, k)
      generalize L.take i ++ (x, k) :: L.drop i = M at e1 pm T2
      generalize SetTable.insertAt es i (hT P w k, Value.ref x) = fs at e1 ⊢
      have lm : M.length = L.length + 1 := pm.length_eq
      have lf : fs.size = L.length + 1 := by
        have e := congrArg List.length e1
        rw [Array.length_toList, List.length_map] at e
        omega
      have nd : (M.map (·.2)).Nodup := (pm.map _).nodup_iff.mpr (List.nodup_cons.mpr ⟨hm, T.nd⟩)
      refine wpAny_bind (wpAny_storeSet_of ho hd ?_ (by rw [lf, sizeLine_eq]; omega))
      have sb : Heap.SameBut a s.heap (s.heap.update a (Obj.putSet fs t2)) := Heap.SameBut.update ..
      have here := store_at (es' := fs) (t' := t2) ho hd
      generalize s.heap.update a (Obj.putSet fs t2) = g at sb here ⊢
      have key : ∀ p ∈ M, KT P w g p.2 p.1 := fun p hp => by
        rcases List.mem_cons.mp (pm.mem_iff.mp hp) with e | hp
        · rw [e]
          exact kt_but hx ho hd sb
        · exact kt_but (T.key p hp) ho hd sb
      have led : w.params.followText "set-order" = true ∨ t2.led = true := by rw [l2]; exact T.led
      have xo : ({ o with data := .set fs (ep + 1) t2 } : Obj).ExactSet := ⟨hex.1, hex.2.1, hex.2.2⟩
      have full5 : t2.tooFull = true ↔ (L.length + 1) * 5 ≥ t.mask * 3 := by
        unfold SetTable.tooFull
        rw [decide_eq_true_eq, f2, m2]
      by_cases over : t2.tooFull = true
      · have h5 := full5.mp over
        have two : (t.mask = 7 ∧ L.length = 4) ∨ (t.mask = 31 ∧ L.length = 18) := by
          rcases T.tab.mok with e | e | e
          · exact .inl ⟨e, by omega⟩
          · exact .inr ⟨e, by omega⟩
          · exfalso
            omega
        rw [size]
        have anew : ∀ m, SetTable.sizeAbove (SetTable.grown (L.length + 1)) - 1 = m → MaskOk m → SetTable.sizeAbove (SetTable.grown (L.length + 1)) ≤ 128 → (L.length + 1) * 5 < m * 3 →
            wpAny (model P w) A (setRelay a (SetTable.grown (L.length + 1))) (fun _ s1 => Q true s1) E { s with heap := g } := fun m h1 h2 h3 h4 =>
          relayT (s := { s with heap := g }) here xo rfl e1 (by rw [T2.sz, List.length_map, lm, lf]) T2.dm (by rw [lf, m2]; rcases two with ⟨e, e2⟩ | ⟨e, e2⟩ <;> omega) nd key led (by omega) h1 h2 h3 (by rw [lm]; exact h4)
            fun g2 M2 fs2 u2 sb2 T3 pm2 => fin true g2 M2 fs2 u2 (sb.trans sb2) T3 (fun z => absurd z hm) fun _ => pm2.trans pm
        have go : wpAny (model P w) A (setRelay a (SetTable.grown (L.length + 1))) (fun _ s1 => Q true s1) E { s with heap := g } := by
          rcases two with ⟨_, e⟩ | ⟨_, e⟩
          · exact anew 31 (by rw [e, size_20]) (.inr (.inl rfl)) (by rw [e, size_20]; decide) (by omega)
          · exact anew 127 (by rw [e, size_76]) (.inr (.inr rfl)) (by rw [e, size_76]; decide) (by omega)
        first
          | exact L2.wp_if_pos (by simp [over]) (wpAny_bind (wpAny_mono go (fun _ _ q => wpAny_pure q) fun _ _ h => h))
          | exact wpAny_bind (L2.wp_if_pos (by simp [over]) (wpAny_mono go (fun _ _ q => wpAny_pure q) fun _ _ h => h))
      · have h5 : ¬ (L.length + 1) * 5 ≥ t.mask * 3 := fun z => over (full5.mpr z)
        have done : Q true { s with heap := g } := fin true g M fs t2 sb ⟨⟨_, _, here, xo, rfl⟩, e1, T2, nd, key, led, by rw [lm, m2]; omega, by omega⟩ (fun z => absurd z hm) fun _ => pm
        first
          | exact L2.wp_if_neg (by simp [over]) (wpAny_pure done)
          | exact wpAny_bind (L2.wp_if_neg (by simp [over]) (wpAny_pure (wpAny_pure done)))
    by_cases pl : t1.plain = true
    · rw [if_pos pl]
      exact wpAny_bind (byVal_T hx fun r => each r)
    · rw [if_neg pl]
      exact wpAny_bind (wpAny_pure (each true))
/-! ### a list of them, one by one -/
theorem TTab.new {h : Heap} (ho : h.get? a = some (bareSet w)) : TTab P w h a [] #[] (.fresh 0 0 (!w.params.followText "set-order")) where
  ob := ⟨_, _, ho, ⟨rfl, rfl, rfl⟩, rfl⟩
  row := rfl
  tab := ⟨List.Pairwise.nil, rfl, rfl, .inl rfl, fun _ h => (nomatch h), fun i h j hi => by simp at hi⟩
  nd := List.nodup_nil
  key := fun _ h => (nomatch h)
  led := by
    show _ ∨ (!w.params.followText "set-order") = true
    cases w.params.followText "set-order"
    · exact .inr rfl
    · exact .inl rfl
  room := by
    show 0 * 5 < 7 * 3
    decide
  few := by
    show 0 < 64
    decide
/-- what the set has got from the first n -/
structure TGot (P : Program) (w : World) (h : Heap) (a : Addr) (all : List (Addr × List L2.Key)) (n : Nat) : Prop where
  ex : ∃ L es t, TTab P w h a L es t ∧ (∀ p ∈ L, p ∈ all.take n) ∧ (∀ p ∈ all.take n, p.2 ∈ L.map (·.2)) ∧ L.length ≤ n
theorem tup_fill {S : Addr} {h0 : Heap} {all : List (Addr × List L2.Key)} (keys : ∀ p ∈ all, KT P w h0 p.2 p.1) (few : all.length < 64) (hu : A.units < cLine) : Fill P w A S h0 (all.map fun p => Value.ref p.1) fun n h => TGot P w h S all n where
  stay := by
    rintro n h h' ⟨L, es, t, T, g1, g2, g3⟩ hS h0s
    obtain ⟨o, ep, ho, r⟩ := T.ob
    exact ⟨L, es, t, ⟨⟨o, ep, hS o ho, r⟩, T.row, T.tab, T.nd, fun p hp => kt_keep (keys p (List.mem_of_mem_take (g1 p hp))) h0s, T.led, T.room, T.few⟩, g1, g2, g3⟩
  put := by
    rintro E n v s Q hv ⟨L, es, t, T, g1, g2, g3⟩ h0s fin
    rw [List.getElem?_map] at hv
    cases hp : all[n]? with
    | none => rw [hp] at hv; cases hv
    | some p =>
      rw [hp] at hv
      obtain rfl : Value.ref p.1 = v := Option.some.inj hv
      have nl : n < all.length := (List.getElem?_eq_some_iff.mp hp).1
      have tk : all.take (n + 1) = all.take n ++ [p] := by rw [List.take_add_one, hp]; rfl
      have hx : KT P w s.heap p.2 p.1 := kt_keep (keys p (List.mem_of_getElem? hp)) h0s
      unfold setAdd
      refine wpAny_holding (wpAny_bind (wpAny_pyHash_tuple hu hx ?_))
      refine putT (s := { s with toks := s.toks + (p.2.length + 1) }) T hx hu (by omega) fun r g M fs u sb T2 c1 c2 => fin r g _ sb (Nat.le_add_right _ _) ⟨M, fs, u, T2, fun q hq => ?_, fun q hq => ?_, ?_⟩
      · rw [tk]
        by_cases c : p.2 ∈ L.map (·.2)
        · rw [c1 c] at hq
          exact List.mem_append_left _ (g1 q hq)
        · rcases List.mem_cons.mp ((c2 c).mem_iff.mp hq) with e | hq
          · rw [show q = p from e]
            exact List.mem_append_right _ (List.mem_singleton.mpr rfl)
          · exact List.mem_append_left _ (g1 q hq)
      · rw [tk] at hq
        by_cases c : p.2 ∈ L.map (·.2)
        · rw [c1 c]
          rcases List.mem_append.mp hq with z | z
          · exact g2 q z
          · rw [List.mem_singleton.mp z]
            exact c
        · rw [((c2 c).map _).mem_iff, List.map_cons]
          rcases List.mem_append.mp hq with z | z
          · exact List.mem_cons_of_mem _ (g2 q z)
          · rw [List.mem_singleton.mp z]
            exact List.mem_cons_self
      · by_cases c : p.2 ∈ L.map (·.2)
        · rw [c1 c]
          omega
        · rw [(c2 c).length_eq, List.length_cons]
          omega
end
end Gk
/-! set(l), len(s), sorted(s): s a set of numbers, of texts, or of tuples of a number and a text. -/
namespace Gk
open PySem PySem.Spec PyProof.Rows L2
/-- the set at a has these values, in the order of its table -/
def SetVO (w : World) (a : Addr) (xs : List V) : HO := .ext fun h => ∃ es, Rows w h a es ∧ Vals xs (es.toList.map (·.2))
theorem setVO_new {P : Program} {w : World} {H : Hp} {h : Heap} {a : Addr} {xs : List V} (R : ∃ es, Rows w h a es ∧ Vals xs (es.toList.map (·.2))) : ObjOk P w H h a (SetVO w a xs) := by
  have ⟨es, ⟨⟨o, ep, t, ho, _⟩, _⟩, _⟩ := R
  exact ⟨R, ⟨o, ho⟩, fun h1 h2 p k => by
    obtain ⟨es, R, v⟩ := p
    exact ⟨es, R.at k, v⟩⟩
section
variable {X : Cx} {pins : List (Addr × Obj)} {σ : L2.St} {H : Hp} {s : Shared}
theorem setVO_get {a : Addr} {xs : List V} (I : Inv X pins σ H s) (ha : H a = some (SetVO X.w a xs)) : ∃ es, Rows X.w s.heap a es ∧ Vals xs (es.toList.map (·.2)) := (I.hok a _ ha).1
/-- set(l), l a list of numbers and texts -/
def rSetK (K : PySem.W.Frag) (w : World) : List V → Hp → VK → Prop := fun xs H Q => ∃ (l : Addr) (ks : List L2.Key), xs = [.ref l] ∧ SqL K H l (ks.map kV) ∧ ks.length ≤ 1000 ∧
  ∀ (p : Addr) (js : List L2.Key), H p = none → js.Nodup → (∀ k, k ∈ js ↔ k ∈ ks) → Q (.ref p) (upd H p (SetVO w p (js.map kV)))
theorem cr_setK (hc : X.calm = true) : CallR X (.type "set") (rSetK X.K X.w) := by
  intro pins s σ H xs us Q I r h
  obtain ⟨l, ks, rfl, hl, few, q⟩ := h
  rw [Vals.ref1 r]
  obtain ⟨its, rv, pl, hz⟩ := I.list hl
  have hn : H s.heap.objs.size = none := I.hok.fresh (Nat.le_refl _)
  refine set_any (J := fun n h => ∃ js, KeyGot X.prog X.w h s.heap.objs.size ks n js) (I.ok.hd hc) pl.isList (fun A' _ => key_fill rv (by unfold scanBound; omega)) (fun h ho _ => ⟨[], ⟨#[], Rows.new ho, ⟨fun e he => by simp at he, .nil, List.nodup_nil⟩⟩, fun k => by simp, Nat.le_refl _⟩) fun s2 f => ?_
  obtain ⟨g, t, rfl, ⟨js, ⟨es, R, T⟩, m, _⟩, keep⟩ := f
  have len : its.length = ks.length := (vals_key rv).1
  refine ⟨.ref s.heap.objs.size, upd H s.heap.objs.size (SetVO X.w s.heap.objs.size (js.map kV)), I.laid (t' := t) keep (Nat.le_refl _) (setVO_new ⟨es, R, T.vs⟩), rfl, q _ js hn T.nd fun k => ?_⟩
  rw [m k, len, List.take_length]
theorem key_items : ∀ {k : List L2.Key} {us : List Value}, Vals (k.map kV) us → ItemsAre (mixKind X.prog X.w) k us
  | [], [], _ => .nil
  | [], _ :: _, h => by cases h
  | _ :: _, [], h => by cases h
  | k :: ks, u :: us, h => by
    cases h with
    | cons h1 h2 => exact .cons (kV_is h1) (key_items h2)
theorem kt_at {b : Addr} {k : List L2.Key} (I : Inv X pins σ H s) (h : SqT X.K H b (k.map kV)) : KT X.prog X.w s.heap k b := by
  obtain ⟨its, r, ⟨o, ho, hc, n, hd⟩, _⟩ := I.tuple h
  exact ⟨o, its.toArray, n, ho, hc, hd, key_items r⟩
theorem refs_vals : ∀ {ks : List (Addr × List L2.Key)} {us : List Value}, Vals (ks.map fun p => V.ref p.1) us → us = ks.map fun p => Value.ref p.1
  | [], [], _ => rfl
  | [], _ :: _, h => by cases h
  | _ :: _, [], h => by cases h
  | p :: ks, u :: us, h => by
    cases h with
    | cons h1 h2 =>
      rw [refs_vals h2, show u = Value.ref p.1 from h1]
      rfl
theorem vals_refs' : ∀ (ks : List (Addr × List L2.Key)), Vals (ks.map fun p => V.ref p.1) (ks.map fun p => Value.ref p.1)
  | [] => .nil
  | _ :: ks => .cons rfl (vals_refs' ks)
/-- set(l), l a list of tuples of numbers and texts -/
def rSetT (K : PySem.W.Frag) (w : World) : List V → Hp → VK → Prop := fun xs H Q => ∃ (l : Addr) (all : List (Addr × List L2.Key)), xs = [.ref l] ∧ SqL K H l (all.map fun p => V.ref p.1) ∧ (∀ p ∈ all, SqT K H p.1 (p.2.map kV)) ∧ all.length < 64 ∧
  ∀ (p : Addr) (L : List (Addr × List L2.Key)), H p = none → (L.map (·.2)).Nodup → (∀ q ∈ L, q ∈ all) → (∀ q ∈ all, q.2 ∈ L.map (·.2)) → Q (.ref p) (upd H p (SetVO w p (L.map fun q => V.ref q.1)))
theorem cr_setT (hc : X.calm = true) (hu : X.A.units + 64 < cLine) : CallR X (.type "set") (rSetT X.K X.w) := by
  intro pins s σ H xs us Q I r h
  obtain ⟨l, all, rfl, hl, hk, few, q⟩ := h
  rw [Vals.ref1 r]
  obtain ⟨its, rv, pl, hz⟩ := I.list hl
  have hn : H s.heap.objs.size = none := I.hok.fresh (Nat.le_refl _)
  obtain rfl := refs_vals rv
  refine set_any (J := fun n h => TGot X.prog X.w h s.heap.objs.size all n) (I.ok.hd hc) pl.isList (fun A' hA => tup_fill (fun p hp => kt_at I (hk p hp)) few (by omega)) (fun h ho _ => ⟨[], #[], _, TTab.new ho, fun p hp => (nomatch hp), fun p hp => by simp at hp, Nat.le_refl _⟩) fun s2 f => ?_
  obtain ⟨g, t, rfl, ⟨L, es, tb, T, g1, g2, g3⟩, keep⟩ := f
  rw [List.length_map] at g1 g2 g3
  rw [List.take_length] at g1 g2
  have fits := T.fits
  have size := T.size
  obtain ⟨o, ep, ho, hx, hd⟩ := T.ob
  have R : Rows X.w g s.heap.objs.size es := ⟨⟨o, ep, tb, ho, hx, hd, fits, T.tab.ris, T.led⟩, by unfold scanBound; omega⟩
  refine ⟨.ref s.heap.objs.size, upd H s.heap.objs.size (SetVO X.w s.heap.objs.size (L.map fun q => V.ref q.1)), I.laid (t' := t) keep (Nat.le_refl _) (setVO_new ⟨es, R, ?_⟩), rfl, q _ L hn T.nd g1 g2⟩
  rw [T.row, List.map_map]
  exact vals_refs' L
/-- len(s) -/
def rLenV (w : World) : List V → Hp → VK → Prop := fun vs H Q => ∃ (a : Addr) (xs : List V), vs = [.ref a] ∧ H a = some (SetVO w a xs) ∧ Q (.int (xs.length : Int)) H
theorem vals_len : ∀ {xs : List V} {us : List Value}, Vals xs us → us.length = xs.length
  | [], [], _ => rfl
  | [], _ :: _, h => by cases h
  | _ :: _, [], h => by cases h
  | _ :: _, _ :: _, h => by
    cases h with
    | cons _ h2 => exact congrArg Nat.succ (vals_len h2)
theorem cr_lenV : CallR X (.builtin "len") (rLenV X.w) := by
  intro pins s σ H vs us Q I r h
  obtain ⟨a, xs, rfl, ha, q⟩ := h
  rw [Vals.ref1 r]
  obtain ⟨es, ⟨⟨o, ep, t, ho, hx, hd, hf, _⟩, few⟩, v⟩ := setVO_get I ha
  have len : (es.size : Nat) = xs.length := by
    have := vals_len v
    rw [List.length_map, Array.length_toList] at this
    exact this
  have f63 : (es.size : Int) < 2 ^ 63 := by
    unfold scanBound at few
    omega
  refine call_len_set ho hx hd hf f63 ⟨.int (es.size : Int), H, I.tok _, ⟨_, rfl⟩, ?_⟩
  rw [len]
  exact q
end
section
variable {P : Program} {w : World} {A : Around} {E : Value → Shared → Prop} {s : Shared} {a : Addr} {es : Array (Int × Value)}
/-- sorted of a set: its values in a list, and the list's sort -/
theorem sorted_rows {Q : Value → Shared → Prop} (R : Rows w s.heap a es) (calm : A.handled = none) (few : es.size ≤ 1000) {Out : Array Value → Prop}
    (srt : ∀ (A' : Around) (E' : Value → Shared → Prop) (s2 : Shared) (vs : List Value) (l : Addr) (Q' : Value → Shared → Prop), vs.Perm (es.toList.map (·.2)) → s2.heap.get? l = some (seqObj "list" vs.toArray 0) → (∀ b o, s.heap.get? b = some o → s2.heap.get? b = some o) →
      (∀ out, Out out → Q' .none { s2 with heap := sortedHeap s2.heap l vs out }) → wpAny (model P w) A' (call (.builtin "list.sort") [.ref l]) Q' E' s2)
    (fin : ∀ s2 p out c, (∀ b o, s.heap.get? b = some o → s2.heap.get? b = some o) → s2.gens = s.gens → s2.os = s.os → s.heap.objs.size ≤ p → s2.heap.get? p = some (seqObj "list" out c) → Out out → Q (.ref p) s2) :
    wpAny (model P w) A (call (.builtin "sorted") [.ref a]) Q E s := by
  obtain ⟨⟨o, ep, t, ho, hx, hd, hf, hr, hl⟩, fw⟩ := R
  refine Calls.call_function_entry kind_sorted plain_sorted entry_sorted (args_sorted1 _) ?_
  unfold Builtin.«sorted»
  refine wpAny_bind (m := checkCount "sorted" 1 1 _) (wpAny_pure ?_)
  refine wpAny_bind (collect_set (A := A.in1) calm ⟨o, ho, hx.1, hd⟩ hf fw hr hl fun s1 vs k1 hz g1 o1 pm => ?_)
  have len : vs.length = es.size := by rw [pm.length_eq, List.length_map, Array.length_toList]
  refine wpAny_bind (wpAny_newList ?_ (by rw [len, sizeLine_eq]; omega))
  have at_ : (s1.heap.push (seqObj "list" vs.toArray 0)).get? s1.heap.objs.size = some (seqObj "list" vs.toArray 0) := Heap.get?_push_size _ rfl
  refine wpAny_bind (wpAny_holding (srt _ _ { s1 with heap := s1.heap.push (seqObj "list" vs.toArray 0) } vs _ _ pm at_ (fun b u e => Heap.get?_push_of_some _ (k1 b u e)) fun out ho2 => ?_))
  obtain ⟨c, hc⟩ := sortedHeap_at (vs := vs) (out := out) at_
  refine wpAny_pure ⟨_, rfl, fin _ s1.heap.objs.size out c (fun b u e => ?_) g1 o1 hz hc ho2⟩
  have q := k1 b u e
  have lt := Heap.lt_size q
  show (sortedHeap (s1.heap.push (seqObj "list" vs.toArray 0)) s1.heap.objs.size vs out).get? b = some u
  rw [sortedHeap_old (Nat.ne_of_lt lt) (by rw [size_push']; exact Nat.lt_succ_of_lt lt)]
  exact Heap.get?_push_of_some _ q
end
end Gk
/-! sorted(s). -/
namespace Gk
open PySem PySem.Spec PyProof.Rows L2
section
variable {X : Cx} {pins : List (Addr × Obj)} {σ : L2.St} {H : Hp} {s : Shared}
theorem list_left {Q : VK} (I : Inv X pins σ H s) {s2 : Shared} {p : Addr} {out : Array Value} {c : Nat} {ys : List V} (k : ∀ b o, s.heap.get? b = some o → s2.heap.get? b = some o) (g : s2.gens = s.gens) (o : s2.os = s.os) (hp : s.heap.objs.size ≤ p) (ho : s2.heap.get? p = some (seqObj "list" out c))
    (hv : Vals ys out.toList) (few : ys.length ≤ 1000) (q : H p = none → Q (.ref p) (upd H p (.lst ys))) : ∃ v H', Inv X pins σ H' s2 ∧ RelV v (.ref p) ∧ Q v H' := by
  have hn : H p = none := I.hok.fresh hp
  have J : Inv X pins σ (upd H p (.lst ys)) { s with heap := s2.heap, gens := s2.gens, drawn := s2.drawn, toks := s2.toks } :=
    I.call (ch := []) (Un.laid k hp hn) (I.hok.laid k hp ⟨by rw [sizeLine_eq]; omega, out.toList, c, hv, ho⟩) (by rw [g]; exact I.bare) (fun _ z => nomatch z)
  have e : s2 = { s with heap := s2.heap, gens := s2.gens, drawn := s2.drawn, toks := s2.toks } := by
    cases s2
    cases s
    cases o
    rfl
  rw [e]
  exact ⟨.ref p, _, J, rfl, q hn⟩
/-- sorted(s), s a set of numbers -/
def rSortSI (w : World) : List V → Hp → VK → Prop := fun vs H Q => ∃ (a : Addr) (is : List Int), vs = [.ref a] ∧ H a = some (SetVO w a (is.map V.int)) ∧ is.length < 64 ∧ ∀ (ys : List Int) (p : Addr), ys.Perm is → ys.Pairwise (· ≤ ·) → H p = none → Q (.ref p) (upd H p (.lst (ys.map V.int)))
theorem inl_kV (is : List Int) : is.map V.int = (is.map Sum.inl : List L2.Key).map kV := by
  rw [List.map_map]
  rfl
theorem inr_kV (ss : List Str) : ss.map V.str = (ss.map Sum.inr : List L2.Key).map kV := by
  rw [List.map_map]
  rfl
theorem cr_sortSI (hc : X.calm = true) : CallR X (.builtin "sorted") (rSortSI X.w) := by
  intro pins s σ H vs us Q I r h
  obtain ⟨a, is, rfl, ha, few, q⟩ := h
  rw [Vals.ref1 r]
  obtain ⟨es, R, v⟩ := setVO_get I ha
  rw [inl_kV] at v
  have len : es.size = is.length := by
    have := (vals_key v).1
    rwa [List.length_map, Array.length_toList, List.length_map] at this
  refine sorted_rows R (I.ok.hd hc) (by omega) (Out := fun out => ∃ ys : List Int, IntsAre out.toList ys ∧ ys.Perm is ∧ ys.Pairwise (· ≤ ·)) (fun A' E' s2 us l Q' pm hl _ fin => ?_) (fun s2 p out c k g o hz ho ⟨ys, h1, h2, h3⟩ => ?_)
  · obtain ⟨js, pj, vj⟩ := vals_perm pm v
    obtain ⟨ns, rfl⟩ : ∃ ns : List Int, js = ns.map Sum.inl := by
      have each : ∀ j ∈ js, ∃ n : Int, j = Sum.inl n := fun j hj => by
        obtain ⟨n, _, e⟩ := List.mem_map.mp (pj.mem_iff.mp hj)
        exact ⟨n, e.symm⟩
      clear pj vj
      induction js with
      | nil => exact ⟨[], rfl⟩
      | cons j js ih =>
        obtain ⟨n, rfl⟩ := each j List.mem_cons_self
        obtain ⟨ns, rfl⟩ := ih fun x hx => each x (List.mem_cons_of_mem _ hx)
        exact ⟨n :: ns, rfl⟩
    have pn : ns.Perm is := by
      have f := pj.map fun j : L2.Key => match j with | .inl n => n | .inr _ => 0
      rw [List.map_map, List.map_map] at f
      have i1 : ∀ l : List Int, l.map ((fun j : L2.Key => match j with | .inl n => n | .inr _ => 0) ∘ Sum.inl) = l := fun l => List.map_id l
      rwa [i1, i1] at f
    rw [← inl_kV] at vj
    have lu : us.length < 64 := by rw [pm.length_eq, List.length_map, Array.length_toList, len]; exact few
    exact wpAny_call_entry slot_list_sort ⟨_, hl, rfl⟩ entry_list_sort (list_sort_tree hl (ints_of_vals vj) lu fun out ns' a1 a2 a3 => ⟨_, rfl, fin out ⟨ns', a1, a2.trans pn, a3⟩⟩) (args_list_sort _)
  · exact list_left I k g o hz ho (vals_of_ints h1) (by rw [List.length_map, h2.length_eq]; omega) fun hn => q ys p h2 h3 hn
/-- .. of texts -/
def rSortSS (w : World) : List V → Hp → VK → Prop := fun vs H Q => ∃ (a : Addr) (ss : List Str), vs = [.ref a] ∧ H a = some (SetVO w a (ss.map V.str)) ∧ ss.length < 64 ∧ ∀ (ys : List Str) (p : Addr), ys.Perm ss → sortedS ys = true → H p = none → Q (.ref p) (upd H p (.lst (ys.map V.str)))
theorem cr_sortSS (hc : X.calm = true) : CallR X (.builtin "sorted") (rSortSS X.w) := by
  intro pins s σ H vs us Q I r h
  obtain ⟨a, ss, rfl, ha, few, q⟩ := h
  rw [Vals.ref1 r]
  obtain ⟨es, R, v⟩ := setVO_get I ha
  rw [inr_kV] at v
  have len : es.size = ss.length := by
    have := (vals_key v).1
    rwa [List.length_map, Array.length_toList, List.length_map] at this
  refine sorted_rows R (I.ok.hd hc) (by omega) (Out := fun out => ∃ ys : List Str, StrsAre out.toList ys ∧ ys.Perm ss ∧ sortedS ys = true) (fun A' E' s2 us l Q' pm hl _ fin => ?_) (fun s2 p out c k g o hz ho ⟨ys, h1, h2, h3⟩ => ?_)
  · obtain ⟨js, pj, vj⟩ := vals_perm pm v
    obtain ⟨ns, rfl⟩ : ∃ ns : List Str, js = ns.map Sum.inr := by
      have each : ∀ j ∈ js, ∃ n : Str, j = Sum.inr n := fun j hj => by
        obtain ⟨n, _, e⟩ := List.mem_map.mp (pj.mem_iff.mp hj)
        exact ⟨n, e.symm⟩
      clear pj vj
      induction js with
      | nil => exact ⟨[], rfl⟩
      | cons j js ih =>
        obtain ⟨n, rfl⟩ := each j List.mem_cons_self
        obtain ⟨ns, rfl⟩ := ih fun x hx => each x (List.mem_cons_of_mem _ hx)
        exact ⟨n :: ns, rfl⟩
    have pn : ns.Perm ss := by
      have f := pj.map fun j : L2.Key => match j with | .inl _ => Str.empty | .inr n => n
      rw [List.map_map, List.map_map] at f
      have i1 : ∀ l : List Str, l.map ((fun j : L2.Key => match j with | .inl _ => Str.empty | .inr n => n) ∘ Sum.inr) = l := fun l => List.map_id l
      rwa [i1, i1] at f
    rw [← inr_kV] at vj
    have lu : us.length < 64 := by rw [pm.length_eq, List.length_map, Array.length_toList, len]; exact few
    have hS : StrsAre us ns := strsAre_of vj
    refine wpAny_call_entry slot_list_sort ⟨_, hl, rfl⟩ entry_list_sort (list_sort_treeK strKind_oneLt hl hS.keysOf (fun v1 v2 rest e => keyKind_strs (by rw [← e]; exact hS)) lu fun st' hp hs => ⟨_, rfl, ?_⟩) (args_list_sort _)
    obtain ⟨ys, g1, g2, g3⟩ := sorted_out_str hS hp hs
    exact fin _ ⟨ys, g1, g2.trans pn, g3⟩
  · exact list_left I k g o hz ho (vals_of_strs h1) (by rw [List.length_map, h2.length_eq]; omega) fun hn => q ys p h2 h3 hn
/-- .. of tuples of a number and a text -/
def rSortSP (w : World) : List V → Hp → VK → Prop := fun vs H Q => ∃ (a : Addr) (bs : List Addr), vs = [.ref a] ∧ H a = some (SetVO w a (bs.map V.ref)) ∧ bs.length < 64 ∧ (∀ y ∈ bs, ∃ (b : Int) (t : Str), H y = some (.tup [.int b, .str t])) ∧
  ∀ (ys : List Addr) (p : Addr), ys.Perm bs → ys.Pairwise (TupLe H) → H p = none → Q (.ref p) (upd H p (.lst (ys.map V.ref)))
theorem refs_only : ∀ {bs : List Addr} {us : List Value}, Vals (bs.map V.ref) us → us = bs.map Value.ref
  | [], [], _ => rfl
  | [], _ :: _, h => by cases h
  | _ :: _, [], h => by cases h
  | b :: bs, u :: us, h => by
    cases h with
    | cons h1 h2 =>
      rw [refs_only h2, show u = Value.ref b from h1]
      rfl
theorem cr_sortSP (hc : X.calm = true) : CallR X (.builtin "sorted") (rSortSP X.w) := by
  intro pins s σ H vs us Q I r h
  obtain ⟨a, bs, rfl, ha, few, tups, q⟩ := h
  rw [Vals.ref1 r]
  obtain ⟨es, R, v⟩ := setVO_get I ha
  have ev := refs_only v
  have len : es.size = bs.length := by
    have := congrArg List.length ev
    rwa [List.length_map, Array.length_toList, List.length_map] at this
  refine sorted_rows R (I.ok.hd hc) (by omega) (Out := fun out => ∃ ys : List Addr, out.toList = ys.map Value.ref ∧ ys.Perm bs ∧ ys.Pairwise (TupLe H)) (fun A' E' s2 us l Q' pm hl kp fin => ?_) (fun s2 p out c k g o hz ho ⟨ys, h1, h2, h3⟩ => ?_)
  · rw [ev] at pm
    obtain ⟨cs, rfl, pc⟩ : ∃ cs : List Addr, us = cs.map Value.ref ∧ cs.Perm bs := by
      refine ⟨us.map adr, ?_, ?_⟩
      · rw [List.map_map]
        refine ((List.map_congr_left fun u hu => ?_).trans (List.map_id us)).symm
        obtain ⟨b, _, e⟩ := List.mem_map.mp (pm.mem_iff.mp hu)
        rw [← e]
        rfl
      · have f := pm.map adr
        rw [List.map_map] at f
        exact f.trans (by rw [show bs.map (adr ∘ Value.ref) = bs from List.map_id bs])
    have ok : HOk X.prog X.w H s2.heap := (I.kept (t' := s2.toks) kp).hok
    have tc : ∀ y ∈ cs, ∃ (b : Int) (t : Str), H y = some (.tup [.int b, .str t]) := fun y hy => tups y (pc.mem_iff.mp hy)
    obtain ⟨⟨fs, tf⟩, kk⟩ := pairs_here ok tc
    have lc : (cs.map Value.ref).length ≤ sizeLine := by rw [List.length_map, pc.length_eq, sizeLine_eq]; omega
    refine wpAny_call_entry slot_list_sort ⟨_, hl, rfl⟩ entry_list_sort (PyProof.Rows.G.list_sort_tups hl tf kk lc fun st' pm2 so _ => ⟨_, rfl, ?_⟩) (args_list_sort _)
    have pl := Array.perm_iff_toList_perm.mp pm2
    rw [pairsOf_toList] at pl
    have each : ∀ p ∈ (arrOf st').toList, p.1 = Value.ref (adr p.2) ∧ p.2 = Value.ref (adr p.2) ∧ adr p.2 ∈ cs := fun p hp => by
      obtain ⟨a1, a2⟩ := mem_zip_self (pl.mem_iff.mp hp)
      obtain ⟨y, hy, ey⟩ := List.mem_map.mp a2
      rw [← a1, ← ey]
      exact ⟨rfl, rfl, hy⟩
    have outs : ((arrOf st').map (·.2)).toList = ((arrOf st').toList.map fun p => adr p.2).map Value.ref := by
      rw [Array.toList_map, List.map_map]
      exact List.map_congr_left fun p hp => (each p hp).2.1
    have perm : ((arrOf st').toList.map fun p => adr p.2).Perm cs := by
      have g := pl.map fun p => adr p.2
      have e : (((cs.map Value.ref).zip (cs.map Value.ref)).map fun p => adr p.2) = cs := by
        have : ∀ l : List Addr, (((l.map Value.ref).zip (l.map Value.ref)).map fun p => adr p.2) = l := fun l => by
          induction l with
          | nil => rfl
          | cons y l ih => simp only [List.map_cons, List.zip_cons_cons, ih]; rfl
        exact this cs
      rwa [e] at g
    have n1 : (pairsOf (cs.map Value.ref)).size = cs.length := by rw [pairsOf_size, List.length_map]
    have n2 : (arrOf st').size = cs.length := by rw [pm2.size_eq, n1]
    refine fin _ ⟨_, outs, perm.trans pc, ?_⟩
    rw [List.pairwise_iff_getElem]
    intro i j hi hj ij b t b' t' e e'
    rw [List.length_map, Array.length_toList] at hi hj
    rw [List.getElem_map] at e e'
    have q1 := (each _ (List.getElem_mem (show i < (arrOf st').toList.length by rw [Array.length_toList]; exact hi))).1
    have q2 := (each _ (List.getElem_mem (show j < (arrOf st').toList.length by rw [Array.length_toList]; exact hj))).1
    have ki := (pair_here ok e).1
    have kj := (pair_here ok e').1
    have k := so i j (Nat.le_of_lt ij) (by rw [n1]; omega)
    unfold PyProof.Rows.KK at k
    rw [Array.getElem?_eq_getElem hi, Array.getElem?_eq_getElem hj] at k
    rw [Array.getElem_toList] at q1 q2 ki kj
    rw [← q1] at ki
    rw [← q2] at kj
    simp only [ki, kj] at k
    exact k
  · refine list_left I k g o hz ho ?_ (by rw [List.length_map, h2.length_eq]; omega) fun hn => q ys p h2 h3 hn
    rw [h1]
    exact vals_refs ys
end
end Gk
namespace Pf
open PySem PySem.Spec PyProof.Rows L2 Gk Fold
/-! ### cells in their order; sets of cells -/
def encK : L2.Key → Int ⊕ List Nat
  | .inl i => .inl i
  | .inr s => .inr s.cps.toList
def encC : CK → List (Int ⊕ List Nat)
  | .inl q => [encK q]
  | .inr q => q.map encK
def ckLe (c d : CK) : Prop := PyProof.Rows.lexLt PyProof.Rows.itemOrd (encC d) (encC c) = false
def ckLt (c d : CK) : Prop := ckLe c d ∧ c ≠ d
theorem str_cps {s t : Str} (h : s.cps.toList = t.cps.toList) : s = t := by
  cases s
  cases t
  exact congrArg Str.mk (Array.toList_inj.mp h)
theorem encK_inj {a b : L2.Key} (h : encK a = encK b) : a = b := by
  cases a <;> cases b
  · exact congrArg Sum.inl (Sum.inl.inj h)
  · cases h
  · cases h
  · exact congrArg Sum.inr (str_cps (Sum.inr.inj h))
theorem encKs_inj : ∀ {a b : List L2.Key}, a.map encK = b.map encK → a = b
  | [], [], _ => rfl
  | [], _ :: _, h => by cases h
  | _ :: _, [], h => by cases h
  | x :: a, y :: b, h => by
    rw [List.map_cons, List.map_cons] at h
    injection h with h1 h2
    rw [encK_inj h1, encKs_inj h2]
/-- the cells of one scheme: all numbers, all texts, or all pairs -/
theorem kinds {k : Str} {cs : List CK} (h : ∀ c ∈ cs, CellIs k c) : (k = "folded" ∧ ∃ is : List Int, cs = is.map fun i => (.inl (.inl i) : CK)) ∨ (¬ k = "folded" ∧ k = "shared" ∧ ∃ ss : List Str, cs = ss.map fun s => (.inl (.inr s) : CK)) ∨
    (¬ k = "folded" ∧ ¬ k = "shared" ∧ ∃ ps : List (Int × Str), cs = ps.map fun p => (.inr [.inl p.1, .inr p.2] : CK)) := by
  by_cases c1 : k = "folded"
  · refine .inl ⟨c1, ?_⟩
    induction cs with
    | nil => exact ⟨[], rfl⟩
    | cons c cs ih =>
      obtain ⟨is, rfl⟩ := ih fun d hd => h d (List.mem_cons_of_mem _ hd)
      obtain ⟨x, b, hs, e⟩ := h c List.mem_cons_self
      unfold cK at e
      rw [if_pos c1] at e
      exact ⟨_ :: is, by rw [e]; rfl⟩
  · by_cases c2 : k = "shared"
    · refine .inr (.inl ⟨c1, c2, ?_⟩)
      induction cs with
      | nil => exact ⟨[], rfl⟩
      | cons c cs ih =>
        obtain ⟨is, rfl⟩ := ih fun d hd => h d (List.mem_cons_of_mem _ hd)
        obtain ⟨x, b, hs, e⟩ := h c List.mem_cons_self
        unfold cK at e
        rw [if_neg c1, if_pos c2] at e
        exact ⟨_ :: is, by rw [e]; rfl⟩
    · refine .inr (.inr ⟨c1, c2, ?_⟩)
      induction cs with
      | nil => exact ⟨[], rfl⟩
      | cons c cs ih =>
        obtain ⟨is, rfl⟩ := ih fun d hd => h d (List.mem_cons_of_mem _ hd)
        obtain ⟨x, b, hs, e⟩ := h c List.mem_cons_self
        unfold cK at e
        rw [if_neg c1, if_neg c2] at e
        exact ⟨(_, _) :: is, by rw [e]; rfl⟩
theorem encC_inj {k : Str} {c d : CK} (hc : CellIs k c) (hd : CellIs k d) (h : encC c = encC d) : c = d := by
  obtain ⟨x, b, hs, rfl⟩ := hc
  obtain ⟨y, b', hs', rfl⟩ := hd
  unfold cK at h ⊢
  by_cases c1 : k = "folded"
  · rw [if_pos c1, if_pos c1] at h ⊢
    injection h with h _
    rw [encK_inj h]
  · rw [if_neg c1, if_neg c1] at h ⊢
    by_cases c2 : k = "shared"
    · rw [if_pos c2, if_pos c2] at h ⊢
      injection h with h _
      rw [encK_inj h]
    · rw [if_neg c2, if_neg c2] at h ⊢
      rw [encKs_inj h]
theorem ckLe_anti {k : Str} {c d : CK} (hc : CellIs k c) (hd : CellIs k d) (h1 : ckLe c d) (h2 : ckLe d c) : c = d := (encC_inj hd hc (PyProof.Rows.lex_total _ _ h1 h2)).symm
/-- one list in the order, whatever way it was made -/
theorem cells_same {k : Str} : ∀ {cs ds : List CK}, (∀ c ∈ cs, CellIs k c) → (∀ c ∈ ds, CellIs k c) → cs.Pairwise ckLt → ds.Pairwise ckLt → (∀ c, c ∈ cs ↔ c ∈ ds) → cs = ds
  | [], [], _, _, _, _, _ => rfl
  | [], d :: ds, _, _, _, _, h => absurd ((h d).mpr List.mem_cons_self) (by simp)
  | c :: cs, [], _, _, _, _, h => absurd ((h c).mp List.mem_cons_self) (by simp)
  | c :: cs, d :: ds, kc, kd, pc, pd, h => by
    obtain ⟨pc1, pc2⟩ := List.pairwise_cons.mp pc
    obtain ⟨pd1, pd2⟩ := List.pairwise_cons.mp pd
    have e : c = d := by
      rcases List.mem_cons.mp ((h c).mp List.mem_cons_self) with e | e
      · exact e
      · rcases List.mem_cons.mp ((h d).mpr List.mem_cons_self) with g | g
        · exact g.symm
        · exact absurd (ckLe_anti (kc c List.mem_cons_self) (kd d List.mem_cons_self) (pc1 _ g).1 (pd1 _ e).1) (pc1 _ g).2
    subst e
    refine congrArg (c :: ·) (cells_same (fun x hx => kc x (List.mem_cons_of_mem _ hx)) (fun x hx => kd x (List.mem_cons_of_mem _ hx)) pc2 pd2 fun x => ⟨fun hx => ?_, fun hx => ?_⟩)
    · rcases List.mem_cons.mp ((h x).mp (List.mem_cons_of_mem _ hx)) with g | g
      · exact absurd g.symm (pc1 _ hx).2
      · exact g
    · rcases List.mem_cons.mp ((h x).mpr (List.mem_cons_of_mem _ hx)) with g | g
      · exact absurd g.symm (pd1 _ hx).2
      · exact g
theorem ck_lt {cs : List CK} (le : cs.Pairwise ckLe) (nd : cs.Nodup) : cs.Pairwise ckLt := (le.and nd).imp fun h => h
theorem ints_ord {ys : List Int} (h : ys.Pairwise (· ≤ ·)) : (ys.map fun i => (.inl (.inl i) : CK)).Pairwise ckLe := by
  rw [List.pairwise_map]
  refine h.imp fun {x y} h => PyProof.Rows.lex_false.mpr ⟨decide_eq_false (show ¬ y < x from by omega), .inr rfl⟩
theorem rising_all : ∀ {ys : List Str} {p : Str}, risingS p ys = true → (∀ y ∈ ys, ¬ y.cps.toList < p.cps.toList) ∧ ys.Pairwise fun x y => ¬ y.cps.toList < x.cps.toList
  | [], _, _ => ⟨fun _ h => (nomatch h), List.Pairwise.nil⟩
  | y :: ys, p, h => by
    rw [risingS, Bool.and_eq_true, Bool.not_eq_true', PyProof.Rows.ltCps_eq, decide_eq_false_iff_not] at h
    obtain ⟨h1, h2⟩ := rising_all h.2
    refine ⟨fun z hz => ?_, List.pairwise_cons.mpr ⟨h1, h2⟩⟩
    rcases List.mem_cons.mp hz with rfl | hz
    · exact h.1
    · exact fun lt => h.1 (List.lt_of_le_of_lt (List.not_lt.mp (h1 z hz)) lt)
theorem strs_ord {ys : List Str} (h : sortedS ys = true) : (ys.map fun s => (.inl (.inr s) : CK)).Pairwise ckLe := by
  rw [List.pairwise_map]
  have p : ys.Pairwise fun x y => ¬ y.cps.toList < x.cps.toList := by
    cases ys with
    | nil => exact List.Pairwise.nil
    | cons y ys =>
      obtain ⟨h1, h2⟩ := rising_all (show risingS y ys = true from h)
      exact List.pairwise_cons.mpr ⟨h1, h2⟩
  exact p.imp fun {x y} h => PyProof.Rows.lex_false.mpr ⟨decide_eq_false h, .inr rfl⟩
/-- values that are these cells -/
def KeysAt (H : Hp) (vs : List V) (cs : List CK) : Prop := vs.length = cs.length ∧ ∀ (i : Nat) (v : V) (c : CK), vs[i]? = some v → cs[i]? = some c → KeyV H v c
theorem KeysAt.same {H H' : Hp} {vs : List V} {cs : List CK} (h : KeysAt H vs cs) (s : ∀ b ts, H b = some (.tup ts) → H' b = some (.tup ts)) : KeysAt H' vs cs := ⟨h.1, fun i v c e1 e2 => (h.2 i v c e1 e2).same s⟩
theorem KeysAt.at_ {H : Hp} {vs : List V} {cs : List CK} (h : KeysAt H vs cs) {i : Nat} {v : V} (e : vs[i]? = some v) : ∃ c, cs[i]? = some c ∧ KeyV H v c := by
  have il : i < cs.length := by
    have := (List.getElem?_eq_some_iff.mp e).1
    have := h.1
    omega
  exact ⟨cs[i], List.getElem?_eq_getElem il, h.2 i v _ e (List.getElem?_eq_getElem il)⟩
theorem KeysAt.nil {H : Hp} : KeysAt H [] [] := ⟨rfl, fun i v c e => by simp at e⟩
theorem KeysAt.cons {H : Hp} {v : V} {c : CK} {vs : List V} {cs : List CK} (h1 : KeyV H v c) (h2 : KeysAt H vs cs) : KeysAt H (v :: vs) (c :: cs) := ⟨congrArg Nat.succ h2.1, fun i u d e1 e2 => by
  cases i with
  | zero =>
    obtain rfl := Option.some.inj e1
    obtain rfl := Option.some.inj e2
    exact h1
  | succ i => exact h2.2 i u d e1 e2⟩
theorem KeysAt.head {H : Hp} {v : V} {c : CK} {vs : List V} {cs : List CK} (h : KeysAt H (v :: vs) (c :: cs)) : KeyV H v c ∧ KeysAt H vs cs := ⟨h.2 0 v c rfl rfl, Nat.succ.inj h.1, fun i u d e1 e2 => h.2 (i + 1) u d e1 e2⟩
theorem keys_map {α : Type} {H : Hp} {f : α → V} {g : α → CK} : ∀ {l : List α}, (∀ x ∈ l, KeyV H (f x) (g x)) → KeysAt H (l.map f) (l.map g)
  | [], _ => KeysAt.nil
  | x :: l, h => KeysAt.cons (h x List.mem_cons_self) (keys_map fun y hy => h y (List.mem_cons_of_mem _ hy))
theorem keys_ints {H : Hp} : ∀ {is : List Int} {vs : List V}, KeysAt H vs (is.map fun i => (.inl (.inl i) : CK)) → vs = is.map V.int
  | [], [], _ => rfl
  | [], _ :: _, h => by cases h.1
  | _ :: _, [], h => by cases h.1
  | i :: is, v :: vs, h => by
    obtain ⟨h1, h2⟩ := h.head
    rw [keys_ints h2, show v = V.int i from h1]
    rfl
theorem keys_strs {H : Hp} : ∀ {ss : List Str} {vs : List V}, KeysAt H vs (ss.map fun s => (.inl (.inr s) : CK)) → vs = ss.map V.str
  | [], [], _ => rfl
  | [], _ :: _, h => by cases h.1
  | _ :: _, [], h => by cases h.1
  | i :: is, v :: vs, h => by
    obtain ⟨h1, h2⟩ := h.head
    rw [keys_strs h2, show v = V.str i from h1]
    rfl
theorem keys_tups {H : Hp} : ∀ {ps : List (Int × Str)} {vs : List V}, KeysAt H vs (ps.map fun p => (.inr [.inl p.1, .inr p.2] : CK)) → ∃ bs : List Addr, vs = bs.map V.ref ∧ bs.length = ps.length ∧ ∀ (i : Nat) (b : Addr), bs[i]? = some b → ∃ p, ps[i]? = some p ∧ H b = some (.tup [.int p.1, .str p.2])
  | [], [], _ => ⟨[], rfl, rfl, fun i b e => by simp at e⟩
  | [], _ :: _, h => by cases h.1
  | _ :: _, [], h => by cases h.1
  | p :: ps, v :: vs, h => by
    obtain ⟨h1, h2⟩ := h.head
    obtain ⟨bs, rfl, l, f⟩ := keys_tups h2
    obtain ⟨b, rfl, hb⟩ := h1
    refine ⟨b :: bs, rfl, congrArg Nat.succ l, fun i c e => ?_⟩
    cases i with
    | zero =>
      obtain rfl := Option.some.inj e
      exact ⟨p, rfl, hb⟩
    | succ i => exact f i c e
/-! ### set(cells) -/
structure rSet3 (K : PySem.W.Frag) (w : World) (xs : List V) (H : Hp) (Q : VK) : Prop where
  out : rSetK K w xs H Q ∨ rSetT K w xs H Q
theorem cr_set3 {X : Cx} (hc : X.calm = true) (hu : X.A.units + 64 < cLine) : CallR X (.type "set") (rSet3 X.K X.w) := fun pins s σ H xs us Q I r h => CallR.either (cr_setK hc) (cr_setT hc hu) pins s σ H xs us Q I r h.out
theorem set_cells {K : PySem.W.Frag} {w : World} {H : Hp} {l : Addr} {vs : List V} {cs : List CK} {k : Str} {Q : VK} (hl : SqL K H l vs) (ks : KeysAt H vs cs) (cells : ∀ c ∈ cs, CellIs k c) (few : cs.length < 64)
    (q : ∀ (p : Addr) (us : List V) (ds : List CK), H p = none → KeysAt H us ds → ds.Nodup → (∀ c, c ∈ ds ↔ c ∈ cs) → Q (.ref p) (upd H p (SetVO w p us))) : rSet3 K w [.ref l] H Q := by
  constructor
  have one : ∀ {qs : List L2.Key}, vs = qs.map kV → cs = qs.map Sum.inl → rSetK K w [.ref l] H Q := fun {qs} ev ec => by
    refine ⟨l, qs, rfl, by rw [← ev]; exact hl, by rw [ec, List.length_map] at few; omega, fun p js np nd m => q p (js.map kV) (js.map Sum.inl) np (keys_map fun x _ => rfl) ?_ fun c => ?_⟩
    · exact List.pairwise_map.mpr (nd.imp fun ne e => ne (Sum.inl.inj e))
    · rw [ec, List.mem_map, List.mem_map]
      exact ⟨fun ⟨x, hx, e⟩ => ⟨x, (m x).mp hx, e⟩, fun ⟨x, hx, e⟩ => ⟨x, (m x).mpr hx, e⟩⟩
  rcases kinds cells with ⟨_, is, rfl⟩ | ⟨_, _, ss, rfl⟩ | ⟨_, _, ps, rfl⟩
  · exact .inl (one (qs := is.map Sum.inl) (by rw [keys_ints ks, List.map_map]; rfl) (by rw [List.map_map]; rfl))
  · exact .inl (one (qs := ss.map Sum.inr) (by rw [keys_strs ks, List.map_map]; rfl) (by rw [List.map_map]; rfl))
  · obtain ⟨bs, rfl, lb, f⟩ := keys_tups ks
    rw [List.length_map] at few
    have lz : (bs.zip (ps.map fun p => ([.inl p.1, .inr p.2] : List L2.Key))).length = bs.length := by rw [List.length_zip, List.length_map]; omega
    have fst : (bs.zip (ps.map fun p => ([.inl p.1, .inr p.2] : List L2.Key))).map (·.1) = bs := List.map_fst_zip (by rw [List.length_map]; omega)
    have snd : (bs.zip (ps.map fun p => ([.inl p.1, .inr p.2] : List L2.Key))).map (·.2) = ps.map fun p => ([.inl p.1, .inr p.2] : List L2.Key) := List.map_snd_zip (by rw [List.length_map]; omega)
    have here : ∀ e ∈ bs.zip (ps.map fun p => ([.inl p.1, .inr p.2] : List L2.Key)), H e.1 = some (.tup (e.2.map kV)) := fun e he => by
      obtain ⟨i, hi⟩ := List.mem_iff_getElem?.mp he
      rw [List.getElem?_zip_eq_some, List.getElem?_map] at hi
      obtain ⟨p, hp, hb⟩ := f i e.1 hi.1
      have e2 := hi.2
      rw [hp] at e2
      rw [← Option.some.inj e2]
      exact hb
    generalize hz : bs.zip (ps.map fun p => ([.inl p.1, .inr p.2] : List L2.Key)) = all at lz fst snd here
    refine .inr ⟨l, all, rfl, ?_, fun e he => .inl (.inl (here e he)), by omega, fun p L np nd sub sup => q p _ (L.map fun e => .inr e.2) np (keys_map fun e he => ⟨e.1, rfl, here e (sub e he)⟩) ?_ fun c => ?_⟩
    · rw [← fst, List.map_map] at hl
      exact hl
    · exact List.pairwise_map.mpr ((List.pairwise_map.mp nd).imp fun ne e => ne (Sum.inr.inj e))
    · have ec : (ps.map fun p => (.inr [.inl p.1, .inr p.2] : CK)) = all.map fun e => .inr e.2 := by
        have := congrArg (List.map fun q => (.inr q : CK)) snd
        rw [List.map_map, List.map_map] at this
        exact this.symm
      rw [ec, List.mem_map, List.mem_map]
      constructor
      · rintro ⟨e, he, rfl⟩
        exact ⟨e, sub e he, rfl⟩
      · rintro ⟨e, he, rfl⟩
        obtain ⟨g, hg, eg⟩ := List.mem_map.mp (sup e he)
        exact ⟨g, hg, by rw [eg]⟩
/-! ### sorted(set(cells)) -/
structure rSortS3 (w : World) (xs : List V) (H : Hp) (Q : VK) : Prop where
  out : rSortSI w xs H Q ∨ (rSortSS w xs H Q ∨ rSortSP w xs H Q)
theorem cr_sortS3 {X : Cx} (hc : X.calm = true) : CallR X (.builtin "sorted") (rSortS3 X.w) := fun pins s σ H xs us Q I r h => CallR.either (cr_sortSI hc) (CallR.either (cr_sortSS hc) (cr_sortSP hc)) pins s σ H xs us Q I r h.out
/-- tuples in their order, as cells -/
theorem tups_ord {H : Hp} {ps : List (Int × Str)} {bs ys : List Addr} (lb : bs.length = ps.length) (f : ∀ (i : Nat) (b : Addr), bs[i]? = some b → ∃ p, ps[i]? = some p ∧ H b = some (.tup [.int p.1, .str p.2])) (pm : ys.Perm bs) (pw : ys.Pairwise (TupLe H)) :
    ∃ qs : List (Int × Str), qs.Perm ps ∧ KeysAt H (ys.map V.ref) (qs.map fun p => (.inr [.inl p.1, .inr p.2] : CK)) ∧ (qs.map fun p => (.inr [.inl p.1, .inr p.2] : CK)).Pairwise ckLe := by
  let g : Addr → Int × Str := fun b => match H b with
    | some (.tup [.int i, .str t]) => (i, t)
    | _ => (0, Str.empty)
  have gb : ∀ {b : Addr} {p : Int × Str}, H b = some (.tup [.int p.1, .str p.2]) → g b = p := fun {b p} h => by
    show (match H b with
      | some (.tup [.int i, .str t]) => (i, t)
      | _ => (0, Str.empty)) = p
    rw [h]
  have eb : bs.map g = ps := by
    refine List.ext_getElem? fun i => ?_
    rw [List.getElem?_map]
    cases e : bs[i]? with
    | none =>
      rw [List.getElem?_eq_none (by have := List.getElem?_eq_none_iff.mp e; omega)]
      rfl
    | some b =>
      obtain ⟨p, h1, h2⟩ := f i b e
      rw [h1]
      exact congrArg some (gb h2)
  have here : ∀ y ∈ ys, H y = some (.tup [.int (g y).1, .str (g y).2]) := fun y hy => by
    obtain ⟨i, hi⟩ := List.mem_iff_getElem?.mp (pm.mem_iff.mp hy)
    obtain ⟨p, _, h⟩ := f i y hi
    rw [gb h]
    exact h
  refine ⟨ys.map g, eb ▸ pm.map g, ?_, ?_⟩
  · rw [List.map_map]
    exact keys_map fun y hy => ⟨y, rfl, here y hy⟩
  · rw [List.map_map, List.pairwise_map]
    exact pw.imp_of_mem fun {x y} hx hy h => h _ _ _ _ (here x hx) (here y hy)
theorem sort_cells {w : World} {H : Hp} {a : Addr} {us : List V} {ds : List CK} {k : Str} {Q : VK} (ha : H a = some (SetVO w a us)) (ks : KeysAt H us ds) (cells : ∀ c ∈ ds, CellIs k c) (nd : ds.Nodup) (few : ds.length < 64)
    (q : ∀ (vs : List V) (cs : List CK) (p : Addr), cs.Perm ds → cs.Pairwise ckLt → KeysAt H vs cs → H p = none → Q (.ref p) (upd H p (.lst vs))) : rSortS3 w [.ref a] H Q := by
  constructor
  rcases kinds cells with ⟨_, is, rfl⟩ | ⟨_, _, ss, rfl⟩ | ⟨_, _, ps, rfl⟩
  · rw [List.length_map] at few
    rw [keys_ints ks] at ha
    exact .inl ⟨a, is, rfl, ha, few, fun ys p pm pw np => q _ (ys.map fun i => .inl (.inl i)) p (pm.map _) (ck_lt (ints_ord pw) ((pm.map _).nodup_iff.mpr nd)) (keys_map fun _ _ => rfl) np⟩
  · rw [List.length_map] at few
    rw [keys_strs ks] at ha
    exact .inr (.inl ⟨a, ss, rfl, ha, few, fun ys p pm pw np => q _ (ys.map fun i => .inl (.inr i)) p (pm.map _) (ck_lt (strs_ord pw) ((pm.map _).nodup_iff.mpr nd)) (keys_map fun _ _ => rfl) np⟩)
  · rw [List.length_map] at few
    obtain ⟨bs, rfl, lb, f⟩ := keys_tups ks
    refine .inr (.inr ⟨a, bs, rfl, ha, by omega, fun y hy => ?_, fun ys p pm pw np => ?_⟩)
    · obtain ⟨i, hi⟩ := List.mem_iff_getElem?.mp hy
      obtain ⟨p, _, h⟩ := f i y hi
      exact ⟨_, _, h⟩
    · obtain ⟨qs, pq, kq, oq⟩ := tups_ord lb f pm pw
      exact q _ _ p (pq.map _) (ck_lt oq ((pq.map _).nodup_iff.mpr nd)) kq np
/-! ### sorted(dict of cells), its order told -/
theorem map_inl {α β : Type} {l : List α} {m : List β} {f : α → L2.Key} {g : β → L2.Key} (h : (l.map fun x => (.inl (f x) : CK)) = m.map fun y => (.inl (g y) : CK)) : l.map f = m.map g := by
  have := congrArg (List.map fun c : CK => match c with | .inl q => q | .inr _ => .inl 0) h
  rw [List.map_map, List.map_map] at this
  exact this
theorem map_inr {α β : Type} {l : List α} {m : List β} {f : α → List L2.Key} {g : β → List L2.Key} (h : (l.map fun x => (.inr (f x) : CK)) = m.map fun y => (.inr (g y) : CK)) : l.map f = m.map g := by
  have := congrArg (List.map fun c : CK => match c with | .inl _ => [] | .inr q => q) h
  rw [List.map_map, List.map_map] at this
  exact this
theorem keys_of {H : Hp} {kvs : List (List L2.Key × V)} {bs : List Addr} {ps : List (Int × Str)} (ik : IsKeys H kvs bs) (ek : kvs.map (·.1) = ps.map fun p => ([.inl p.1, .inr p.2] : List L2.Key)) : ∀ (i : Nat) (b : Addr), bs[i]? = some b → ∃ p, ps[i]? = some p ∧ H b = some (.tup [.int p.1, .str p.2]) := by
  unfold IsKeys at ik
  induction ik generalizing ps with
  | nil => exact fun i b h => by simp at h
  | @cons g y kvs bs h1 _ ih =>
    intro i b hb
    cases ps with
    | nil => cases ek
    | cons r ps =>
      rw [List.map_cons, List.map_cons] at ek
      injection ek with ek1 ek2
      cases i with
      | zero =>
        obtain rfl := Option.some.inj hb
        refine ⟨r, rfl, ?_⟩
        rw [ek1] at h1
        exact h1
      | succ i => exact ih ek2 i b hb
theorem DK.sortedO {H : Hp} {a : Addr} {k : Str} {f : CK → Option V} {ks : List CK} {Q : VK} (d : DK H a k f ks) (cells : ∀ c ∈ ks, CellIs k c) (nd : ks.Nodup) (few : ks.length < 64)
    (q : ∀ (vs : List V) (cs : List CK) (p : Addr), cs.Perm ks → cs.Pairwise ckLt → KeysAt H vs cs → H p = none → Q (.ref p) (upd H p (.lst vs))) : rSorted3 [.ref a] H Q := by
  constructor
  rcases kinds cells with ⟨c1, is, ei⟩ | ⟨c1, c2, ss, ei⟩ | ⟨c1, c2, ps, ei⟩
  · have tf : tupK k = false := by unfold tupK; rw [c1]; decide +kernel
    rcases d with ⟨_, kvs, e, em, _⟩ | ⟨t, _⟩
    · have ek : kvs.map (·.1) = is.map Sum.inl := by
        rw [ei] at em
        exact map_inl em
      rw [ei, List.length_map] at few
      rw [ei] at nd
      exact .inl ⟨a, kvs, is, rfl, .inl e, ek, few, fun ys p pm pw np => q _ (ys.map fun i => .inl (.inl i)) p (by rw [ei]; exact pm.map _) (ck_lt (ints_ord pw) ((pm.map _).nodup_iff.mpr nd)) (keys_map fun _ _ => rfl) np⟩
    · rw [tf] at t
      cases t
  · have tf : tupK k = false := by unfold tupK; rw [c2]; decide +kernel
    rcases d with ⟨_, kvs, e, em, _⟩ | ⟨t, _⟩
    · have ek : kvs.map (·.1) = ss.map Sum.inr := by
        rw [ei] at em
        exact map_inl em
      rw [ei, List.length_map] at few
      rw [ei] at nd
      exact .inr (.inl ⟨a, kvs, ss, rfl, .inl e, ek, few, fun ys p pm pw np => q _ (ys.map fun i => .inl (.inr i)) p (by rw [ei]; exact pm.map _) (ck_lt (strs_ord pw) ((pm.map _).nodup_iff.mpr nd)) (keys_map fun _ _ => rfl) np⟩)
    · rw [tf] at t
      cases t
  · have tt : tupK k = true := by unfold tupK; rw [decide_eq_false c1, decide_eq_false c2]; rfl
    rcases d with ⟨t, _⟩ | ⟨_, kvs, e, em, _⟩
    · rw [tt] at t
      cases t
    · have ek : kvs.map (·.1) = ps.map fun p => ([.inl p.1, .inr p.2] : List L2.Key) := by
        rw [ei] at em
        exact map_inr em
      have lk : kvs.length = ps.length := by
        have := congrArg List.length ek
        rwa [List.length_map, List.length_map] at this
      rw [ei, List.length_map] at few
      rw [ei] at nd
      refine .inr (.inr ⟨a, kvs, rfl, e, fun g hg => ?_, by omega, fun bs ys p ik pm pw np => ?_⟩)
      · have : g.1 ∈ ps.map fun p => ([.inl p.1, .inr p.2] : List L2.Key) := by rw [← ek]; exact List.mem_map.mpr ⟨g, hg, rfl⟩
        obtain ⟨r, _, er⟩ := List.mem_map.mp this
        exact ⟨r.1, r.2, er.symm⟩
      · have lb : bs.length = ps.length := by rw [← lk]; exact (Paired.length ik).symm
        have f := keys_of ik ek
        obtain ⟨qs, pq, kq, oq⟩ := tups_ord lb f pm pw
        rw [ei] at q
        exact q _ _ p (pq.map _) (ck_lt oq ((pq.map _).nodup_iff.mpr nd)) kq np
end Pf
/-! readings with the fragment given: within comprehensions, and comprehensions within them -/
namespace Gk
open PySem PySem.Spec PyProof.Rows L2
theorem mt_lcountK {X : Cx} (K : PySem.W.Frag) (h : X.K = K := by rfl) : MtR X "list.count" (rCntI K) := by
  subst h
  exact mt_lcount
theorem pi_listK {X : Cx} {tg l : Expr} {tl : TE} (K : PySem.W.Frag) (hl : PE X l tl) (h : X.K = K := by rfl) : PI X tg l (iList K tl) := by
  subst h
  exact pi_list hl
theorem pi_tupK {X : Cx} {tg l : Expr} {tl : TE} (K : PySem.W.Frag) (hl : PE X l tl) (h : X.K = K := by rfl) : PI X tg l (iTup K tl) := by
  subst h
  exact pi_tup hl
section
variable {X : Cx} {o e : Expr} {es : List Expr} {to : TE} {t : TA} {name : Str} {apos cpos : Pos} {T id : String} {r : V → List V → Hp → VK → Prop}
theorem pe_bmK (K : PySem.W.Frag) (pa : PlainAttrs T) (slot : Slot T name id) (hty : typeOf (.builtin id) = pure (.type "method_descriptor")) (hm : MtR X id r) (ho : PE X o to) (ha : PA X (e :: es) t) (h : X.K = K := by rfl)
    (hbase : attributeBase o name X.env (eval o X.env) = eval o X.env := by rfl)
    (hfew : ((backTo cpos (starEach (e :: es) X.env)).all (fun x => !x.1) && (backToKw cpos (keywordEach [] X.env)).all (fun x => x.1.isSome)
      && decide ((e :: es).length + ([] : List Keyword).length + (if ([] : List Keyword).isEmpty then 0 else 1) < 30)) = true := by rfl)
    (hline : (apos.endLine == cpos.line) = true := by rfl) (hs : starEach (e :: es) X.env = (false, eval e X.env) :: starEach es X.env := by rfl) (hplain : (backTo cpos (starEach es X.env)).any (·.1) = false := by rfl) :
    PE X (.Call (.Attribute o name apos) (e :: es) [] cpos) (tBM K T r to t) := by
  subst h
  exact pe_bm pa slot hty hm ho ha hbase hfew hline hs hplain
end
end Gk
/-! tuple(..), list(..), dict(..) with the fragment given -/
namespace Gk
open PySem PySem.Spec PyProof.Rows L2
def rTupOf (K : PySem.W.Frag) : List V → Hp → VK → Prop := fun xs H Q => ∃ p ys, xs = [.ref p] ∧ ((SqL K H p ys ∧ ∀ l, H l = none → Q (.ref l) (upd H l (.tup ys))) ∨ (SqT K H p ys ∧ Q (.ref p) H))
theorem call_tupleK {X : Cx} (K : PySem.W.Frag) (h : X.K = K := by rfl) : CallR X (.type "tuple") (rTupOf K) := by
  subst h
  exact call_tuple_of
def rLstOf (K : PySem.W.Frag) : List V → Hp → VK → Prop := fun xs H Q => ∃ p ys, xs = [.ref p] ∧ (SqL K H p ys ∨ SqT K H p ys) ∧ ∀ l, H l = none → Q (.ref l) (upd H l (.lst ys))
theorem call_listK {X : Cx} (K : PySem.W.Frag) (h : X.K = K := by rfl) : CallR X (.type "list") (rLstOf K) := by
  subst h
  exact call_list_of
def rDictP (K : PySem.W.Frag) : List V → Hp → VK → Prop := fun xs H Q => ∃ (a : Addr) (ps : List Addr) (kvs : List (L2.Key × V)), xs = [.ref a] ∧ SqL K H a (ps.map V.ref) ∧ Paired (fun p kv => SqT K H p [kV kv.1, kv.2]) ps kvs ∧ ∀ p, H p = none → Q (.ref p) (upd H p (.dK (mergeK [] kvs)))
/-- dict(l), the keys numbers, texts, or tuples of those -/
theorem call_dict2K {X : Cx} (K : PySem.W.Frag) (hc : X.calm = true) (hu : X.A.units + 2 < cLine) (h : X.K = K := by rfl) : CallR X (.type "dict") (fun xs H Q => rDictP K xs H Q ∨ rDictT K xs H Q) := by
  subst h
  exact CallR.either (call_dictP hc) (cr_dictT hc hu)
end Gk
namespace Gk
open PySem PySem.Spec PyProof.Rows L2
/-! ### a list from a tuple, its place told apart from the table of modules -/
def rLstN (K : PySem.W.Frag) : List V → Hp → VK → Prop := fun xs H Q => ∃ p ys, xs = [.ref p] ∧ SqT K H p ys ∧ ∀ l, H l = none → (l == sysModules) = false → Q (.ref l) (upd H l (.lst ys))
theorem call_listN {X : Cx} : CallR X (.type "list") (rLstN X.K) := by
  intro pins s σ H xs us Q I r h
  obtain ⟨p, ys, rfl, hq, q⟩ := h
  obtain ⟨u, rfl, rx⟩ := vals1 r
  cases rx
  obtain ⟨its, r', pl, hz⟩ := I.tuple hq
  have hlen := r'.length
  obtain ⟨o, ho, hc, n, hd⟩ := pl
  refine call_list_seq p (.inr rfl) ho hc hd (fun h' c' kp e => ?_) (by simp only [List.size_toArray] <;> omega)
  exact ⟨.ref s.heap.objs.size, _, I.laid (t' := s.toks) kp (Nat.le_refl _) (show ObjOk X.prog X.w _ h' _ (.lst ys) from ⟨hz, its, c', r', e⟩), rfl, q _ (I.hok.fresh (Nat.le_refl _)) (not_modules I)⟩
/-! ### readings, taken apart -/
theorem go_op {r : R2} {ta tb : TE} {σ : L2.St} {H : Hp} {Q : VK} (h : ta σ H fun x H1 => tb σ H1 fun y H2 => r x y H2 Q) : tOp r ta tb σ H Q := h
theorem go_ret {te : TE} {D : Ends} {σ : L2.St} {H : Hp} (h : te σ H D.rt) : tRet te D σ H := h
theorem go_asg {te : TE} {g : TG} {u : TS} {D : Ends} {σ : L2.St} {H : Hp} (h : te σ H fun v H' => g v σ H' (u D)) : tSeq (tAsg te g) u D σ H := h
theorem go_as {te : TE} {g : TG} {D : Ends} {σ : L2.St} {H : Hp} (h : te σ H fun v H' => g v σ H' D.nx) : tAsg te g D σ H := h
theorem go_name {i : Nat} {v : V} {σ : L2.St} {H : Hp} {Q : L2.St → Hp → Prop} (h : Q (σ.set i (some v)) H) : gName i v σ H Q := h
section
variable {M : Addr → Prop} {K : PySem.W.Frag} {σ : L2.St} {H H0 : Hp}
theorem tup_of {v : V} {ds : List PyData} (h : Dv M K H v (.tuple ds)) : ∃ a xs, v = .ref a ∧ SqT K H a xs ∧ (∀ H', Off M H H' → SqT K H' a xs) ∧ DvAll M K H xs ds := by
  cases h with
  | tup h n r => exact ⟨_, _, rfl, .inl h, fun H' k => .inl (k.rd n h), r⟩
  | tupK h r => exact ⟨_, _, rfl, .inr h, fun _ _ => .inr h, r⟩
theorem sq_tup {a : Addr} {xs : List V} (h : H a = some (.tup xs)) : SqT K H a xs := .inl (.inl h)
/-- a tuple that other rules made, as data -/
theorem dv_sq {a : Addr} {xs : List V} {ds : List PyData} (h : SqT K H a xs) (n : ¬ M a) (r : DvAll M K H xs ds) : Dv M K H (.ref a) (.tuple ds) := h.elim (fun h => .tup h n r) fun h => .tupK h r
/-- two tuples joined -/
theorem cat_go {x y : V} {ds es : List PyData} {Q : VK} (hx : Dv M K H x (.tuple ds)) (hy : Dv M K H y (.tuple es)) (l : ds.length + es.length ≤ 1000000) (z : Stands M H)
    (q : ∀ v H', Same H H' → Dv M K H' v (.tuple (ds ++ es)) → Q v H') : rCatA K x y H Q := by
  obtain ⟨a, xs, rfl, ha, na, da⟩ := tup_of hx
  obtain ⟨b, ys, rfl, hb, nb, db⟩ := tup_of hy
  have l1 := da.len
  have l2 := db.len
  refine ⟨a, b, xs, ys, rfl, rfl, ha, hb, by rw [sizeLine_eq]; omega, fun e => ?_, fun _ e => ?_, fun _ _ p n => q _ _ (same_new n) (.tup (.inl upd_same) (z.new n) ((da.app db).off (Off.same (same_new n))))⟩
  · subst e
    cases da
    exact q _ _ (Same.refl _) hy
  · subst e
    cases db
    rw [List.append_nil] at q
    exact q _ _ (Same.refl _) hx
theorem mk_cat {t u : TE} {ds es : List PyData} (h : Mk M K t σ H0 (.tuple ds)) (g : Mk M K u σ H0 (.tuple es)) (l : ds.length + es.length ≤ 1000000) : Mk M K (tOp (rCatA K) t u) σ H0 (.tuple (ds ++ es)) := fun H M' Q s u' w z q =>
  h H M' _ s u' w z fun v1 H1 s1 d1 => g H1 M' _ (s.trans s1) u' w (z.same s1) fun v2 H2 s2 d2 => cat_go (d1.off (Off.same s2)) d2 l ((z.same s1).same s2) fun v H' s3 d3 => q _ _ ((s1.trans s2).trans s3) d3
/-- a bound that is read -/
def Pt (tl : TO) (σ : L2.St) (o : Option Int) : Prop := ∀ H Q, Q o H → tl σ H Q
theorem pt_none : Pt tNoPart σ none := fun _ _ q => q
theorem pt_v {i : Nat} {n : Int} (e : σ[i]? = some (some (.int n))) : Pt (tPart (tVar i)) σ (some n) := fun _ _ q => ⟨_, e, n, rfl, q⟩
theorem pt_v1 {i : Nat} {n : Int} (e : σ[i]? = some (some (.int n))) : Pt (tPart (tOp (rI0 fun i j => .int (i + j)) (tVar i) (tC (.int 1)))) σ (some (n + 1)) := fun _ _ q => ⟨_, e, n, 1, rfl, rfl, _, rfl, q⟩
def cutD {α : Type} (xs : List α) (lo hi : Option Int) : List α := (xs.drop (HT.sIx xs.length 0 lo)).take (HT.sIx xs.length xs.length hi - HT.sIx xs.length 0 lo)
theorem cutD_to {α : Type} {xs : List α} (n : Nat) : cutD xs none (some (n : Int)) = xs.take n := by
  unfold cutD
  rw [HT.sIx_none, HT.sIx_nat]
  show ((xs.drop 0).take (min n xs.length - 0)) = _
  rw [List.drop_zero, Nat.sub_zero, Nat.min_comm, List.take_eq_take_iff]
  omega
theorem cutD_from {α : Type} {xs : List α} (n : Nat) : cutD xs (some (n : Int)) none = xs.drop n := by
  unfold cutD
  rw [HT.sIx_none, HT.sIx_nat]
  by_cases h : n ≤ xs.length
  · rw [Nat.min_eq_left h, List.take_of_length_le (by rw [List.length_drop]; exact Nat.le_refl _)]
  · rw [Nat.min_eq_right (by omega), List.drop_eq_nil_of_le (Nat.le_refl _), List.drop_eq_nil_of_le (by omega)]
    exact List.take_nil
theorem mk_cut {t : TE} {tl th : TO} {lo hi : Option Int} {ds : List PyData} (h : Mk M K t σ H0 (.tuple ds)) (pl : Pt tl σ lo) (ph : Pt th σ hi) : Mk M K (tSl (rSlA K) t tl th) σ H0 (.tuple (cutD ds lo hi)) := fun H M' Q s u w z q =>
  h H M' _ s u w z fun v1 H1 s1 d1 => pl _ _ (ph _ _ (by
    obtain ⟨a, xs, rfl, ha, na, da⟩ := tup_of d1
    have l1 := da.len
    refine ⟨a, xs, rfl, ha, fun e => ?_, fun _ p n => q _ _ (s1.trans (same_new n)) (.tup (.inl upd_same) ((z.same s1).new n) ?_)⟩
    · have : cutD ds lo hi = ds := by
        unfold cutD
        rw [← l1, e.1, e.2, List.drop_zero, Nat.sub_zero]
        exact List.take_of_length_le (Nat.le_of_eq l1.symm)
      rw [this] at q
      exact q _ _ s1 d1
    · refine DvAll.off ?_ (Off.same (same_new n))
      unfold cutV cutD
      rw [l1]
      exact (da.drop _).take _))
theorem mk_to {t : TE} {tl th : TO} {n : Nat} {ds : List PyData} (h : Mk M K t σ H0 (.tuple ds)) (pl : Pt tl σ none) (ph : Pt th σ (some (n : Int))) : Mk M K (tSl (rSlA K) t tl th) σ H0 (.tuple (ds.take n)) := by
  have := mk_cut h pl ph
  rwa [cutD_to] at this
theorem mk_from {t : TE} {tl th : TO} {n : Nat} {ds : List PyData} (h : Mk M K t σ H0 (.tuple ds)) (pl : Pt tl σ (some (n : Int))) (ph : Pt th σ none) : Mk M K (tSl (rSlA K) t tl th) σ H0 (.tuple (ds.drop n)) := by
  have := mk_cut h pl ph
  rwa [cutD_from] at this
theorem mk_rev {t : TE} {ds : List PyData} (h : Mk M K t σ H0 (.tuple ds)) : Mk M K (tRevU K t) σ H0 (.tuple ds.reverse) := fun H M' Q s u w z q =>
  h H M' _ s u w z fun v1 H1 s1 d1 => by
    obtain ⟨a, xs, rfl, ha, na, da⟩ := tup_of d1
    exact ⟨a, xs, rfl, ha, fun p n => q _ _ (s1.trans (same_new n)) (.tup (.inl upd_same) ((z.same s1).new n) (da.rev.off (Off.same (same_new n))))⟩
theorem mk_list {t : TE} {ds : List PyData} (h : Mk M K t σ H0 (.tuple ds)) : Mk M K (tCB (rLstN K) (tCons t tNil)) σ H0 (.list ds) := fun H M' Q s u w z q =>
  h H M' _ s u w z fun v1 H1 s1 d1 => by
    obtain ⟨a, xs, rfl, ha, na, da⟩ := tup_of d1
    exact ⟨a, xs, rfl, ha, fun p n y => q _ _ (s1.trans (same_new n)) (.lst upd_same ((z.same s1).new n) y (da.off (Off.same (same_new n))))⟩
/-- a plain value that is read -/
theorem mk_gv {t : TE} {v : V} {d : PyData} (g : ∀ H Q, Q v H → t σ H Q) (h : ∀ M H, Dv M K H v d) : Mk M K t σ H0 d := fun H M' Q s u w z q => g _ _ (q _ _ (Same.refl _) (h M' H))
end
/-! ### sizes -/
theorem int_cps (i : Int) : fin (.str (Str.ofString (toString i))) 0 = true := by
  simp only [fin, Array.all_eq_true', decide_eq_true_eq]
  intro c hc
  refine Nat.lt_of_not_le fun h => int_text_free' c ⟨by omega, .inr (by omega)⟩ i ?_
  exact Array.mem_toList_iff.mpr hc
mutual
theorem fin_mono {B C : Nat} (h : B ≤ C) : ∀ d : PyData, fin d B = true → fin d C = true
  | .none, _ => rfl
  | .bool _, _ => rfl
  | .int i, g => by
    simp only [fin, decide_eq_true_eq] at g ⊢
    omega
  | .str x, g => by simpa only [fin] using g
  | .list xs, g => by
    simp only [fin] at g ⊢
    exact fin_monoAll h xs g
  | .tuple xs, g => by
    simp only [fin] at g ⊢
    exact fin_monoAll h xs g
  | .dict kvs, g => by
    simp only [fin] at g ⊢
    exact fin_monoKv h kvs g
theorem fin_monoAll {B C : Nat} (h : B ≤ C) : ∀ ds : List PyData, finAll ds B = true → finAll ds C = true
  | [], _ => rfl
  | x :: xs, g => by
    simp only [finAll, Bool.and_eq_true] at g ⊢
    exact ⟨fin_mono h x g.1, fin_monoAll h xs g.2⟩
theorem fin_monoKv {B C : Nat} (h : B ≤ C) : ∀ kvs : List (PyData × PyData), finKv kvs B = true → finKv kvs C = true
  | [], _ => rfl
  | (k, v) :: r, g => by
    simp only [finKv, Bool.and_eq_true] at g ⊢
    exact ⟨⟨fin_mono h k g.1.1, fin_mono h v g.1.2⟩, fin_monoKv h r g.2⟩
end
theorem finAll_iff {B : Nat} : ∀ {ds : List PyData}, finAll ds B = true ↔ ∀ d ∈ ds, fin d B = true
  | [] => by simp [finAll]
  | x :: xs => by
    simp only [finAll, Bool.and_eq_true, List.mem_cons, forall_eq_or_imp]
    rw [finAll_iff]
theorem bigAll_app : ∀ ds es : List PyData, bigAll (ds ++ es) + 1 = bigAll ds + bigAll es
  | [], es => by simp only [List.nil_append, bigAll]; omega
  | d :: ds, es => by
    have := bigAll_app ds es
    simp only [List.cons_append, bigAll]
    omega
theorem bigAll_rev : ∀ ds : List PyData, bigAll ds.reverse = bigAll ds
  | [] => rfl
  | d :: ds => by
    have := bigAll_app ds.reverse [d]
    have h := bigAll_rev ds
    rw [List.reverse_cons]
    simp only [bigAll] at this ⊢
    omega
theorem bigAll_len : ∀ ds : List PyData, ds.length + 1 ≤ bigAll ds
  | [] => Nat.le_refl _
  | d :: ds => by
    have := bigAll_len ds
    simp only [List.length_cons, bigAll]
    omega
theorem bigAll_split (ds : List PyData) (n : Nat) : bigAll (ds.take n) + bigAll (ds.drop n) = bigAll ds + 1 := by
  have := bigAll_app (ds.take n) (ds.drop n)
  rw [List.take_append_drop] at this
  omega
theorem depthAll_iff {n : Nat} : ∀ {ds : List PyData}, PyData.depthAll ds ≤ n ↔ ∀ d ∈ ds, d.depth ≤ n
  | [] => by simp [PyData.depthAll]
  | x :: xs => by
    simp only [PyData.depthAll, List.mem_cons, forall_eq_or_imp]
    rw [← depthAll_iff (ds := xs)]
    omega
end Gk
namespace Gk
open PySem PySem.Spec PyProof.Rows L2 RZ
/-! ### texts of signs 0 and 1 -/
def sgn (b : Bool) : Nat := if b then 49 else 48
def txt (l : List Bool) : Str := ⟨(l.map sgn).toArray⟩
theorem txt_size (l : List Bool) : (txt l).cps.size = l.length := by
  show (l.map sgn).toArray.size = _
  rw [List.size_toArray, List.length_map]
theorem txt_at {l : List Bool} {i c : Nat} (h : (txt l).cps[i]? = some c) : ∃ b, l[i]? = some b ∧ c = sgn b := by
  have h' : (l.map sgn).toArray[i]? = some c := h
  rw [List.getElem?_toArray, List.getElem?_map] at h'
  cases e : l[i]? with
  | none => rw [e] at h'; cases h'
  | some b => rw [e] at h'; exact ⟨b, rfl, (Option.some.inj h').symm⟩
theorem txt_app (a b : List Bool) : txt a ++ txt b = txt (a ++ b) := by
  show (⟨(a.map sgn).toArray ++ (b.map sgn).toArray⟩ : Str) = ⟨((a ++ b).map sgn).toArray⟩
  rw [List.map_append]
  simp
theorem txt_length (l : List Bool) : (txt l).length = l.length := txt_size l
theorem fold_rep (l : List Nat) : ∀ (n : Nat) (acc : List Nat), (List.replicate n l.toArray).foldl (· ++ ·) acc.toArray = (acc ++ (List.replicate n l).flatten).toArray
  | 0, acc => by simp
  | n + 1, acc => by
    rw [List.replicate_succ, List.foldl_cons, show acc.toArray ++ l.toArray = (acc ++ l).toArray by simp, fold_rep l n, List.replicate_succ, List.flatten_cons, List.append_assoc]
theorem txt_mul (l : List Bool) (n : Nat) : Txt.mul (txt l) (n : Int) = txt (List.replicate n l).flatten := by
  unfold Txt.mul
  by_cases h0 : (n : Int) < 1
  · have : n = 0 := by omega
    subst this
    rw [if_pos h0]
    rfl
  · rw [if_neg h0]
    by_cases h1 : n = 1
    · subst h1
      rw [if_pos (by simp)]
      simp
    · by_cases h2 : l = []
      · subst h2
        rw [if_pos (by rw [txt_length]; simp)]
        have : (List.replicate n ([] : List Bool)).flatten = [] := by
          rw [List.flatten_eq_nil_iff]
          intro x hx
          exact (List.mem_replicate.mp hx).2
        rw [this]
      · have h3 : ¬ (((n : Int) == 1 || (txt l).length == 0) = true) := by
          rw [txt_length]
          simp only [Bool.or_eq_true, beq_iff_eq, not_or]
          exact ⟨by omega, fun z => h2 (List.length_eq_zero_iff.mp z)⟩
        rw [if_neg h3]
        have := fold_rep (l.map sgn) n []
        show (⟨(List.replicate (n : Int).toNat (l.map sgn).toArray).foldl (· ++ ·) #[]⟩ : Str) = _
        rw [Int.toNat_natCast]
        refine congrArg Str.mk (this.trans ?_)
        rw [List.nil_append]
        congr 1
        rw [List.map_flatten, List.map_replicate]
theorem mulOk_txt {l : List Bool} {n : Nat} (hl : l.length ≤ 100) (hn : n ≤ 1000) : MulOk (txt l) (n : Int) := by
  refine ⟨by simp; omega, fun h0 _ => ?_, fun _ _ => ?_⟩
  · rw [txt_length]
    have h1 : (0 : Int) < n := by omega
    have : (1000 : Int) ≤ (2 ^ 63 - 1) / n := by
      refine Int.le_ediv_of_mul_le h1 ?_
      omega
    omega
  · rw [txt_length]
    show decide (_ > sizeLine) = false
    refine decide_eq_false ?_
    rw [sizeLine_eq, Int.toNat_natCast]
    have := Nat.mul_le_mul hl hn
    omega
theorem txt_cut (l : List Bool) (a b : Nat) (h : a ≤ b) (hb : b ≤ l.length) : cutS (txt l) (some (a : Int)) (some (b : Int)) = txt ((l.drop a).take (b - a)) := by
  unfold cutS
  rw [HT.sIx_nat, HT.sIx_nat, txt_length, Nat.min_eq_left (show a ≤ l.length by omega), Nat.min_eq_left (show b ≤ l.length from hb)]
  show (⟨((((l.map sgn).toArray).toList.drop a).take (b - a)).toArray⟩ : Str) = ⟨(((l.drop a).take (b - a)).map sgn).toArray⟩
  rw [List.map_take, List.map_drop]
theorem glue_txt : ∀ (bs acc : List Bool), (bs.map fun b => txt [b]).foldl (fun (z : Array Nat) (p : Str) => z ++ (Str.empty).cps ++ p.cps) (txt acc).cps = (txt (acc ++ bs)).cps
  | [], acc => by simp
  | b :: bs, acc => by
    rw [List.map_cons, List.foldl_cons]
    have : (txt acc).cps ++ (Str.empty).cps ++ (txt [b]).cps = (txt (acc ++ [b])).cps := by
      have := congrArg Str.cps (txt_app acc [b])
      rw [← this]
      show (txt acc).cps ++ #[] ++ (txt [b]).cps = (txt acc).cps ++ (txt [b]).cps
      simp
    rw [this, glue_txt bs (acc ++ [b]), List.append_assoc]
    rfl
theorem join_txt (bs : List Bool) : Txt.join ("" : Str) (bs.map fun b => txt [b]) = txt bs := by
  show Builtin.Str.glued ("" : Str) (bs.map fun b => txt [b]) = _
  unfold Builtin.Str.glued
  cases bs with
  | nil => rfl
  | cons b bs =>
    have := glue_txt bs [b]
    exact congrArg Str.mk this
theorem str_bit (b : Bool) : (Str.ofString (toString (if b then (1 : Int) else 0))) = txt [b] := by cases b <;> decide +kernel
theorem int_at {os : List Int} {i : Nat} {x : V} (hx : (os.map V.int)[i]? = some x) : ∃ o, os[i]? = some o ∧ x = .int o := by
  rw [List.getElem?_map] at hx
  cases e : os[i]? with
  | none => rw [e] at hx; cases hx
  | some o =>
    rw [e] at hx
    exact ⟨o, rfl, (Option.some.inj hx).symm⟩
/-- outcomes as digits -/
def bo (os : List Int) : List Bool := os.map fun o => decide (o = 1)
theorem bo_len (os : List Int) : (bo os).length = os.length := List.length_map ..
/-- so many digits from a place on, round and round -/
def run (bs : List Bool) (a k : Nat) : List Bool := (List.range k).map fun j => bs.getD ((a + j) % bs.length) false
/-- the last digits of so many that passed, zeros ahead -/
def past (bs : List Bool) (p L : Nat) : List Bool := List.replicate (L - min p L) false ++ run bs (p - min p L) (min p L)
theorem run_len (bs : List Bool) (a k : Nat) : (run bs a k).length = k := by
  unfold run
  rw [List.length_map, List.length_range]
theorem past_len (bs : List Bool) (p L : Nat) : (past bs p L).length = L := by
  unfold past
  rw [List.length_append, List.length_replicate, run_len]
  omega
theorem rep_at {α : Type} (l : List α) (h : 0 < l.length) : ∀ (m i : Nat), i < m * l.length → ((List.replicate m l).flatten)[i]? = l[i % l.length]?
  | 0, i, hi => by simp at hi
  | m + 1, i, hi => by
    rw [List.replicate_succ, List.flatten_cons]
    by_cases g : i < l.length
    · rw [List.getElem?_append_left g, Nat.mod_eq_of_lt g]
    · rw [List.getElem?_append_right (by omega), rep_at l h m (i - l.length) (by rw [Nat.succ_mul] at hi; omega)]
      congr 1
      exact (Nat.mod_eq_sub_mod (by omega)).symm
theorem run_cut {bs : List Bool} (h : 0 < bs.length) (a k m : Nat) (hm : a % bs.length + k ≤ m * bs.length) : (((List.replicate m bs).flatten).drop (a % bs.length)).take k = run bs a k := by
  refine List.ext_getElem? fun i => ?_
  by_cases hi : i < k
  · rw [List.getElem?_take_of_lt hi, List.getElem?_drop, rep_at bs h m _ (by omega)]
    unfold run
    rw [List.getElem?_map, List.getElem?_range hi]
    have hlt : (a + i) % bs.length < bs.length := Nat.mod_lt _ h
    have e : (a % bs.length + i) % bs.length = (a + i) % bs.length := by rw [Nat.mod_add_mod]
    rw [e, List.getElem?_eq_getElem hlt]
    show _ = some (bs.getD ((a + i) % bs.length) false)
    rw [List.getD_eq_getElem?_getD, List.getElem?_eq_getElem hlt]
    rfl
  · rw [List.getElem?_eq_none (by rw [List.length_take]; omega), List.getElem?_eq_none (by rw [run_len]; omega)]
theorem rep_length (n : Nat) (l : List Bool) : ((List.replicate n l).flatten).length = n * l.length := by
  induction n with
  | zero => simp
  | succ n ih => rw [List.replicate_succ, List.flatten_cons, List.length_append, ih, Nat.succ_mul, Nat.add_comm]
theorem enough (n k a : Nat) (h : 0 < n) : a % n + k ≤ (k / n + 2) * n := by
  have h1 := Nat.div_add_mod k n
  have h2 := Nat.mod_lt k h
  have h3 := Nat.mod_lt a h
  rw [Nat.add_mul, Nat.mul_comm (k / n) n]
  omega
theorem sgn_inj {a b : Bool} (h : sgn a = sgn b) : a = b := by
  revert h
  cases a <;> cases b <;> decide
theorem sgns_inj : ∀ {a b : List Bool}, a.map sgn = b.map sgn → a = b
  | [], [], _ => rfl
  | x :: xs, y :: ys, h => by
    rw [List.map_cons, List.map_cons] at h
    injection h with h1 h2
    rw [sgn_inj h1, sgns_inj h2]
  | [], _ :: _, h => by simp at h
  | _ :: _, [], h => by simp at h
theorem txt_inj {a b : List Bool} (h : txt a = txt b) : a = b := by
  have h1 : (a.map sgn).toArray = (b.map sgn).toArray := congrArg Str.cps h
  exact sgns_inj (by simpa using h1)
theorem txt_tail (l : List Bool) : cutS (txt l) (some 1) none = txt (l.drop 1) := by
  unfold cutS
  rw [show (some (1 : Int)) = some ((1 : Nat) : Int) from rfl, HT.sIx_none, HT.sIx_nat, txt_length]
  show (⟨((((l.map sgn).toArray).toList.drop (min 1 l.length)).take (l.length - min 1 l.length)).toArray⟩ : Str) = ⟨((l.drop 1).map sgn).toArray⟩
  congr 2
  rw [List.map_drop]
  cases l with
  | nil => rfl
  | cons b r =>
    rw [show min 1 (b :: r).length = 1 by rw [List.length_cons]; omega]
    refine List.take_of_length_le ?_
    rw [List.length_drop]
    simp
theorem walk_zipT {K : PySem.W.Frag} {a b : Addr} {xs ys : List V} (hl : xs.length = ys.length) : Walk (ItzT K a b) xs.length (fun H => SqT K H a xs ∧ SqT K H b ys) (fun i H v H' => ∃ T x y, v = .ref T ∧ H T = none ∧ xs[i]? = some x ∧ ys[i]? = some y ∧ H' = upd H T (.tup [x, y])) :=
  ⟨fun i _ hi q => ⟨xs, ys, xs[i], ys[i]'(by omega), q.1, q.2, List.getElem?_eq_getElem hi, List.getElem?_eq_getElem (by omega)⟩, fun _ q => ⟨xs, ys, q.1, q.2, .inl (Nat.le_refl _)⟩, fun i H v H' _ q y => by
    obtain ⟨T, x, z, h1, h2, h3, h4, h5⟩ := y
    exact ⟨T, x, z, h1, h2, h4 xs q.1, h5 ys q.2, h3⟩⟩

theorem bit_txt (b : Bool) : (.str (Str.ofString (toString (((if b then 1 else 0 : Nat) : Int)))) : V) = .str (txt [b]) := by
  cases b <;> decide +kernel
theorem op_inK {X : Cx} (K : PySem.W.Frag) (h : X.K = K := by rfl) : OpR X (compareOp .In) (rIn K false) := by
  subst h
  exact op_in_seq
/-! ### whether a tuple is () -/
def rEq0 (K : PySem.W.Frag) : R2 := fun x y H Q => ∃ a b xs, x = .ref a ∧ y = .ref b ∧ SqT K H a xs ∧ SqT K H b [] ∧ Q (.bl (decide (xs = []))) H
theorem op_eq0 {X : Cx} (hu : X.A.units < cLine) : OpR X (compareOp .Eq) (rEq0 X.K) := by
  intro pins s σ H x y v u Q I rx ry h
  obtain ⟨a, b, xs, rfl, rfl, ha, hb, q⟩ := h
  cases rx
  cases ry
  obtain ⟨its, r1, ⟨o1, e1, c1, n1, d1⟩, _⟩ := I.tuple ha
  obtain ⟨its2, r2, ⟨o2, e2, c2, n2, d2⟩, _⟩ := I.tuple hb
  cases r2
  refine SeqAt.RcAt.tuples (e := fun _ => true) (items := its.toArray) (items2 := ([] : List Value).toArray) ⟨o1, e1, c1, n1, d1⟩ ⟨o2, e2, c2, n2, d2⟩ hu (fun j h1 h2 => absurd h2 (Nat.not_lt_zero _)) X.prog X.w X.xe (EP X pins σ Q) ⟨.bl _, H, I, ?_, q⟩
  show Value.bool _ = Value.bool _
  congr 1
  cases xs with
  | nil => cases r1; rfl
  | cons x xs => cases r1; simp
theorem txt_init (l : List Bool) : cutS (txt l) none (some (-1)) = txt l.dropLast := by
  unfold cutS
  have e : HT.sIx (txt l).length (txt l).length (some (-1)) = l.length - 1 := by
    rw [txt_length]
    unfold HT.sIx
    first
      | (simp only []; omega)
      | (simp; omega)
      | (split <;> omega)
  rw [HT.sIx_none, e]
  show (⟨((((l.map sgn).toArray).toList.drop 0).take (l.length - 1 - 0)).toArray⟩ : Str) = ⟨(l.dropLast.map sgn).toArray⟩
  rw [List.drop_zero, Nat.sub_zero, List.dropLast_eq_take, List.map_take]
end Gk
/-! A generator def whose items are asked for one by one, its caller going on between them. -/
namespace Gk
open PySem PySem.Spec PyProof.Rows L2 GenW

/-! ### the heap up to an address -/
def cut (h : Heap) (n : Nat) : Heap := { h with objs := h.objs.extract 0 n }
theorem cut_get (h : Heap) (n b : Nat) : (cut h n).get? b = if b < n then h.get? b else none := by
  unfold cut Heap.get?
  simp only [Array.getElem?_extract]
  by_cases c : b < n
  · rw [if_pos c]
    by_cases d : b < h.objs.size
    · rw [if_pos (by omega), Nat.zero_add]
    · rw [if_neg (by omega), Array.getElem?_eq_none (by omega)]
  · rw [if_neg c, if_neg (by omega)]
theorem cut_lt {h : Heap} {n b : Nat} {o : Obj} (e : (cut h n).get? b = some o) : b < n ∧ h.get? b = some o := by
  rw [cut_get] at e
  by_cases c : b < n
  · rw [if_pos c] at e
    exact ⟨c, e⟩
  · rw [if_neg c] at e
    cases e
theorem cut_of {h : Heap} {n b : Nat} {o : Obj} (c : b < n) (e : h.get? b = some o) : (cut h n).get? b = some o := by
  rw [cut_get, if_pos c, e]
theorem cut_size (h : Heap) (n : Nat) : (cut h n).objs.size ≤ n := by
  unfold cut
  simp only [Array.size_extract]
  omega
theorem cut_size' {h : Heap} {n m : Nat} (a : m ≤ n) (b : m ≤ h.objs.size) : m ≤ (cut h n).objs.size := by
  unfold cut
  simp only [Array.size_extract]
  omega
theorem funs_cut {h0 h base : Heap} {n : Nat} (hn : h0.objs.size ≤ n) : ∀ {l : List Env}, h0.FunFrames base l → h.FunFrames base l → (cut h n).FunFrames base l
  | [], _, _ => trivial
  | env :: r, ⟨_, ⟨L, _, f0, _, g0, _⟩, r0⟩, ⟨k1, ⟨L', o, f1, b1, g1, d1⟩, r1⟩ => by
    have e : L = L' := by rw [f0] at f1; exact Option.some.inj f1
    subst e
    exact ⟨k1, ⟨L, o, f1, b1, cut_of (Nat.lt_of_lt_of_le (Heap.lt_size g0) hn) g1, d1⟩, funs_cut hn r0 r1⟩

/-! ### the generator's context anew at each turn -/
def re (X : Cx) (s : Shared) (H : Hp) : Cx := { X with s_0 := { s with heap := cut s.heap X.env.locals }, H_0 := H }
/-- a generator's context: no cells of its own, no pins, nothing exempt; nothing is raised -/
structure GCx (X : Cx) : Prop where
  n0 : X.s_0.heap.objs.size = X.env.locals
  ex : X.ex = []
  pn : X.pn = []
  calm : X.calm = true
  cells : ∀ x, X.env.cells.lookup x = none
  nox : ∀ e s, ¬ X.xe e s
/-- what must hold of the state at which the generator goes on -/
structure On (X : Cx) (s : Shared) (H : Hp) : Prop where
  bs : ∀ b o, X.base.get? b = some o → s.heap.get? b = some o ∧ H b = none
  bsz : X.base.objs.size ≤ s.heap.objs.size
  funs : s.heap.FunFrames X.base X.outer
  frf : ∀ b ∈ X.fs, H b = none
  hok : HOk X.prog X.w H s.heap
  bare : AllBare s.gens
theorem On.of {X : Cx} {A : Around} {s : Shared} {H : Hp} (e : Env0 X.prog X.w X.K X.mg X.base A X.outer s H) : On X s H := ⟨e.bs, e.bsz, e.funs, e.frf, e.hok, e.bare⟩
theorem re_ok {X : Cx} {s : Shared} {H : Hp} (g : GCx X) (ok : X.Ok) (o : On X s H) : (re X s H).Ok where
  mod := ok.mod
  kind := ok.kind
  glob := ok.glob
  blt := ok.blt
  above := cut_size _ _
  inj := ok.inj
  has := ok.has
  cab := fun x c _ e => by
    have e : X.env.cells.lookup x = some c := e
    rw [g.cells x] at e
    cases e
  hd := ok.hd
  frames := ok.frames
  stk := ok.stk
  exf := ok.exf
  bs := fun b ob e => ⟨cut_of (Nat.lt_of_lt_of_le (Heap.lt_size e) (Nat.le_trans ok.bsz (Nat.le_of_eq g.n0))) (o.bs b ob e).1, (o.bs b ob e).2⟩
  bsz := cut_size' (Nat.le_trans ok.bsz (Nat.le_of_eq g.n0)) o.bsz
  noex := ok.noex
  exfs := ok.exfs
  funs := funs_cut (Nat.le_of_eq g.n0) ok.funs o.funs
  frf := o.frf
/-- what the generator leaves behind while it sleeps: its frame, its loops' iterators -/
structure Slept (X : Cx) (ip : List (Addr × Obj)) (σ : L2.St) (oL : Obj) : Prop where
  loc : ∀ h : Heap, h.get? X.env.locals = some oL → ∃ m, h.Ns X.env.locals m ∧ ∀ (i : Nat) (x : Str) (v : V), X.N[i]? = some x → σ[i]? = some (some v) → Vis X.env.scope x → ∃ u, RelV v u ∧ Look X.env h m x u
  pin : ∀ p ∈ ip, p.1 ≠ X.env.locals ∧ p.1 ∉ X.fs ∧ ∀ v, p.2.data ≠ .cell v
  data : ∀ v, oL.data ≠ .cell v
  nfs : X.env.locals ∉ X.fs
  len : σ.length = X.N.length
/-- the generator goes to sleep -/
theorem sleep {X : Cx} {s0 s : Shared} {H0 H : Hp} {pe ip : List (Addr × Obj)} {σ : L2.St} (g : GCx X) (I : Inv (re X s0 H0) (pe ++ ip) σ H s) : ∃ oL, s.heap.get? X.env.locals = some oL ∧ H X.env.locals = none ∧ Slept X ip σ oL := by
  obtain ⟨m, hn, hl⟩ := I.loc
  obtain ⟨o, es, ep, ho, r⟩ := hn
  have hd : o.data = .dict es ep := r.1
  refine ⟨o, ho, I.free, ⟨fun h e => ⟨m, ⟨o, es, ep, e, r⟩, fun i x v a b c => ?_⟩, fun p hp => ?_, fun v z => ?_, ?_, I.len⟩⟩
  · obtain ⟨u, ru, l⟩ := hl i x v a b c
    refine ⟨u, ru, ?_⟩
    rcases l with l | ⟨_, c', e', _⟩
    · exact .inl l
    · have e' : X.env.cells.lookup x = some c' := e'
      rw [g.cells x] at e'
      cases e'
  · obtain ⟨_, _, a, b, c⟩ := I.pin p (List.mem_append_right _ (List.mem_append_right _ hp))
    exact ⟨a, b, c⟩
  · rw [hd] at z
    cases z
  · intro hb
    obtain ⟨_, o', e', _⟩ := I.ok.funs.mem hb
    have := (cut_lt e').1
    exact absurd this (Nat.lt_irrefl _)
/-- it wakes -/
theorem waked {X : Cx} {s : Shared} {H : Hp} {pe ip : List (Addr × Obj)} {σ : L2.St} {oL : Obj} (g : GCx X) (ok : X.Ok) (o : On X s H) (S : Slept X ip σ oL) (hL : s.heap.get? X.env.locals = some oL) (nL : H X.env.locals = none)
    (hip : ∀ p ∈ ip, s.heap.get? p.1 = some p.2 ∧ H p.1 = none) (hpe : ∀ p ∈ pe, s.heap.get? p.1 = some p.2 ∧ H p.1 = none ∧ p.1 ≠ X.env.locals ∧ p.1 ∉ X.fs ∧ ∀ v, p.2.data ≠ .cell v) : Inv (re X s H) (pe ++ ip) σ H s where
  ok := re_ok g ok o
  os := rfl
  bare := o.bare
  base := Un.kept fun b u e => (cut_lt e).2
  loc := S.loc s.heap hL
  cell := fun x c e => by
    have e : X.env.cells.lookup x = some c := e
    rw [g.cells x] at e
    cases e
  free := nL
  freeC := fun x c e => by
    have e : X.env.cells.lookup x = some c := e
    rw [g.cells x] at e
    cases e
  pin := fun p hp => by
    have hp : p ∈ X.pn ++ (pe ++ ip) := hp
    rw [g.pn, List.nil_append] at hp
    rcases List.mem_append.mp hp with hp | hp
    · exact hpe p hp
    · obtain ⟨a, b, c⟩ := S.pin p hp
      exact ⟨(hip p hp).1, (hip p hp).2, a, b, c⟩
  hok := o.hok
  len := S.len
end Gk
/-! The statements of a generator def whose caller goes on between its items. γ: what the caller keeps meanwhile. -/
namespace Gk
open PySem PySem.Spec PyProof.Rows L2 GenW

/-- what is wanted behind a statement; n: how many items may still be handed out; yl: of an item, with what is wanted when the generator goes on -/
structure YEnds where
  nx : Nat → L2.St → L2.St → Hp → Prop
  rt : Nat → L2.St → VK
  bk : Nat → L2.St → L2.St → Hp → Prop := fun _ _ _ _ => False
  ct : Nat → L2.St → L2.St → Hp → Prop := fun _ _ _ _ => False
  yl : L2.St → V → Hp → (L2.St → Hp → Prop) → Prop
abbrev TY := YEnds → Nat → L2.St → L2.St → Hp → Prop
def YEnds.at (D : YEnds) (n : Nat) (γ : L2.St) : Ends := { nx := D.nx n γ, rt := D.rt n γ, bk := D.bk n γ, ct := D.ct n γ }
abbrev LK := L2.St → Hp → Shared → List (Addr × Obj) → Prop
/-- the generator has run from s₀ to s -/
structure Went (X : Cx) (pe : List (Addr × Obj)) (H₀ : Hp) (s₀ : Shared) (H : Hp) (s : Shared) : Prop where
  os : s.os = s₀.os
  bare : AllBare s.gens
  un : Un X.fs [] H₀ H (cut s₀.heap X.env.locals) s.heap
  hok : HOk X.prog X.w H s.heap
  pe : ∀ p ∈ pe, s.heap.get? p.1 = some p.2 ∧ H p.1 = none
/-- what may be pinned while the generator runs -/
def PeOk (X : Cx) (Ad : List Addr) (pe : List (Addr × Obj)) (H : Hp) (s : Shared) : Prop :=
  pe.map (·.1) = Ad ∧ ∀ p ∈ pe, s.heap.get? p.1 = some p.2 ∧ H p.1 = none ∧ p.1 ≠ X.env.locals ∧ p.1 ∉ X.fs ∧ ∀ v, p.2.data ≠ .cell v
def YP (X : Cx) (Lk : LK) (Ad : List Addr) (yl : L2.St → V → Hp → (L2.St → Hp → Prop) → Prop) : Protocol := fun n s₀ v s kap =>
  ∃ (γ : L2.St) (H₀ H : Hp) (pe hl : List (Addr × Obj)) (x : V) (k : L2.St → Hp → Prop), Lk γ H₀ s₀ pe ∧ RelV x v ∧ Went X pe H₀ s₀ H s ∧
    (∀ p ∈ hl, s.heap.get? p.1 = some p.2 ∧ H p.1 = none ∧ X.env.locals ≤ p.1 ∧ p.1 ∉ Ad ∧ ∀ v, p.2.data ≠ .cell v) ∧ yl γ x H k ∧
    ∀ γ' H' s'' pe', k γ' H' → Lk γ' H' s'' pe' → On X s'' H' → PeOk X Ad pe' H' s'' → (∀ p ∈ hl, s''.heap.get? p.1 = some p.2 ∧ H' p.1 = none) → kap (.send .none) s''
def YInv (X : Cx) (Lk : LK) (Ad : List Addr) (γ : L2.St) (s₀ : Shared) (ip : List (Addr × Obj)) (σ : L2.St) (H : Hp) (s : Shared) : Prop :=
  ∃ H₀ pe, Lk γ H₀ s₀ pe ∧ pe.map (·.1) = Ad ∧ X.env.locals ≤ s₀.heap.objs.size ∧ Inv (re X s₀ H₀) (pe ++ ip) σ H s
structure YC (X : Cx) (Ad : List Addr) (ip : List (Addr × Obj)) (A : Around) (c : Code) (fs : List Frame) (gd : Bool → Bool) : Prop extends FC X A c fs gd where
  g : GCx X
  ok : X.Ok
  ip : ∀ p ∈ ip, X.env.locals ≤ p.1 ∧ p.1 ∉ Ad
structure YK (X : Cx) (Lk : LK) (Ad : List Addr) (ip : List (Addr × Obj)) (A : Around) (R : GenEnd) (c : Code) (fs : List Frame) (K : Flow → Sem PySem.Fin) (D : YEnds) : Prop where
  ok : ∀ (n : Nat) (γ : L2.St) (s₀ s : Shared) (f : Flow) (H₀ : Hp) (pe : List (Addr × Obj)), Lk γ H₀ s₀ pe → pe.map (·.1) = Ad → X.env.locals ≤ s₀.heap.objs.size → SP (re X s₀ H₀) (pe ++ ip) (D.at n γ) f s →
    Seg (model X.prog X.w) A R (YP X Lk Ad D.yl) n s₀ c (K f) fs s
structure YS (X : Cx) (st : Stmt) (t : TY) : Prop where
  run : ∀ (A : Around) (Lk : LK) (Ad : List Addr) (ip : List (Addr × Obj)) (R : GenEnd) (n : Nat) (γ : L2.St) (s₀ : Shared) (c : Code) (fs : List Frame) (K : Flow → Sem PySem.Fin) (J : Value → Sem PySem.Fin) (gd : Bool → Bool) (lv : List Value → List Value) (s : Shared) (σ : L2.St) (H : Hp) (D : YEnds),
    YC X Ad ip A c fs gd → YK X Lk Ad ip A R c fs K D → YInv X Lk Ad γ s₀ ip σ H s → t D n γ σ H →
    Seg (model X.prog X.w) A R (YP X Lk Ad D.yl) n s₀ c ((exec st X.env).wrap K J gd lv) fs s
structure YSs (X : Cx) (st : List Stmt) (t : TY) : Prop where
  run : ∀ (A : Around) (Lk : LK) (Ad : List Addr) (ip : List (Addr × Obj)) (R : GenEnd) (n : Nat) (γ : L2.St) (s₀ : Shared) (c : Code) (fs : List Frame) (K : Flow → Sem PySem.Fin) (J : Value → Sem PySem.Fin) (gd : Bool → Bool) (lv : List Value → List Value) (s : Shared) (σ : L2.St) (H : Hp) (D : YEnds),
    YC X Ad ip A c fs gd → YK X Lk Ad ip A R c fs K D → YInv X Lk Ad γ s₀ ip σ H s → t D n γ σ H →
    Seg (model X.prog X.w) A R (YP X Lk Ad D.yl) n s₀ c ((execs st X.env).wrap K J gd lv) fs s
section
variable {X : Cx} {st : Stmt} {rest : List Stmt}
def tYPlain (t : TS) : TY := fun D n γ σ H => t (D.at n γ) σ H
theorem ys_ps {t : TS} (h : ∀ s H, PS (re X s H) st t) : YS X st (tYPlain t) := by
  refine ⟨fun A Lk Ad ip R n γ s₀ c fs K J gd lv s σ H D g k hI ht => ?_⟩
  obtain ⟨H₀, pe, lk, ea, hn, I⟩ := hI
  refine seg_wrap ?_
  rw [g.over]
  exact wpAny_mono ((h s₀ H₀).run _ s σ H (D.at n γ) I ht) (fun f s' hs => k.ok n γ s₀ s' f H₀ pe lk ea hn hs) fun x s' hx => (g.nox x s' hx).elim
def tY0 : TY := fun D n γ σ H => D.nx n γ σ H
theorem yss_nil : YSs X [] tY0 := by
  refine ⟨fun A Lk Ad ip R n γ s₀ c fs K J gd lv s σ H D g k hI ht => ?_⟩
  obtain ⟨H₀, pe, lk, ea, hn, I⟩ := hI
  exact seg_execs_nil (k.ok n γ s₀ s .next H₀ pe lk ea hn ⟨σ, H, I, ht⟩)
def tYThen (t u : TY) : TY := fun D n γ σ H => t { D with nx := fun n' γ' σ' H' => u D n' γ' σ' H' } n γ σ H
theorem yss_cons {t u : TY} (a : YS X st t) (b : YSs X rest u) : YSs X (st :: rest) (tYThen t u) := by
  refine ⟨fun A Lk Ad ip R n γ s₀ c fs K J gd lv s σ H D g k hI ht => ?_⟩
  refine seg_execs_cons ?_
  refine a.run A Lk Ad ip R n γ s₀ c fs _ J gd lv s σ H { D with nx := fun n' γ' σ' H' => u D n' γ' σ' H' } g ⟨fun n' γ' s₀' s' f H₀ pe lk ea hn hs => ?_⟩ hI ht
  cases f with
  | next =>
    obtain ⟨σ', H', I', q⟩ := hs
    exact b.run A Lk Ad ip R n' γ' s₀' c fs K J gd lv s' σ' H' D g k ⟨H₀, pe, lk, ea, hn, I'⟩ q
  | brk => exact k.ok n' γ' s₀' s' .brk H₀ pe lk ea hn hs
  | cont => exact k.ok n' γ' s₀' s' .cont H₀ pe lk ea hn hs
  | ret u => exact k.ok n' γ' s₀' s' (.ret u) H₀ pe lk ea hn hs
theorem yss_one {t : TY} (a : YS X st t) : YSs X [st] (tYThen t tY0) := yss_cons a yss_nil
/-- yield e -/
def tYYield (te : TE) : TY := fun D n γ σ H => ∃ m, n = m + 1 ∧ te σ H fun v H1 => D.yl γ v H1 fun γ' H2 => D.nx m γ' σ H2
theorem ys_yield {e : Expr} {yp pos : Pos} {te : TE} (he : ∀ s H, PE (re X s H) e te) (hco : X.env.scope.isCoroutine = false := by rfl) (hi : interactive X.env = false := by rfl) : YS X (.Expr (.Yield (some e) yp) pos) (tYYield te) := by
  refine ⟨fun A Lk Ad ip R n γ s₀ c fs K J gd lv s σ H D g k hI ht => ?_⟩
  obtain ⟨m, rfl, ht⟩ := ht
  obtain ⟨H₀, pe, lk, ea, hn, I⟩ := hI
  refine seg_Expr_Yield (n := m) g.split g.gd g.guard ?_ hco hi
  rw [g.over]
  refine wpAny_mono ((he s₀ H₀).run _ s σ H _ I ht) (fun v s' hv => ?_) fun x s' hx => (g.nox x s' hx).elim
  obtain ⟨x, H1, I1, rv, q⟩ := hv
  intro kap hk
  obtain ⟨oL, hL, nL, S⟩ := sleep g.g I1
  have hpe : ∀ p ∈ pe ++ ip, s'.heap.get? p.1 = some p.2 ∧ H1 p.1 = none ∧ ∀ v, p.2.data ≠ .cell v := fun p hp => by
    obtain ⟨a, b, _, _, d⟩ := I1.pin p (List.mem_append_right _ hp)
    exact ⟨a, b, d⟩
  refine ⟨γ, H₀, H1, pe, (X.env.locals, oL) :: ip, x, _, lk, rv, ⟨I1.os, I1.bare, ?_, I1.hok, fun p hp => ?_⟩, fun p hp => ?_, q, fun γ' H' s'' pe' hk' lk' on po hh => ?_⟩
  · have u := I1.base
    have hex : (re X s₀ H₀).ex = [] := g.g.ex
    rw [hex] at u
    exact u
  · obtain ⟨a, b, _⟩ := hpe p (List.mem_append_left _ hp)
    exact ⟨a, b⟩
  · rcases List.mem_cons.mp hp with rfl | hp
    · refine ⟨hL, nL, Nat.le_refl _, fun z => ?_, S.data⟩
      rw [← ea] at z
      obtain ⟨p, hp, e⟩ := List.mem_map.mp z
      obtain ⟨_, _, ne, _⟩ := I1.pin p (List.mem_append_right _ (List.mem_append_left _ hp))
      exact ne e
    · obtain ⟨a, b, d⟩ := hpe p (List.mem_append_right _ hp)
      exact ⟨a, b, (g.ip p hp).1, (g.ip p hp).2, d⟩
  · obtain ⟨hL', nL'⟩ := hh (X.env.locals, oL) List.mem_cons_self
    have I2 : Inv (re X s'' H') (pe' ++ ip) σ H' s'' := waked g.g g.ok on S hL' nL' (fun p hp => hh p (List.mem_cons_of_mem _ hp)) po.2
    refine hk .none s'' ?_
    show Seg _ _ _ _ _ _ _ _ _ _
    exact k.ok m γ' s'' s'' .next H' pe' lk' po.1 (Nat.le_of_lt (Heap.lt_size hL')) ⟨σ, H', I2, hk'⟩
def tYIf (c : TT) (t u : TY) : TY := fun D n γ σ H => c σ H fun b H1 => if b = true then t D n γ σ H1 else u D n γ σ H1
theorem ys_if {test : Expr} {body orelse : List Stmt} {pos : Pos} {tc : TT} {tb te : TY} (hc : ∀ s H, PT (re X s H) test tc) (hb : YSs X body tb) (he : YSs X orelse te) : YS X (.If test body orelse pos) (tYIf tc tb te) := by
  refine ⟨fun A Lk Ad ip R n γ s₀ c fs K J gd lv s σ H D g k hI ht => ?_⟩
  rw [exec_If]
  show Seg _ _ _ _ _ s₀ c (.at pos fun _ => ((isTrue test X.env (eval test X.env)) >>= fun b => if b = true then execs body X.env else execs orelse X.env).wrap K J gd lv) fs s
  obtain ⟨H₀, pe, lk, ea, hn, I⟩ := hI
  refine seg_at (seg_bind_wrap ?_)
  rw [g.over]
  refine wpAny_mono ((hc s₀ H₀).run _ s σ H _ I ht) (fun b s' hb' => ?_) fun x s' hx => (g.nox x s' hx).elim
  obtain ⟨H1, I1, q⟩ := hb'
  cases b with
  | true =>
    rw [if_pos rfl] at q
    rw [if_pos rfl]
    exact hb.run A Lk Ad ip R n γ s₀ c fs K J gd lv s' σ H1 D g k ⟨H₀, pe, lk, ea, hn, I1⟩ q
  | false =>
    rw [if_neg Bool.false_ne_true] at q
    rw [if_neg Bool.false_ne_true]
    exact he.run A Lk Ad ip R n γ s₀ c fs K J gd lv s' σ H1 D g k ⟨H₀, pe, lk, ea, hn, I1⟩ q
/-- for -/
def tYFor (wi : TI) (g : TG) (tb : TY) : TY := fun D n γ σ H => wi σ H fun J H1 => ∃ W : Nat → Nat → Nat → L2.St → L2.St → Hp → Prop, (∃ m, W 0 m n γ σ H1) ∧ ∀ i m n γ σ H, W i m n γ σ H →
  (J.stop i H ∧ D.nx n γ σ H) ∨ (J.go i H ∧ ∃ N : Nat → L2.St → L2.St → Hp → Prop, (∀ n' γ' σ' H', N n' γ' σ' H' → ∃ m', m' < m ∧ W (i + 1) m' n' γ' σ' H') ∧ ∀ x H', J.yld i H x H' → g x σ H' fun σ2 H2 => tb { D with nx := N, ct := N, bk := D.nx } n γ σ2 H2)
theorem yc_loop {Ad : List Addr} {ip : List (Addr × Obj)} {A : Around} {c c' : Code} {fs : List Frame} {gd : Bool → Bool} {k : Result → Sem PySem.Fin} {l kp : List Value} {p : Pos} (g : YC X Ad ip A c fs gd) (hw : c'.weight = 0) (hu : c'.cUnits = 0) :
    YC X Ad ip A c' (.ret k none (gd false) l c p kp :: fs) id := { toFC := fc_loop g.toFC hw hu, g := g.g, ok := g.ok, ip := g.ip }
theorem ys_for {tg iter : Expr} {body : List Stmt} {wi : TI} {g : TG} {tb : TY} {pos : Pos} (hi : ∀ s H, PI (re X s H) tg iter wi) (hg : ∀ s H, PG (re X s H) tg g) (hb : YSs X body tb)
    (hs : ∀ x, foldedSetIterable iter X.env x = pure x := by intro _; rfl) : YS X (.For tg iter body [] pos) (tYFor wi g tb) := by
  refine ⟨fun A Lk Ad ip R n γ s₀ c fs K J gd lv s σ H D gc k hI ht => ?_⟩
  have hc : X.calm = true := gc.g.calm
  rw [exec_For]
  show Seg _ _ _ _ _ s₀ c (.at pos fun _ => (eval iter X.env >>= fun v => foldedSetIterable iter X.env v >>= fun x => standAt iter.pos >>= fun _ => holding [x] (pyIter x) >>= fun it => runOwn (.forLoop tg it body [] X.env) X.env).wrap K J gd lv) fs s
  obtain ⟨H₀, pe, lk, ea, hn0, I⟩ := hI
  refine seg_at (seg_bind_wrap ?_)
  rw [gc.over]
  refine wpAny_mono ((hi s₀ H₀).run _ s σ H _ I ht) (fun v s1 h1 => ?_) fun x s' hx => (gc.nox x s' hx).elim
  refine seg_bind_wrap (wpAny_of_eq (hs v) ?_)
  refine seg_bind_wrap (wpAny_standAt ?_)
  refine seg_bind_wrap (wpAny_holding ?_)
  rw [gc.over]
  refine wpAny_mono h1 (fun itv s2 h2 => ?_) fun x s' hx => (gc.nox x s' hx).elim
  obtain ⟨it, fp, tn, Jt, H2, e, I2, T, st2, f2, W, ⟨m0, w0⟩, turn⟩ := h2
  subst e
  have nAd : ∀ b ∈ fp, ∀ a ∈ Ad, a ≠ b := fun b hb a ha => by
    rw [← ea] at ha
    obtain ⟨p, hp, rfl⟩ := List.mem_map.mp ha
    exact (f2 b hb).2.2.2.2.2 p (List.mem_append_right _ (List.mem_append_left _ hp))
  have geF : ∀ b ∈ fp, X.env.locals ≤ b := fun b hb => by
    rcases (f2 b hb).2.2.2.1 with z | z
    · have z : b ∈ X.ex := z
      rw [gc.g.ex] at z
      cases z
    · exact Nat.le_trans (cut_size' (Nat.le_refl _) hn0) z
  have stat : ∀ {s₀' : Shared} {H₀' H' : Hp} {pe' : List (Addr × Obj)}, pe'.map (·.1) = Ad → (∀ b ∈ fp, H' b = none) → ∀ b ∈ fp, FpOk (re X s₀' H₀') (pe' ++ ip) H' b := fun {s₀' H₀' H' pe'} ea' hn b hb => by
    obtain ⟨_, q2, q3, q4, q5, q6⟩ := f2 b hb
    refine ⟨hn b hb, q2, q3, .inr (Nat.le_trans (cut_size _ _) (geF b hb)), q5, fun p hp => ?_⟩
    have hp : p ∈ X.pn ++ (pe' ++ ip) := hp
    rw [gc.g.pn, List.nil_append] at hp
    rcases List.mem_append.mp hp with hp | hp
    · exact nAd b hb p.1 (by rw [← ea']; exact List.mem_map.mpr ⟨p, hp, rfl⟩)
    · exact q6 p (List.mem_append_right _ (List.mem_append_right _ hp))
  show Seg _ _ _ _ _ s₀ c (.call (.forLoop tg (.ref it) body [] X.env) none (gd false) (lv []) fun r => ((match r with | .ok f => (.pure f : Sem Flow) | .error e => .raise e).onRaise (cameBack X.env)).wrap K J gd lv) fs s2
  refine seg_call fun p => ?_
  have gl := fun (kk : Result → Sem PySem.Fin) => yc_loop (k := kk) (c' := .forLoop tg (.ref it) body [] X.env) (l := lv []) (kp := []) (p := p) gc rfl rfl
  have loop : ∀ (m i n : Nat) (γ : L2.St) (s₀ s : Shared) (σ : L2.St) (H H₀ : Hp) (pe : List (Addr × Obj)), Lk γ H₀ s₀ pe → pe.map (·.1) = Ad → X.env.locals ≤ s₀.heap.objs.size → Inv (re X s₀ H₀) (pe ++ ip) σ H s → tn i s.heap → (∀ b ∈ fp, H b = none) → W i m n γ σ H →
      Seg (model X.prog X.w) A R (YP X Lk Ad D.yl) n s₀ (.forLoop tg (.ref it) body [] X.env) ((model X.prog X.w).den (.forLoop tg (.ref it) body [] X.env))
        (.ret (fun r => ((match r with | .ok f => (.pure f : Sem Flow) | .error e => .raise e).onRaise (cameBack X.env)).wrap K J gd lv) none (gd false) (lv []) c p [] :: fs) s := by
    intro m
    induction m using Nat.strongRecOn with
    | ind m ih =>
      intro i n γ s₀ s3 σ3 H3 H₀ pe lk ea hn0 I3 st3 fr3 w3
      refine seg_forLoop (fun e => (do noteFrame e X.env; theTreesLotGoes e : Sem Unit).bind fun _ => .raise e) (fun _ => rfl) ?_
      rw [(gl _).over]
      rcases turn i m n γ σ3 H3 w3 with ⟨stop, qn⟩ | ⟨go, N, hN, step⟩
      · refine wpAny_mono (T.done (re X s₀ H₀) rfl rfl rfl hc i (pe ++ ip) s3 σ3 H3 (fun _ _ => False) I3 (stat ea fr3) st3 stop) (fun r s4 ⟨hr, I4⟩ => ?_) fun _ _ z => z.elim
        subst hr
        dsimp only
        refine seg_again rfl ?_
        exact seg_leaf (.ok .next) (k.ok n γ s₀ s4 .next H₀ pe lk ea hn0 ⟨σ3, H3, I4, qn⟩)
      · refine wpAny_mono (T.item (re X s₀ H₀) rfl rfl rfl hc i (pe ++ ip) s3 σ3 H3 (fun _ _ => False) I3 (stat ea fr3) st3 go) (fun r s4 ⟨u, hr, h4⟩ => ?_) fun _ _ z => z.elim
        subst hr
        dsimp only
        refine wpAny_mono h4 (fun _ s5 ⟨x, H5, I5, r5, y5, st5, fr5⟩ => ?_) fun _ _ z => z.elim
        have I5' : Inv (re X s₀ H₀) (pe ++ (ip ++ pinsAt fp s5.heap)) σ3 H5 s5 := by
          rw [← List.append_assoc]
          exact I5.pinned (stat ea fr5) (T.obj _ _ st5)
        refine wpAny_mono ((hg s₀ H₀).run _ s5 σ3 H5 x u _ I5' r5 (step x H5 y5)) (fun _ s6 ⟨σ6, H6, I6, q6⟩ => ?_) fun x s' hx => (gc.nox x s' hx).elim
        have again : ∀ {n' : Nat} {γ' : L2.St} {s₀' s7 : Shared} {σ7 : L2.St} {H7 H₀' : Hp} {pe' : List (Addr × Obj)}, Inv (re X s₀' H₀') (pe' ++ (ip ++ pinsAt fp s5.heap)) σ7 H7 s7 → N n' γ' σ7 H7 → ∃ m', m' < m ∧ Inv (re X s₀' H₀') (pe' ++ ip) σ7 H7 s7 ∧ tn (i + 1) s7.heap ∧ (∀ b ∈ fp, H7 b = none) ∧ W (i + 1) m' n' γ' σ7 H7 := fun {n' γ' s₀' s7 σ7 H7 H₀' pe'} I7 n7 => by
          obtain ⟨m', hm, w7⟩ := hN n' γ' σ7 H7 n7
          have I7' : Inv (re X s₀' H₀') ((pe' ++ ip) ++ pinsAt fp s5.heap) σ7 H7 s7 := by rw [List.append_assoc]; exact I7
          refine ⟨m', hm, I7'.unpinned, T.keep _ _ _ st5 fun b hb o e => (I7'.pin (b, o) (List.mem_append_right _ (List.mem_append_right _ (mem_pinsAt hb e)))).1, fun b hb => ?_, w7⟩
          obtain ⟨o, e, d⟩ := T.obj _ _ st5 b hb
          exact (I7'.pin (b, o) (List.mem_append_right _ (List.mem_append_right _ (mem_pinsAt hb e)))).2.1
        have un : ∀ {s₀' s7 : Shared} {σ7 : L2.St} {H7 H₀' : Hp} {pe' : List (Addr × Obj)}, Inv (re X s₀' H₀') (pe' ++ (ip ++ pinsAt fp s5.heap)) σ7 H7 s7 → Inv (re X s₀' H₀') (pe' ++ ip) σ7 H7 s7 := fun {s₀' s7 σ7 H7 H₀' pe'} I7 => by
          have I7' : Inv (re X s₀' H₀') ((pe' ++ ip) ++ pinsAt fp s5.heap) σ7 H7 s7 := by rw [List.append_assoc]; exact I7
          exact I7'.unpinned
        have gl6 : YC X Ad (ip ++ pinsAt fp s5.heap) A (.forLoop tg (.ref it) body [] X.env) (.ret (fun r => ((match r with | .ok f => (.pure f : Sem Flow) | .error e => .raise e).onRaise (cameBack X.env)).wrap K J gd lv) none (gd false) (lv []) c p [] :: fs) id :=
          { toFC := (gl _).toFC, g := gc.g, ok := gc.ok, ip := fun q hq => by
              rcases List.mem_append.mp hq with hq | hq
              · exact gc.ip q hq
              · obtain ⟨b, hb, e⟩ := List.mem_filterMap.mp hq
                cases eo : s5.heap.get? b with
                | none => rw [eo] at e; cases e
                | some o => rw [eo] at e; cases e; exact ⟨geF b hb, fun z => nAd b hb b z rfl⟩ }
        refine hb.run A Lk Ad (ip ++ pinsAt fp s5.heap) R n γ s₀ _ _ _ _ id id s6 σ6 H6 { D with nx := N, ct := N, bk := D.nx } gl6 ⟨fun n' γ' s₀' s7 f H₀' pe' lk' ea' hn' hs => ?_⟩ ⟨H₀, pe, lk, ea, hn0, I6⟩ q6
        cases f with
        | next =>
          obtain ⟨σ7, H7, I7, n7⟩ := hs
          obtain ⟨m', hm, J7, st7, fr7, w7⟩ := again I7 n7
          exact seg_again rfl (ih m' hm (i + 1) n' γ' s₀' s7 σ7 H7 H₀' pe' lk' ea' hn' J7 st7 fr7 w7)
        | cont =>
          obtain ⟨σ7, H7, I7, n7⟩ := hs
          obtain ⟨m', hm, J7, st7, fr7, w7⟩ := again I7 n7
          exact seg_again rfl (ih m' hm (i + 1) n' γ' s₀' s7 σ7 H7 H₀' pe' lk' ea' hn' J7 st7 fr7 w7)
        | brk =>
          obtain ⟨σ7, H7, I7, q7⟩ := hs
          exact seg_leaf (.ok .next) (k.ok n' γ' s₀' s7 .next H₀' pe' lk' ea' hn' ⟨σ7, H7, un I7, q7⟩)
        | ret v =>
          obtain ⟨x7, σ7, H7, I7, r7, q7⟩ := hs
          exact seg_leaf (.ok (.ret v)) (k.ok n' γ' s₀' s7 (.ret v) H₀' pe' lk' ea' hn' ⟨x7, σ7, H7, un I7, r7, q7⟩)
  exact loop m0 0 n γ s₀ s2 σ H2 H₀ pe lk ea hn0 I2 st2 (fun b hb => (f2 b hb).1) w0
end
end Gk
/-! Code that leaves the table of generators as it is. -/
namespace Gk
open PySem PySem.Spec PyProof.Rows L2 GenW
structure PEg (X : Cx) (e : Expr) (t : TE) : Prop where
  run : ∀ (pins : List (Addr × Obj)) (s : Shared) (σ : L2.St) (H : Hp) (Q : VK), Inv X pins σ H s → t σ H Q → wpAny (model X.prog X.w) X.A (eval e X.env) (fun u s' => EP X pins σ Q u s' ∧ s'.gens = s.gens) X.xe s
structure PTg (X : Cx) (e : Expr) (t : TT) : Prop where
  run : ∀ (pins : List (Addr × Obj)) (s : Shared) (σ : L2.St) (H : Hp) (Q : Bool → Hp → Prop), Inv X pins σ H s → t σ H Q → wpAny (model X.prog X.w) X.A (isTrue e X.env (eval e X.env)) (fun d s' => TP X pins σ Q d s' ∧ s'.gens = s.gens) X.xe s
structure PSg (X : Cx) (st : Stmt) (t : TS) : Prop where
  run : ∀ (pins : List (Addr × Obj)) (s : Shared) (σ : L2.St) (H : Hp) (D : Ends), Inv X pins σ H s → t D σ H → wpAny (model X.prog X.w) X.A (exec st X.env) (fun f s' => SP X pins D f s' ∧ s'.gens = s.gens) X.xe s
structure PSsg (X : Cx) (sts : List Stmt) (t : TS) : Prop where
  run : ∀ (pins : List (Addr × Obj)) (s : Shared) (σ : L2.St) (H : Hp) (D : Ends), Inv X pins σ H s → t D σ H → wpAny (model X.prog X.w) X.A (execs sts X.env) (fun f s' => SP X pins D f s' ∧ s'.gens = s.gens) X.xe s
structure PGg (X : Cx) (tg : Expr) (t : TG) : Prop where
  run : ∀ (pins : List (Addr × Obj)) (s : Shared) (σ : L2.St) (H : Hp) (v : V) (u : Value) (Q : L2.St → Hp → Prop), Inv X pins σ H s → RelV v u → t v σ H Q →
    wpAny (model X.prog X.w) X.A (assign tg X.env u) (fun _ s' => (∃ σ' H', Inv X pins σ' H' s' ∧ Q σ' H') ∧ s'.gens = s.gens) X.xe s
structure PGsg (X : Cx) (es : List Expr) (t : TGs) : Prop where
  run : ∀ (pins : List (Addr × Obj)) (s : Shared) (σ : L2.St) (H : Hp) (vs : List V) (us : List Value) (Q : L2.St → Hp → Prop), Inv X pins σ H s → Vals vs us → t vs σ H Q →
    wpAny (model X.prog X.w) X.A (assignInOrder ((assignEach es X.env).map (·.2)) us) (fun _ s' => (∃ σ' H', Inv X pins σ' H' s' ∧ Q σ' H') ∧ s'.gens = s.gens) X.xe s
section
variable {X : Cx} {pos : Pos}
theorem peg_var {i : Nat} {x : Str} (hN : X.N[i]? = some x) (hv : X.env.scope.names.lookup x = some .local) (hd : (x == ("__debug__" : Str)) = false := by decide) : PEg X (.Name x pos) (tVar i) := by
  refine ⟨fun pins s σ H Q I h => ?_⟩
  obtain ⟨v, e, h⟩ := h
  obtain ⟨m, hn, hl⟩ := I.loc
  obtain ⟨u, r, l⟩ := hl i x v hN e (.inl hv)
  have fin : EP X pins σ Q u s ∧ s.gens = s.gens := ⟨⟨v, H, I, r, h⟩, rfl⟩
  rcases l with ⟨hk, hm⟩ | ⟨hk, _⟩
  · exact wpAny_Name (wpAny_loadName_local I.ok.kind hk hn hm fin) hd
  · have hv' : X.env.kindOf x = some .local := hv
    rcases hk with hk | hk <;> rw [hv'] at hk <;> cases hk
/-- len(x), x a list -/
def rLenG (K : PySem.W.Frag) : List V → Hp → VK → Prop := fun xs H Q => ∃ p ys, xs = [.ref p] ∧ SqL K H p ys ∧ Q (.int ys.length) H
theorem peg_len {e : Expr} {te : TE} {p : Pos} (hg : Gl X "len") (hm : X.mg "len" = none) (he : PEg X e te) (hs : starEach [e] X.env = (false, eval e X.env) :: starEach [] X.env := by rfl) : PEg X (.Call (.Name "len" p) [e] [] pos) (tCB (rLenG X.K) (tCons te tNil)) := by
  refine ⟨fun pins s σ H Q I h => ?_⟩
  refine wpAny_Call_Name_kw (ld_blt I hg hm PySem.boot_len ?_ (by decide) (by decide))
  refine PyProof.Rows.callWith_builtin1 ?_ hs (by rfl)
  rw [hs]
  show wpAny _ _ (spliced ((false, eval e X.env) :: backTo pos (starEach [] X.env))) _ _ s
  refine Calls.spliced_cons (thn (he.run pins s σ H _ I h) fun u s1 ⟨⟨x, H1, I1, r1, q1⟩, g1⟩ => ?_)
  refine Calls.spliced_nil ?_
  obtain ⟨p0, ys, ex, hl, q⟩ := q1
  obtain rfl : x = .ref p0 := (List.cons.inj ex).1
  cases r1
  obtain ⟨its, r', pl, hz⟩ := I1.list hl
  have hlen := r'.length
  have hn := line63
  exact Calls.call_len_list pl.isList (by simp only [List.size_toArray] <;> omega) ⟨⟨.int ys.length, H1, I1.tok _, ⟨s1.toks + 1, by rw [List.size_toArray, hlen]⟩, q⟩, g1⟩
/-- a == b, a != b of whole numbers -/
theorem ptg_eq {a b : Expr} {ta tb : TE} (ha : PEg X a ta) (hb : PEg X b tb) (hm : behindInMarks .Eq b = false) : PTg X (.Compare a [.Eq] [b] pos) (fun σ H Q => ta σ H fun x H1 => tb σ H1 fun y H2 => ∃ i j : Int, x = .int i ∧ y = .int j ∧ Q (i == j) H2) := by
  refine ⟨fun pins s σ H Q I h => ?_⟩
  refine wpAny_isTrue_Compare1 (thn (ha.run pins s σ H _ I h) fun v s1 ⟨⟨x, H1, I1, r1, q1⟩, g1⟩ => thn (hb.run pins s1 σ H1 _ I1 q1) fun u s2 ⟨⟨y, H2, I2, r2, q2⟩, g2⟩ => ?_) hm
  obtain ⟨i, j, rfl, rfl, q⟩ := q2
  obtain ⟨t1, rfl⟩ := r1
  obtain ⟨t2, rfl⟩ := r2
  exact PySem.P.eq_int (wpAny_truthy_bool ⟨⟨H2, I2, q⟩, g2.trans g1⟩)
theorem ptg_ne {a b : Expr} {ta tb : TE} (ha : PEg X a ta) (hb : PEg X b tb) (hm : behindInMarks .NotEq b = false) : PTg X (.Compare a [.NotEq] [b] pos) (fun σ H Q => ta σ H fun x H1 => tb σ H1 fun y H2 => ∃ i j : Int, x = .int i ∧ y = .int j ∧ Q (i != j) H2) := by
  refine ⟨fun pins s σ H Q I h => ?_⟩
  refine wpAny_isTrue_Compare1 (thn (ha.run pins s σ H _ I h) fun v s1 ⟨⟨x, H1, I1, r1, q1⟩, g1⟩ => thn (hb.run pins s1 σ H1 _ I1 q1) fun u s2 ⟨⟨y, H2, I2, r2, q2⟩, g2⟩ => ?_) hm
  obtain ⟨i, j, rfl, rfl, q⟩ := q2
  obtain ⟨t1, rfl⟩ := r1
  obtain ⟨t2, rfl⟩ := r2
  exact PySem.P.ne_int (wpAny_truthy_bool ⟨⟨H2, I2, q⟩, g2.trans g1⟩)
theorem psg_if {c : Expr} {a b : List Stmt} {tc : TT} {t u : TS} (hc : PTg X c tc) (ha : PSsg X a t) (hb : PSsg X b u) : PSg X (.If c a b pos) (tIfS tc t u) := by
  refine ⟨fun pins s σ H D I h => ?_⟩
  refine wpAny_If (thn (hc.run pins s σ H _ I h) fun d s1 ⟨⟨H1, I1, q1⟩, g1⟩ => ?_)
  cases d with
  | true => exact thn (ha.run pins s1 σ H1 D I1 q1) fun f s2 ⟨q, g⟩ => ⟨q, g.trans g1⟩
  | false => exact thn (hb.run pins s1 σ H1 D I1 q1) fun f s2 ⟨q, g⟩ => ⟨q, g.trans g1⟩
theorem psg_break : PSg X (.Break pos) tBreak := ⟨fun _ _ σ H _ I h => wpAny_Break ⟨⟨σ, H, I, h⟩, rfl⟩⟩
def tAppG (tl te : TE) : TS := fun D σ H => tl σ H fun x H1 => ∃ l xs, x = .ref l ∧ H1 l = some (.lst xs) ∧ te σ H1 fun y H2 => ∃ xs2, H2 l = some (.lst xs2) ∧ xs2.length < sizeLine ∧ D.nx σ (upd H2 l (.lst (xs2 ++ [y])))
theorem psg_append {o e : Expr} {to te : TE} {apos cpos : Pos} (ho : PEg X o to) (he : PEg X e te)
    (hbase : attributeBase o "append" X.env (eval o X.env) = eval o X.env := by rfl)
    (hfew : ((backTo cpos (starEach [e] X.env)).all (fun x => !x.1) && (backToKw cpos (keywordEach [] X.env)).all (fun x => x.1.isSome)
      && decide ([e].length + ([] : List Keyword).length + (if ([] : List Keyword).isEmpty then 0 else 1) < 30)) = true := by rfl)
    (hline : (apos.endLine == cpos.line) = true := by rfl) (hs : starEach [e] X.env = (false, eval e X.env) :: starEach [] X.env := by rfl) (hsw : swapsWith (.Call (.Attribute o "append" apos) [e] [] cpos) none pos.line X.env = pure false := by rfl) :
    PSg X (.Expr (.Call (.Attribute o "append" apos) [e] [] cpos) pos) (tAppG to te) := by
  refine ⟨fun pins s σ H D I h => ?_⟩
  refine wpAny_Expr_any ?_ I.quiet hsw
  refine wpAny_Call_method_late hbase hfew hline rfl (thn (ho.run pins s σ H _ I h) fun v s1 ⟨⟨x, H1, I1, r1, l, xs, ex, hl, q1⟩, g1⟩ => ?_)
  subst ex
  obtain ⟨h1, h2⟩ := tyV_is (T := "list") I1 r1 (.inl ⟨rfl, xs, SqL.of hl⟩)
  refine ⟨"list", "list.append", PySem.F.plainAttrs_list, PySem.F.slot_list_append, PySem.F.type_list_append, h1, h2, ?_⟩
  cases r1
  rw [hs]
  refine Calls.callWith_builtin (by rfl) (Calls.evalArgs_plain ?_)
  refine Calls.spliced_cons (thn (he.run pins s1 σ H1 _ I1 q1) fun u s2 ⟨⟨y, H2, I2, r2, xs2, hl2, hz, q2⟩, g2⟩ => ?_)
  refine Calls.spliced_nil ?_
  obtain ⟨z, its, n, r, hln, e2⟩ := I2.lstM hl2
  refine call_meets PySem.F.slot_list_append ⟨_, e2, rfl⟩ PySem.F.entry_list_append (PySem.F.args_list_append_2 _ _) (PySem.list_append l its.toArray n u (by rw [List.size_toArray]; omega)) ⟨e2, ?_⟩
  refine ⟨⟨σ, _, I2.lset (its' := its ++ [u]) hl2 e2 (by simp) (r.append (.cons r2 .nil)) ?_, q2⟩, g2.trans g1⟩
  rw [List.length_append, List.length_singleton]
  omega
theorem pssg_nil : PSsg X [] tNext := ⟨fun pins s σ H D I h => wpAny_execs_nil ⟨⟨σ, H, I, h⟩, rfl⟩⟩
theorem pssg_cons {st : Stmt} {rest : List Stmt} {t u : TS} (h1 : PSg X st t) (h2 : PSsg X rest u) : PSsg X (st :: rest) (tSeq t u) := by
  refine ⟨fun pins s σ H D I h => ?_⟩
  refine wpAny_execs_cons (thn (h1.run pins s σ H { D with nx := u D } I h) fun f s1 ⟨q, g1⟩ => ?_)
  cases f with
  | next =>
    obtain ⟨σ', H', I', q⟩ := q
    exact thn (h2.run pins s1 σ' H' D I' q) fun f s2 ⟨q, g⟩ => ⟨q, g.trans g1⟩
  | ret v => exact ⟨q, g1⟩
  | brk => exact ⟨q, g1⟩
  | cont => exact ⟨q, g1⟩
/-! ### targets -/
theorem pgg_name {i : Nat} {x : Str} (hN : X.N.Nodup) (hi : X.N[i]? = some x) (hx : X.env.scope.names.lookup x = some .local) : PGg X (.Name x pos) (gName i) := by
  refine ⟨fun pins s σ H v u Q I r h => wpAny_assign_Name ?_⟩
  obtain ⟨m, hn, hl⟩ := id I.loc
  have hcls : (X.env.scope.kind == .class || (X.env.scope.kind == .module && X.env.locals != X.env.globals)) = false := by rw [I.ok.kind]; rfl
  have hiσ : i < σ.length := by rw [I.len]; exact (List.getElem?_eq_some_iff.mp hi).1
  have cne := I.cne
  have low : ∀ b o, X.s_0.heap.get? b = some o → b ≠ X.env.locals := fun b o e => Nat.ne_of_lt (Nat.lt_of_lt_of_le (Heap.lt_size e) I.ok.above)
  refine wpAny_storeName_local hx hn (fun h' hn' hs => ⟨⟨_, H, ?_, h⟩, rfl⟩) hcls
  refine ⟨I.ok, I.os, I.bare, ⟨fun b o e n hb hx' => ?_, fun b o e n hb hx' => ?_, I.base.free, fun b o e hx' => ?_, I.base.tups, I.base.frzs, I.base.tbls⟩, ⟨_, hn', fun j y v' e1 e2 e3 => ?_⟩, fun y c e => ?_, I.free, I.freeC, fun p hp => ?_, fun b ob e => ?_, by simpa using I.len⟩
  · rw [hs.2 b (low b o e)]
    exact I.base.keep b o e n hb hx'
  · obtain ⟨sl, e1⟩ := I.base.slot b o e n hb hx'
    exact ⟨sl, by rw [hs.2 b (low b o e)]; exact e1⟩
  · obtain ⟨o', e1⟩ := I.base.there b o e hx'
    exact ⟨o', by rw [hs.2 b (low b o e)]; exact e1⟩
  · by_cases hj : j = i
    · subst hj
      rw [hi] at e1
      cases e1
      rw [List.getElem?_set_self hiσ] at e2
      cases e2
      exact ⟨u, r, .inl ⟨hx, by simp⟩⟩
    · rw [List.getElem?_set_ne (Ne.symm hj)] at e2
      obtain ⟨u', r', q⟩ := hl j y v' e1 e2 e3
      refine ⟨u', r', ?_⟩
      rcases q with ⟨k, e⟩ | ⟨k, c, e, z⟩
      · have ne : y ≠ x := fun e => hj (nodup_ix hN e1 (by rw [e]; exact hi))
        exact .inl ⟨k, by simp [ne, e]⟩
      · exact .inr ⟨k, c, e, z.sameBut hs (cne y c e)⟩
  · obtain ⟨w', z⟩ := I.cell y c e
    exact ⟨w', z.sameBut hs (cne y c e)⟩
  · obtain ⟨e, n, ne, nf, d⟩ := I.pin p hp
    exact ⟨by rw [hs.2 p.1 ne]; exact e, n, ne, nf, d⟩
  · refine (I.hok b ob e).stay (fun c w' hc q => ?_) (fun _ q => q) fun _ _ q => q
    rw [hs.2 c ?_]
    · exact q
    · intro z
      rcases hc with hc | hc
      · rw [← hc, z, I.free] at e
        cases e
      · rw [z, I.free] at hc
        cases hc
theorem pgsg_nil : PGsg X [] gNil := by
  refine ⟨fun pins s σ H vs us Q I r h => ?_⟩
  obtain ⟨rfl, h⟩ := h
  cases r
  exact assignInOrder_nil ⟨⟨σ, H, I, h⟩, rfl⟩
theorem pgsg_cons {e : Expr} {es : List Expr} {t : TG} {u : TGs} (h1 : PGg X e t) (h2 : PGsg X es u)
    (hs : (assignEach (e :: es) X.env).map (·.2) = assign e X.env :: (assignEach es X.env).map (·.2) := by rfl) : PGsg X (e :: es) (gCons t u) := by
  refine ⟨fun pins s σ H vs us Q I r h => ?_⟩
  obtain ⟨v, vr, rfl, h⟩ := h
  cases r with
  | cons r rr =>
    rw [hs]
    refine assignInOrder_cons (thn (h1.run pins s σ H _ _ _ I r h) fun _ s1 ⟨⟨σ1, H1, I1, q1⟩, g1⟩ => ?_)
    exact thn (h2.run pins s1 σ1 H1 _ _ Q I1 rr q1) fun _ s2 ⟨q, g⟩ => ⟨q, g.trans g1⟩
theorem pgg_tup {es : List Expr} {k : Nat} {t : TGs} {n : Nat} (hc : X.calm = true) (h : PGsg X es t)
    (hn : (assignEach es X.env).length = n := by rfl) (hst : (assignEach es X.env).findIdx? (·.1) = none := by rfl) : PGg X (.Tuple es k pos) (gTup X.K n t) := by
  refine ⟨fun pins s σ H v u Q I r hw => ?_⟩
  obtain ⟨a, xs, rfl, hq, hl, hw⟩ := hw
  cases r
  obtain ⟨its, rv, ht, hz⟩ := I.tuple hq
  refine assign_Tuple_tuple (I.ok.hd hc) ht (by simp [hn, ← hl, rv.length]) hst fun h' hx => ?_
  have I1 : Inv X pins σ H { s with heap := h' } := I.kept (t' := s.toks) fun b o e => hx b o (Nat.ne_of_lt (Heap.lt_size e)) e
  exact thn (h.run pins _ σ H xs _ Q I1 (by simpa using rv) hw) fun _ s2 ⟨q, g⟩ => ⟨q, g⟩
end
end Gk
/-! A generator def's promise to a caller that goes on between its items. -/
namespace Gk
open PySem PySem.Spec PyProof.Rows L2 GenW
/-- arguments, heap, how many items at most, what the caller keeps, what is wanted at the end, what is wanted of an item -/
abbrev SpY := List V → Hp → Nat → L2.St → (L2.St → Hp → Prop) → (L2.St → V → Hp → (L2.St → Hp → Prop) → Prop) → Prop
def YRE (X : Cx) (Lk : LK) (dn : L2.St → Hp → Prop) : GenEnd := fun n s₀ r s1 =>
  ((r = .ok (.ret .none) ∨ r = .ok .next) ∧ ∃ γ H₀ pe H, Lk γ H₀ s₀ pe ∧ Went X pe H₀ s₀ H s1 ∧ dn γ H) ∨ ∃ e, r = .error e ∧ False
structure GenX (P : Program) (w : World) (base : Heap) (outer : List Env) (n0 : Nat) (X : Cx) : Prop where
  prog : X.prog = P
  w : X.w = w
  base : X.base = base
  outer : X.outer = outer
  loc : X.env.locals = n0
def YMade (P : Program) (w : World) (base : Heap) (k : Nat) (outer : List Env) (H : Hp) (s : Shared) (n : Nat) (γ : L2.St) (dn : L2.St → Hp → Prop) (yl : L2.St → V → Hp → (L2.St → Hp → Prop) → Prop) (u : Value) (s' : Shared) : Prop :=
  ∃ (a : Addr) (g : Nat) (c : Code) (go : Obj), u = .ref a ∧ s.heap.objs.size < a ∧ s'.heap.get? a = some go ∧ go.cls = .type "generator" ∧ (∃ nm qn, go.data = .fields #[.int g 0, nm, qn]) ∧ go.slots = #[] ∧ s'.gens[g]? = some (.fresh c) ∧ s'.os = s.os ∧ AllBare s'.gens ∧ s'.heap.NoLimit ∧ (∀ b o, s.heap.get? b = some o → s'.heap.get? b = some o) ∧
    ∀ (A : Around), Room k A → A.frames = some outer → ∃ X, GenX P w base outer s.heap.objs.size X ∧ ∀ (Lk : LK) (Ad : List Addr) (s2 : Shared) (pe : List (Addr × Obj)), (∀ b o, s'.heap.get? b = some o → s2.heap.get? b = some o) → Lk γ H s2 pe → On X s2 H → PeOk X Ad pe H s2 →
      Seg (model P w) A (YRE X Lk dn) (YP X Lk Ad yl) n s2 c ((model P w).den c) [] s2
structure GenYd (P : Program) (w : World) (K : PySem.W.Frag) (mg : Str → Option Value) (base : Heap) (k : Nat) (f : Addr) (fd : FuncData) (ps : List Str) (sp : SpY) : Prop where
  len : ∀ vs H n γ dn yl, sp vs H n γ dn yl → vs.length = ps.length
  run : ∀ (A : Around) (outer : List Env) (s : Shared) (H : Hp) (args : Args) (us : List Value) (vs : List V) (n : Nat) (γ : L2.St) (dn : L2.St → Hp → Prop) (yl : L2.St → V → Hp → (L2.St → Hp → Prop) → Prop), Room k A → Env0 P w K mg base A outer s H → BindsTo s fd args (ps.zip us) → Vals vs us → sp vs H n γ dn yl →
    codeAny (model P w) A (.call (.ref f) args) (fun r s' => match r with | .ok (.ret u) => YMade P w base k outer H s n γ dn yl u s' | _ => False) s
/-- the generator as it is made sleeps -/
theorem sleep0 {X : Cx} {H : Hp} {s : Shared} {σ : L2.St} (g : GCx X) (I : Inv X [] σ H s) : ∃ oL, s.heap.get? X.env.locals = some oL ∧ H X.env.locals = none ∧ Slept X [] σ oL := by
  obtain ⟨m, hn, hl⟩ := I.loc
  obtain ⟨o, es, ep, ho, r⟩ := hn
  have hd : o.data = .dict es ep := r.1
  refine ⟨o, ho, I.free, ⟨fun h e => ⟨m, ⟨o, es, ep, e, r⟩, fun i x v a b c => ?_⟩, fun p hp => (by cases hp), fun v z => ?_, ?_, I.len⟩⟩
  · obtain ⟨u, ru, l⟩ := hl i x v a b c
    refine ⟨u, ru, ?_⟩
    rcases l with l | ⟨_, c', e', _⟩
    · exact .inl l
    · rw [g.cells x] at e'
      cases e'
  · rw [hd] at z
    cases z
  · intro hb
    obtain ⟨_, o', e', _⟩ := I.ok.funs.mem hb
    have h1 := Heap.lt_size e'
    rw [g.n0] at h1
    exact absurd h1 (Nat.lt_irrefl _)
theorem gy_of {P : Program} {w : World} {K : PySem.W.Frag} {mg : Str → Option Value} {base : Heap} {k : Nat} {f : Addr} {name qual : Str} {params : Arguments} {body : List Stmt} {scope : Scope} {dV kV doc pm cdv ct oc : Value} {an od : Option Addr}
    {osl : Array (Option Value)} {N ps : List Str} {sp : SpY} (lk : K.lookup f = some ⟨oc, od, .func (PySem.W.fnOf name qual params body scope dV kV doc pm an cdv ct), osl⟩) (hcd : PySem.W.codeIn K cdv qual = true) (S : GScope N ps scope)
    (hcell : ∀ m x, (cellsFrom m scope.names []).lookup x = none)
    (len : ∀ vs H n γ dn yl, sp vs H n γ dn yl → vs.length = ps.length)
    (hbody : ∀ (A : Around) (outer : List Env) (s : Shared) (H : Hp) (vs : List V) (n : Nat) (γ : L2.St) (dn : L2.St → Hp → Prop) (yl : L2.St → V → Hp → (L2.St → Hp → Prop) → Prop), Room k (A.deeper (envOfC qual scope s.heap.objs.size f cdv)) → sp vs H n γ dn yl →
      ∃ t, YSs (fcx P w K mg base N qual scope f cdv A outer s H []) body t ∧ t { nx := fun _ γ _ H' => dn γ H', rt := fun _ γ v H' => v = .non ∧ dn γ H', yl := yl } n γ (start N vs) H) :
    GenYd P w K mg base (k + 1) f (PySem.W.fnOf name qual params body scope dV kV doc pm an cdv ct) ps sp := by
  refine ⟨len, fun A outer s H args us vs n γ dn yl hr e0 hb r hsp => ?_⟩
  have hl := len _ _ _ _ _ _ hsp
  have KX : K.In s.heap := e0.mod.kin.keeps fun b o e => (e0.bs b o e).1
  have lim : s.heap.NoLimit := e0.mod.nolimit.keeps fun b o e => (e0.bs b o e).1
  have hkind : ∀ y ∈ ps.zip us, scope.names.lookup y.1 = some .local ∨ (scope.names.lookup y.1 = some .cell ∧ ((cellsFrom (s.heap.objs.size + 1) scope.names []).lookup y.1).isSome = true) := fun ⟨n, v⟩ hy => by
    rcases S.par n (List.of_mem_zip hy).1 with q | q
    · exact .inl q
    · exact .inr ⟨q, PySem.W.cellsFrom_some _ _ _ (.inl q)⟩
  refine codeAny_call_generator hr.depth (KX _ _ lk) rfl S.co S.gen rfl (PySem.W.codeRec_of KX hcd) (hb _ _ _ _ ?_)
  refine wpAny_newFunctionEnv_cells S.kind hkind fun env he s1 x => ?_
  subst he
  have lim1 : s1.heap.NoLimit := lim.keeps x.toInCall.keep
  refine ⟨lim1, ?_⟩
  obtain ⟨h1, tk, es1, hk1⟩ := x.done
  have os1 : s1.os = s.os := by rw [es1]
  have gen1 : s1.gens = s.gens := by rw [es1]
  have lt1 : s.heap.objs.size < s1.heap.objs.size := x.toInCall.ns.lt
  have kp1 : ∀ b o, s.heap.get? b = some o → s1.heap.get? b = some o := x.toInCall.keep
  have main : ∀ (go : Obj) (nm qn : Value) (tk2 : Nat), go.cls = .type "generator" → go.data = .fields #[.int s1.gens.size 0, nm, qn] → go.slots = #[] → (∀ h : Heap, (h.push go).get? h.objs.size = some go) →
      YMade P w base (k + 1) outer H s n γ dn yl (.ref s1.heap.objs.size) { s1 with gens := s1.gens.push (.fresh (.func body (envOfC qual scope s.heap.objs.size f cdv))), toks := tk2, heap := s1.heap.push go } := by
    intro go nm qn tk2 hgc hgd0 hgs hgp
    refine ⟨s1.heap.objs.size, s1.gens.size, _, go, rfl, lt1, hgp _, hgc, ⟨nm, qn, hgd0⟩, hgs, Array.getElem?_push_size .., os1, AllBare.push (by rw [gen1]; exact e0.bare) rfl, lim1.keeps fun b o e => Heap.get?_push_of_some _ e, fun b o e => Heap.get?_push_of_some _ (kp1 b o e), ?_⟩
    intro Aw hrw hfr
    have g : GCx (fcx P w K mg base N qual scope f cdv Aw outer s H []) := ⟨rfl, rfl, rfl, rfl, fun x => hcell _ x, fun _ _ z => z⟩
    have e0w : Env0 P w K mg base Aw outer s H := ⟨hfr, e0.mod, e0.bs, e0.bsz, e0.funs, e0.frf, e0.hok, e0.bare⟩
    have I1 : Inv (gcxOf P w K mg base N qual scope f cdv Aw outer s H L2.E0 []) [] (start N vs) H s1 := inv_startG S hrw.hd e0w hl r x
    have G1 : Inv (fcx P w K mg base N qual scope f cdv Aw outer s H []) [] (start N vs) H s1 := Inv.wish (X := gcxOf P w K mg base N qual scope f cdv Aw outer s H L2.E0 []) I1 _
    obtain ⟨oL, hL, nL, SL⟩ := sleep0 g G1
    refine ⟨fcx P w K mg base N qual scope f cdv Aw outer s H [], ⟨rfl, rfl, rfl, rfl, rfl⟩, fun Lk Ad s2 pe hk2 lk2 on po => ?_⟩
    obtain ⟨t, ht, hq⟩ := hbody Aw outer s H vs n γ dn yl (hrw.deeper _) hsp
    have hL2 := hk2 _ _ (Heap.get?_push_of_some go hL)
    have I2 := waked g G1.ok on SL hL2 nL (fun p hp => (by cases hp)) po.2
    have yc : YC (fcx P w K mg base N qual scope f cdv Aw outer s H []) Ad [] Aw (.func body (envOfC qual scope s.heap.objs.size f cdv)) [] id := { toFC := ⟨over_func, rfl, rfl, rfl, fun _ _ z => z⟩, g := g, ok := G1.ok, ip := fun p hp => (by cases hp) }
    refine seg_func ?_
    refine ht.run Aw Lk Ad [] _ n γ s2 _ [] _ _ id id s2 (start N vs) H _ yc ⟨fun n' γ' s₀ s' fl H₀ pe' lk' ea' hn' hs => ?_⟩ ⟨H, pe, lk2, po.1, Nat.le_of_lt (Heap.lt_size hL2), I2⟩ hq
    have back : ∀ {σ' : L2.St} {H' : Hp}, Inv (re (fcx P w K mg base N qual scope f cdv Aw outer s H []) s₀ H₀) (pe' ++ []) σ' H' s' → Went (fcx P w K mg base N qual scope f cdv Aw outer s H []) pe' H₀ s₀ H' s' := fun {σ' H'} J =>
      ⟨J.os, J.bare, J.base, J.hok, fun p hp => let ⟨a, b, _⟩ := J.pin p (List.mem_append_right _ (List.mem_append_left _ hp)); ⟨a, b⟩⟩
    cases fl with
    | next =>
      obtain ⟨σ', H', J, hQ⟩ := hs
      exact seg_end (.ok (.ret .none)) (.inl ⟨.inl rfl, γ', H₀, pe', H', lk', back J, hQ⟩)
    | brk => obtain ⟨_, _, _, q⟩ := hs; exact False.elim q
    | cont => obtain ⟨_, _, _, q⟩ := hs; exact False.elim q
    | ret u =>
      obtain ⟨v, σ', H', J, rv, ev, hQ⟩ := hs
      subst ev
      have eu : u = Value.none := rv
      subst eu
      exact seg_end (.ok (.ret .none)) (.inl ⟨.inl rfl, γ', H₀, pe', H', lk', back J, hQ⟩)
  exact main _ _ _ _ rfl rfl rfl fun h => Heap.get?_push_size _ rfl
theorem gY_ok {P : Program} {w : World} {K : PySem.W.Frag} {mg : Str → Option Value} {base : Heap} {x qual : Str} {st : Stmt} {f : Addr} {fd : FuncData} {N ps : List Str} {k : Nat} {sp : SpY} (F : L2.Fun K x qual st f fd) (S : GScope N ps (defScope st))
    (hcell : ∀ m x, (cellsFrom m (defScope st).names []).lookup x = none) (len : ∀ vs H n γ dn yl, sp vs H n γ dn yl → vs.length = ps.length)
    (hbody : ∀ (cdv : Value) (A : Around) (outer : List Env) (s : Shared) (H : Hp) (vs : List V) (n : Nat) (γ : L2.St) (dn : L2.St → Hp → Prop) (yl : L2.St → V → Hp → (L2.St → Hp → Prop) → Prop), Room k (A.deeper (envOfC qual (defScope st) s.heap.objs.size f cdv)) → sp vs H n γ dn yl →
      ∃ t, YSs (fcx P w K mg base N qual (defScope st) f cdv A outer s H []) (defBody st) t ∧ t { nx := fun _ γ _ H' => dn γ H', rt := fun _ γ v H' => v = .non ∧ dn γ H', yl := yl } n γ (start N vs) H) :
    GenYd P w K mg base (k + 1) f fd ps sp := by
  obtain ⟨oc, od, kV, doc, pm, an, cdv, ct, osl, rfl, lk, hcd⟩ := F.ex
  exact gy_of lk hcd S hcell len fun A outer s H vs n γ dn yl hr h => hbody cdv A outer s H vs n γ dn yl hr h
structure Dgy (P : Program) (w : World) (K : PySem.W.Frag) (mg : Str → Option Value) (base : Heap) (k : Nat) (x : Str) (ps : List Str) (sp : SpY) : Prop where
  ex : ∃ (f : Addr) (fd : FuncData), GenYd P w K mg base k f fd ps sp ∧ mg x = some (.ref f) ∧ PySem.W.keepIn K (.ref f) = true ∧ Binds K fd ps []
end Gk
/-! for x in f(..): .., the generator going on turn by turn. -/
namespace Gk
open PySem PySem.Spec PyProof.Rows L2 GenW
section
variable {X X' : Cx} {pins pe : List (Addr × Obj)} {γ : L2.St} {H H₀ : Hp} {s s₀ : Shared} {n0 : Nat}
/-- the caller behind a turn of the generator -/
theorem turn_back (I : Inv X pins γ H₀ s₀) (gx : GenX X.prog X.w X.base X.stack n0 X') (hlow : X.env.locals < n0) (hcells : ∀ x c, X.env.cells.lookup x = some c → c < n0) (hpins : ∀ p ∈ X.pn ++ pins, p.1 < n0) (W : Went X' pe H₀ s₀ H s)
    {s' : Shared} (es : s'.heap = s.heap) (eo : s'.os = s.os) (eg : AllBare s'.gens) : Inv X pins γ H s' := by
  have hfs : X'.fs = frs X.stack := by
    show frs X'.outer = _
    rw [gx.outer]
  have un := W.un
  rw [hfs, gx.loc] at un
  have low : ∀ {b : Addr} {o : Obj}, s₀.heap.get? b = some o → b ∉ (List.range s₀.heap.objs.size).filter (fun b => decide (n0 ≤ b)) → (cut s₀.heap n0).get? b = some o := fun {b o} e hb => by
    refine cut_of ?_ e
    rcases Nat.lt_or_ge b n0 with z | z
    · exact z
    · exact absurd (List.mem_filter.mpr ⟨List.mem_range.mpr (Heap.lt_size e), decide_eq_true z⟩) hb
  have hok : HOk X.prog X.w H s'.heap := by
    have := W.hok
    rw [gx.prog, gx.w] at this
    rw [es]
    exact this
  refine I.call' (ch := (List.range s₀.heap.objs.size).filter (fun b => decide (n0 ≤ b))) (eo.trans W.os) ?_ hok eg fun b hb => ?_
  · rw [es]
    exact ⟨fun b o e n hb hc => un.keep b o (low e hc) n hb (by simp), fun b o e n hb hc => un.slot b o (low e hc) n hb (by simp), fun b o e n hc => un.free b o (low e hc) n (by simp), fun b o e hc => un.there b o (low e hc) (by simp), un.tups, un.frzs, un.tbls⟩
  · have hge : n0 ≤ b := of_decide_eq_true (List.mem_filter.mp hb).2
    refine ⟨.inr (Nat.le_trans I.ok.above (Nat.le_trans (Nat.le_of_lt hlow) hge)), fun z => ?_, fun x c e z => ?_, fun p hp z => ?_⟩
    · rw [z] at hge
      exact absurd hlow (Nat.not_lt.mpr hge)
    · have := hcells x c e
      rw [z] at this
      exact absurd this (Nat.not_lt.mpr hge)
    · have := hpins p hp
      rw [z] at this
      exact absurd this (Nat.not_lt.mpr hge)
theorem on_of (I : Inv X pins γ H s) (gx : GenX X.prog X.w X.base X.stack n0 X') : On X' s H := by
  have e := I.env0
  have hfs : X'.fs = frs X.stack := by
    show frs X'.outer = _
    rw [gx.outer]
  refine ⟨fun b o h => e.bs b o (by rw [← gx.base]; exact h), by rw [gx.base]; exact e.bsz, by rw [gx.base, gx.outer]; exact e.funs, fun b hb => e.frf b (by rw [← hfs]; exact hb), by rw [gx.prog, gx.w]; exact e.hok, e.bare⟩
theorem inv_gens {s' : Shared} (I : Inv X pins γ H s) (eh : s'.heap = s.heap) (eo : s'.os = s.os) (eg : AllBare s'.gens) : Inv X pins γ H s' :=
  I.call' (ch := []) eo (by rw [eh]; exact Un.refl) (by rw [eh]; exact I.hok) eg fun b z => by cases z
end
section
variable {X : Cx} {k : Nat} {f : Addr} {fd : FuncData} {ps : List Str} {sp : SpY} {x : Str} {p pos fpos : Pos} {e : Expr} {es : List Expr} {t : TA} {tg : Expr} {g : TG} {tb : TS} {body : List Stmt}
def tForY (sp : SpY) (t : TA) (g : TG) (tb : TS) : TS := fun D σ H => t σ H fun vs H1 => ∃ n, sp vs H1 n σ (fun γ H2 => D.nx γ H2) (fun γ v H2 k => g v γ H2 fun σ3 H3 => tb { D with nx := k, ct := k, bk := D.nx } σ3 H3)
theorem ps_forY (F : GenYd X.prog X.w X.K X.mg X.base k f fd ps sp) (hr : Room (k + 3) X.A) (hx : Gl X x) (hm : X.mg x = some (.ref f)) (hk : PySem.W.keepIn X.K (.ref f) = true) (hbn : Binds X.K fd ps [])
    (ha : PA X (e :: es) t) (hp : PassesOwn (model X.prog X.w) X.A X.env X.xe) (hc : X.calm = true) (hg : PGg X tg g) (hb : PSsg X body tb)
    (hdb : (x == ("__debug__" : Str)) = false := by decide) (he : starEach (e :: es) X.env = (false, eval e X.env) :: starEach es X.env := by rfl) (hpl : (backTo pos (starEach es X.env)).any (·.1) = false := by rfl)
    (hs : ∀ v, foldedSetIterable (.Call (.Name x p) (e :: es) [] pos) X.env v = pure v := by intro _; rfl) :
    PS X (.For tg (.Call (.Name x p) (e :: es) [] pos) body [] fpos) (tForY sp t g tb) := by
  refine ⟨fun pins s σ H D I h => ?_⟩
  refine wpAny_For ?_ hs
  refine wpAny_Call_Name_kw (ld_glob I hx hm ?_ hdb)
  refine PySem.W.callWith_K (h₀ := X.base) I.ok.mod.kin hk (thn (ha.run pos pins s σ H _ I h) fun us s1 ⟨vs, H1, I1, r1, n, q1⟩ => ⟨I1.kIn, ?_⟩) he hpl
  have hl : (us ++ []).length = ps.length := by rw [List.append_nil, ← r1.length]; exact F.len _ _ _ _ _ _ q1
  have b := hbn s1 us I1.kIn hl
  rw [List.append_nil] at b
  refine wpAny_call (codeAny_mono (F.run X.A X.stack s1 H1 ⟨us, []⟩ us vs n σ _ _ (hr.mono (by omega)) I1.env0 b r1 q1) fun res s2 hq => ?_)
  cases res with
  | error er => exact False.elim hq
  | ok fl =>
    cases fl with
    | brk => exact False.elim hq
    | cont => exact False.elim hq
    | next => exact False.elim hq
    | ret u =>
      obtain ⟨a, gi, c, go, rfl, ha1, hgo, hgc, ⟨nm, qn, hgd⟩, hgs, hfr, hos, hbare, hlim, hkp, wake⟩ := hq
      have isg : ∀ h : Heap, h.get? a = some go → h.IsGen a gi := fun h e => ⟨go, nm, qn, e, hgc, hgd, hgs⟩
      refine wpAny_pyIter_gen (isg _ hgo) ?_
      have rm : Room k X.A.in1 := ⟨hr.hd, by have := hr.dp; show X.A.depth + 3 * k + 5 < _; omega, by have := hr.un; show X.A.units + 1 + 16 * k + 200 < _; omega⟩
      have dep : X.A.depth < recursionLimit := by have := hr.dp; omega
      obtain ⟨X', gx, seg⟩ := wake X.A.in1 rm I1.ok.frames
      have hlow : X.env.locals < s1.heap.objs.size := I1.lt
      have hcells : ∀ y c, X.env.cells.lookup y = some c → c < s1.heap.objs.size := fun y c e => by
        obtain ⟨v, z⟩ := I1.cell y c e
        exact z.lt
      have hpins : ∀ q ∈ X.pn ++ pins, q.1 < s1.heap.objs.size := fun q hq => Heap.lt_size (I1.pin q hq).1
      have hfsl : ∀ z ∈ X.fs, z < s1.heap.objs.size := fun z hz => by
        obtain ⟨_, o, ho, _⟩ := I1.ok.funs.mem hz
        exact Nat.lt_of_lt_of_le (Heap.lt_size ho) I1.sz
      have hfs' : X'.fs = frs X.stack := by
        show frs X'.outer = _
        rw [gx.outer]
      have hstk : ∀ z ∈ frs X.stack, z < s1.heap.objs.size := fun z hz => by
        rcases List.mem_cons.mp (I1.stkSub z hz) with q | q
        · rw [q]; exact hlow
        · exact hfsl z q
      have nocell : ∀ v, go.data ≠ .cell v := fun v z => by rw [hgd] at z; cases z
      have na1 : H1 a = none := I1.hok.fresh (Nat.le_of_lt ha1)
      have I2 : Inv X pins σ H1 s2 := I1.call' (ch := []) hos (Un.kept hkp) (I1.hok.kept hkp) hbare fun b z => by cases z
      -- what links the two
      have peOk : ∀ {H' : Hp} {s' : Shared}, s'.heap.get? a = some go → H' a = none → PeOk X' [a] [(a, go)] H' s' := fun {H' s'} e n => ⟨rfl, fun q hq => by
        rw [List.mem_singleton.mp hq]
        refine ⟨e, n, ?_, ?_, nocell⟩
        · rw [gx.loc]
          exact Nat.ne_of_gt ha1
        · rw [hfs']
          exact fun z => absurd (hstk a z) (Nat.not_lt.mpr (Nat.le_of_lt ha1))⟩
      refine codeAny_forLoop_any (fun m s' => ∃ γ H' gs, Inv X pins γ H' s' ∧ s'.heap.get? a = some go ∧ H' a = none ∧ s'.gens[gi]? = some gs ∧
        gs.Goes (model X.prog X.w) X.A.in1 (YRE X' (fun γ H s pe => Inv X pins γ H s ∧ pe = [(a, go)]) (fun γ H2 => D.nx γ H2)) (YP X' (fun γ H s pe => Inv X pins γ H s ∧ pe = [(a, go)]) [a] (fun γ v H2 k => g v γ H2 fun σ3 H3 => tb { D with nx := k, ct := k, bk := D.nx } σ3 H3)) m (.send .none) (s'.setGen gi .running)) ?_ n ?_
      · rintro m s3 ⟨γ, H3, gs, I3, hgo3, na3, hg3, goes⟩
        have hgl : gi < s3.gens.size := (Array.getElem?_eq_some_iff.mp hg3).1
        refine wpAny_passesOwn hp (wpAny_gsz (n := gi + 1) hgl (next_genG (F := fun _ s₀ s₁ => ∃ γ H₀ pe H, (Inv X pins γ H₀ s₀ ∧ pe = [(a, go)]) ∧ Went X' pe H₀ s₀ H s₁ ∧ D.nx γ H) (Er := fun _ _ => False) (I3.ok.hd hc) I3.nolimit dep (isg _ hgo3) hg3 goes (fun v s₁ gs' hbg hv => ?_) (fun s₁ hf h' hk' => ?_) fun e s₁ z => z.elim))
        · intro hsz
          obtain ⟨γ1, H₀, H4, pe, hl, y, kk, ⟨J0, epe⟩, rv, W, hhl, q, kap⟩ := hv
          subst epe
          have J : Inv X pins γ1 H4 (s₁.setGen gi gs') := turn_back J0 gx hlow hcells hpins W rfl rfl (allBare_setGen W.bare hbg)
          obtain ⟨hgo4, na4⟩ := W.pe (a, go) (List.mem_singleton.mpr rfl)
          have hgi : gi < s₁.gens.size := by
            have q : (s₁.setGen gi gs').gens.size = s₁.gens.size := setGen_size _ _ _
            have : gi + 1 ≤ (s₁.setGen gi gs').gens.size := hsz
            omega
          have pinsOk : ∀ q ∈ pins ++ ((a, go) :: hl), (s₁.setGen gi gs').heap.get? q.1 = some q.2 ∧ H4 q.1 = none ∧ q.1 ≠ X.env.locals ∧ q.1 ∉ X.fs ∧ ∀ v, q.2.data ≠ .cell v := fun q hq => by
            have big : s1.heap.objs.size ≤ q.1 → q.1 ≠ X.env.locals ∧ q.1 ∉ X.fs := fun z => ⟨fun w => absurd hlow (Nat.not_lt.mpr (by rw [← w]; exact z)), fun w => absurd (hfsl _ w) (Nat.not_lt.mpr z)⟩
            rcases List.mem_append.mp hq with hq | hq
            · exact J.pin q (List.mem_append_right _ hq)
            · rcases List.mem_cons.mp hq with rfl | hq
              · exact ⟨hgo4, na4, (big (Nat.le_of_lt ha1)).1, (big (Nat.le_of_lt ha1)).2, nocell⟩
              · obtain ⟨h1, h2, h3, _, h4⟩ := hhl q hq
                rw [gx.loc] at h3
                exact ⟨h1, h2, (big h3).1, (big h3).2, h4⟩
          have J' : Inv X (pins ++ ((a, go) :: hl)) γ1 H4 (s₁.setGen gi gs') := J.pins_of pinsOk
          refine go_of (s := s₁.setGen gi gs') (o := go) (n := "generator") hgo4 hgc hgd (by decide) ?_
          refine wpAny_passesOwn hp (thn (hg.run _ _ γ1 H4 y v _ J' rv q) fun _ s6 ⟨⟨σ6, H6, I6, q6⟩, g6⟩ => ?_)
          refine wpAny_passesOwn hp (thn (hb.run _ s6 σ6 H6 _ I6 q6) fun f s7 ⟨q7, g7⟩ => ?_)
          have eg : s7.gens[gi]? = some gs' := by
            rw [g7, g6]
            exact setGen_at hgi
          have unp : ∀ {σ' : L2.St} {H' : Hp}, Inv X (pins ++ ((a, go) :: hl)) σ' H' s7 → Inv X pins σ' H' s7 := fun {σ' H'} K7 => K7.pins_of fun q hq => K7.pin q (List.mem_append_right _ (List.mem_append_left _ hq))
          have again : ∀ {σ' : L2.St} {H' : Hp}, Inv X (pins ++ ((a, go) :: hl)) σ' H' s7 → kk σ' H' → ∃ m', m' < m ∧ ∃ γ H' gs, Inv X pins γ H' s7 ∧ s7.heap.get? a = some go ∧ H' a = none ∧ s7.gens[gi]? = some gs ∧
              gs.Goes (model X.prog X.w) X.A.in1 (YRE X' (fun γ H s pe => Inv X pins γ H s ∧ pe = [(a, go)]) (fun γ H2 => D.nx γ H2)) (YP X' (fun γ H s pe => Inv X pins γ H s ∧ pe = [(a, go)]) [a] (fun γ v H2 k => g v γ H2 fun σ3 H3 => tb { D with nx := k, ct := k, bk := D.nx } σ3 H3)) m' (.send .none) (s7.setGen gi .running) := fun {σ' H'} K7 hkk => by
            obtain ⟨b1, b2, _⟩ := K7.pin (a, go) (List.mem_append_right _ (List.mem_append_right _ List.mem_cons_self))
            have K8 : Inv X pins σ' H' (s7.setGen gi .running) := inv_gens (unp K7) rfl rfl (allBare_setGen K7.bare rfl)
            have z := kap σ' H' (s7.setGen gi .running) [(a, go)] hkk ⟨K8, rfl⟩ (on_of K8 gx) (peOk b1 b2) fun q hq => by
              obtain ⟨c1, c2, _⟩ := K7.pin q (List.mem_append_right _ (List.mem_append_right _ (List.mem_cons_of_mem _ hq)))
              exact ⟨c1, c2⟩
            cases m with
            | zero => exact z.elim
            | succ m => exact ⟨m, Nat.lt_succ_self m, σ', H', gs', unp K7, b1, b2, eg, z⟩
          cases f with
          | next => obtain ⟨σ', H', K7, z⟩ := q7; exact again K7 z
          | cont => obtain ⟨σ', H', K7, z⟩ := q7; exact again K7 z
          | brk => obtain ⟨σ', H', K7, z⟩ := q7; exact ⟨σ', H', unp K7, z⟩
          | ret v => obtain ⟨v', σ', H', K7, rv', z⟩ := q7; exact ⟨v', σ', H', unp K7, rv', z⟩
        · intro _
          obtain ⟨γ1, H₀, pe, H4, ⟨J0, epe⟩, W, q⟩ := hf
          have J1 : Inv X pins γ1 H4 (s₁.setGen gi .finished) := turn_back J0 gx hlow hcells hpins W rfl rfl (allBare_setGen W.bare rfl)
          have J : Inv X pins γ1 H4 { s₁.setGen gi .finished with heap := h' } := J1.kept (t' := s₁.toks) hk'
          exact wpAny_execs_nil ⟨γ1, H4, J, q⟩
      · have I3 : Inv X pins σ H1 (s2.setGen gi .running) := inv_gens I2 rfl rfl (allBare_setGen hbare rfl)
        exact ⟨σ, H1, _, I2, hgo, na1, hfr, rfl, seg _ [a] (s2.setGen gi .running) [(a, go)] (fun _ _ z => z) ⟨I3, rfl⟩ (on_of I3 gx) (peOk hgo na1)⟩
end
end Gk
/-! A for over a range within a generator that goes on; for over such a def. -/
namespace Gk
open PySem PySem.Spec PyProof.Rows L2 GenW
theorem for_rangeY {lo : Int} {n : Nat} {g : TG} {tb : TY} {D : YEnds} {m : Nat} {γ σ : L2.St} {H : Hp} (Pv : Nat → Nat → L2.St → L2.St → Hp → Prop) (h0 : Pv 0 m γ σ H)
    (hs : ∀ i m γ σ H, i < n → Pv i m γ σ H → g (.int (lo + i)) σ H fun σ2 H2 => tb { D with nx := Pv (i + 1), ct := Pv (i + 1), bk := D.nx } m γ σ2 H2) (hd : ∀ m γ σ H, Pv n m γ σ H → D.nx m γ σ H) :
    ∃ W : Nat → Nat → Nat → L2.St → L2.St → Hp → Prop, (∃ e, W 0 e m γ σ H) ∧ ∀ i e m γ σ H, W i e m γ σ H →
      ((Itr lo n).stop i H ∧ D.nx m γ σ H) ∨ ((Itr lo n).go i H ∧ ∃ N : Nat → L2.St → L2.St → Hp → Prop, (∀ m' γ' σ' H', N m' γ' σ' H' → ∃ e', e' < e ∧ W (i + 1) e' m' γ' σ' H') ∧ ∀ x H', (Itr lo n).yld i H x H' → g x σ H' fun σ2 H2 => tb { D with nx := N, ct := N, bk := D.nx } m γ σ2 H2) := by
  refine ⟨fun i e m γ σ H => e = n - i ∧ i ≤ n ∧ Pv i m γ σ H, ⟨n, rfl, Nat.zero_le _, h0⟩, fun i e m γ σ H ⟨h1, h2, p⟩ => ?_⟩
  subst h1
  rcases Nat.lt_or_ge i n with c | c
  · exact .inr ⟨c, Pv (i + 1), fun m' γ' σ' H' p' => ⟨n - (i + 1), by omega, rfl, c, p'⟩, fun x H' ⟨e1, e2⟩ => by subst e1 e2; exact hs i m γ σ _ c p⟩
  · obtain rfl : i = n := by omega
    exact .inl ⟨Nat.le_refl _, hd m γ σ H p⟩
section
variable {X : Cx} {k : Nat} {ps : List Str} {sp : SpY} {x : Str} {p pos fpos : Pos} {e : Expr} {es : List Expr} {t : TA} {tg : Expr} {g : TG} {tb : TS} {body : List Stmt}
theorem ps_forYD (D : Dgy X.prog X.w X.K X.mg X.base k x ps sp) (hr : Room (k + 3) X.A) (hx : Gl X x) (ha : PA X (e :: es) t) (hp : PassesOwn (model X.prog X.w) X.A X.env X.xe) (hc : X.calm = true) (hg : PGg X tg g) (hb : PSsg X body tb)
    (hdb : (x == ("__debug__" : Str)) = false := by decide) (he : starEach (e :: es) X.env = (false, eval e X.env) :: starEach es X.env := by rfl) (hpl : (backTo pos (starEach es X.env)).any (·.1) = false := by rfl)
    (hs : ∀ v, foldedSetIterable (.Call (.Name x p) (e :: es) [] pos) X.env v = pure v := by intro _; rfl) :
    PS X (.For tg (.Call (.Name x p) (e :: es) [] pos) body [] fpos) (tForY sp t g tb) := by
  obtain ⟨f, fd, F, hm, hk, hbn⟩ := D.ex
  exact ps_forY F hr hx hm hk hbn ha hp hc hg hb hdb he hpl hs
end
/-- what stands as a tuple stays, a list being written -/
theorem keep_wr {K : PySem.W.Frag} {H : Hp} {D : Addr} {as bs : List V} (h : H D = some (.lst as)) : Keep K H (upd H D (.lst bs)) := fun a xs q => by
  have ne : ∀ {o : HO}, H a = some o → (∀ zs, o ≠ .lst zs) → upd H D (.lst bs) a = some o := fun {o} e n => by
    rw [upd_ne]
    · exact e
    · rintro rfl
      rw [h] at e
      exact n as (Option.some.inj e).symm
  rcases q with (q | ⟨u, q⟩) | q
  · exact .inl (.inl (ne q fun zs z => by cases z))
  · exact .inl (.inr ⟨u, ne q fun zs z => by cases z⟩)
  · exact .inr q
end Gk
namespace Pf
open PySem PySem.Spec PyProof.Rows L2 Gk Fold
abbrev sGroups : Stmt := topS 20
abbrev nGroups : List Str := ["trace", "scheme", "places", "position", "cell"]
theorem scGroups : FnScope nGroups ["trace", "scheme"] (defScope sGroups) := ⟨rfl, rfl, rfl, by decide +kernel, rfl, by decide +kernel, by decide +kernel⟩
theorem kV_inj {a b : L2.Key} (h : kV a = kV b) : a = b := by
  cases a <;> cases b <;> first | (injection h with h; rw [h]) | (cases h)
theorem KeyV.inj {H : Hp} {v : V} {c c' : CK} (h1 : KeyV H v c) (h2 : KeyV H v c') : c = c' := by
  cases c with
  | inl q =>
    cases c' with
    | inl q' => rw [kV_inj ((show v = kV q from h1).symm.trans h2)]
    | inr q' =>
      obtain ⟨p, e, _⟩ := h2
      have h1 : v = kV q := h1
      rw [e] at h1
      cases q <;> cases h1
  | inr q =>
    obtain ⟨p, e, hp⟩ := h1
    cases c' with
    | inl q' =>
      have h2 : v = kV q' := h2
      rw [e] at h2
      cases q' <;> cases h2
    | inr q' =>
      obtain ⟨p', e', hp'⟩ := h2
      rw [e] at e'
      injection e' with e'
      subst e'
      rw [hp] at hp'
      injection hp' with hp'
      injection hp' with hp'
      rw [(List.map_inj_right fun x y => kV_inj).mp hp']
theorem new_dk {k : Str} {σ : L2.St} {H : Hp} {Q : VK} (h : ∀ vd, H vd = none → ∀ H', (∀ z, z ≠ vd → H' z = H z) → DK H' vd k (fun _ => none) [] → Q (.ref vd) H') : tDNewK σ H Q ∨ tDNewT σ H Q := by
  cases t : tupK k with
  | false => exact .inl fun vd n => h vd n _ (fun z hz => upd_ne hz) (.inl ⟨t, [], upd_same, rfl, fun _ => rfl⟩)
  | true => exact .inr fun vd n => h vd n _ (fun z hz => upd_ne hz) (.inr ⟨t, [], upd_same, rfl, fun _ => rfl⟩)
theorem keep_but' {K : PySem.W.Frag} {H H' : Hp} {v : Addr} {o : HO} (e : H v = some o) (n1 : ∀ ts, o ≠ .tup ts) (n2 : ∀ a u, o ≠ .frz a u) (ne : ∀ z, z ≠ v → H' z = H z) : Keep K H H' := fun a xs h => by
  rcases h with (h | ⟨u, h⟩) | h
  · exact .inl (.inl (by rw [ne a (fun z => by rw [z, e] at h; exact n1 _ (Option.some.inj h))]; exact h))
  · exact .inl (.inr ⟨u, by rw [ne a (fun z => by rw [z, e] at h; exact n2 _ _ (Option.some.inj h))]; exact h⟩)
  · exact .inr h
abbrev posV (l : List (Int × Int)) (k : Str) (x : Option Int) (L : Nat) (c : CK) (i : Nat) : List V := (posL l k x L c i).map fun n : Nat => V.int (n : Int)
/-- a group: a cell and its positions -/
def Ent (K : PySem.W.Frag) (H : Hp) (e : V) (c : CK) (ps : List Nat) : Prop := ∃ a v b, e = .ref a ∧ H a = some (.tup [v, .ref b]) ∧ KeyV H v c ∧ SqT K H b (ps.map fun n : Nat => V.int (n : Int))
theorem Ent.keep {K : PySem.W.Frag} {H H' : Hp} {e : V} {c : CK} {ps : List Nat} (h : Ent K H e c ps) (kp : Keep K H H') (s : ∀ b ts, H b = some (.tup ts) → H' b = some (.tup ts)) : Ent K H' e c ps := by
  obtain ⟨a, v, b, rfl, h1, h2, h3⟩ := h
  exact ⟨a, v, b, rfl, s _ _ h1, h2.same s, kp _ _ h3⟩
section
variable {P : Program} {w : World} {K : PySem.W.Frag} {mg : Str → Option Value} {base : Heap}
theorem Dfn.imp {k : Nat} {x : Str} {ps : List Str} {sp sp' : Sp} (D : Dfn P w K mg base k x ps sp) (h : ∀ vs H Q E, sp' vs H Q E → sp vs H Q E) : Dfn P w K mg base k x ps sp' := by
  obtain ⟨f, fd, F, a, b, c⟩ := D.ex
  exact ⟨f, fd, F.imp h, a, b, c⟩
theorem perm_of_nodup {α : Type} [DecidableEq α] : ∀ {xs ys : List α}, xs.Nodup → (∀ c ∈ xs, c ∈ ys) → ys.length ≤ xs.length → ys.Perm xs
  | [], ys, _, _, h => by
    rw [List.eq_nil_of_length_eq_zero (Nat.le_zero.mp h)]
  | a :: xs, ys, nd, sub, h => by
    obtain ⟨n1, n2⟩ := List.nodup_cons.mp nd
    have ha := sub a List.mem_cons_self
    have p := List.perm_cons_erase ha
    refine p.trans (List.Perm.cons a (perm_of_nodup n2 (fun c hc => ?_) ?_))
    · exact (List.mem_erase_of_ne (fun z => n1 (by rw [← z]; exact hc))).mpr (sub c (List.mem_cons_of_mem _ hc))
    · rw [List.length_erase_of_mem ha]
      rw [List.length_cons] at h
      omega
theorem list_choice {α β : Type} {P : Nat → α → β → Prop} : ∀ {xs : List α} (n : Nat), (∀ (i : Nat) (a : α), xs[i]? = some a → ∃ b, P (n + i) a b) → ∃ bs : List β, bs.length = xs.length ∧ ∀ (i : Nat) (a : α) (b : β), xs[i]? = some a → bs[i]? = some b → P (n + i) a b
  | [], _, _ => ⟨[], rfl, fun i a b h => by simp at h⟩
  | a :: xs, n, h => by
    obtain ⟨b, hb⟩ := h 0 a rfl
    obtain ⟨bs, hl, hbs⟩ := list_choice (xs := xs) (P := P) (n + 1) fun i a' e => by
      have := h (i + 1) a' (by simpa using e)
      rwa [show n + 1 + i = n + (i + 1) by omega]
    refine ⟨b :: bs, by rw [List.length_cons, List.length_cons, hl], fun i a' b' e1 e2 => ?_⟩
    cases i with
    | zero =>
      obtain rfl := Option.some.inj e1
      obtain rfl := Option.some.inj e2
      exact hb
    | succ i =>
      have := hbs i a' b' (by simpa using e1) (by simpa using e2)
      rwa [show n + 1 + i = n + (i + 1) by omega] at this
/-- groups, cell by cell, each once -/
def spGroups (K : PySem.W.Frag) : Sp := fun vs H Q _ => ∃ (t c : Addr) (l : List (Int × Int)) (k : Str) (z : Int) (x : Option Int), vs = [.ref t, .ref c] ∧ PairsAt K H t l ∧ Fair l ∧ 1 ≤ l.length ∧ l.length ≤ 62 ∧ SqT K H c (planV k z x) ∧ PlanOk k z x ∧
  ∀ H' p es (cs : List CK), Same H H' → SqT K H' p es → es.length = cs.length → es.length ≤ l.length → cs.Pairwise ckLt → (∀ c ∈ cs, ∃ j, j < l.length ∧ c = sK l k x z.toNat j) → (∀ j, j < l.length → sK l k x z.toNat j ∈ cs) →
    (∀ (i : Nat) (e : V) (c : CK), es[i]? = some e → cs[i]? = some c → Ent K H' e c (posL l k x z.toNat c l.length)) → Q (.ref p) H'
theorem ok_groups {f : Addr} {fd : FuncData} (DS : Dfn P w K mg base 5 "steady_cells" ["trace", "scheme"] (spSCellsC K)) (me : mg "enumerate" = none) (ms : mg "sorted" = none) (mt : mg "tuple" = none)
    (F : L2.Fun K "groups" "groups" sGroups f fd) : FnOk P w K mg base L2.CX0 6 f fd ["trace", "scheme"] (spGroups K) := by
  refine F.ok scGroups (fun vs H Q E h => ?_) (fun cdv A outer s H vs Q E hr h => ?_)
  · obtain ⟨t, c, l, k, z, x, rfl, _⟩ := h
    rfl
  · obtain ⟨t, c, l, k, z, x, rfl, hl, fair, l1, l62, hc, ok, q⟩ := h
    have hu : (A.deeper (envOfC "groups" (defScope sGroups) s.heap.objs.size f cdv)).units + 1 < cLine := Nat.lt_of_le_of_lt (Nat.add_le_add_left (by decide : 1 ≤ 64) _) hr.units
    refine ⟨_, pss_cons (ps_set (i := 2) scGroups.nd rfl (.inr rfl) pe_dnewC)
      (pss_cons (ps_for PassesOwn.never rfl (pi_enumU rfl me (pa_cons (pe_d DS hr (by decide) (by rfl) (pa_cons (pv 0) (pa_cons (pv 1) pa_nil))) pa_nil)) (pg_tup (by rfl) (pgs_cons (pg_name (i := 3) scGroups.nd rfl (.inl rfl)) (pgs_cons (pg_name (i := 4) scGroups.nd rfl (.inl rfl)) pgs_nil)))
        (pss_one (ps_expr (pe_bm PySem.F.plainAttrs_list PySem.F.slot_list_append PySem.F.type_list_append mt_append (pe_bm PySem.F.plainAttrs_dict PySem.F.slot_dict_setdefault PySem.F.type_dict_setdefault (MtR.either mt_setdK (mt_setdT hu)) (pv 2) (pa_cons (pv 4) (pa_cons (pe_lst pa_nil) pa_nil))) (pa_cons (pv 3) pa_nil)))))
      (pss_one (ps_ret (pe_callTy call_tuple_of (by rfl) mt (by decide +kernel) (pa_cons (pe_lc (own := [("cell", 4)]) (g := gName 4) (by rfl) scGroups.nd (pi_list (pe_callB (cr_sorted3 (by rfl)) (by rfl) ms (by decide +kernel) (pa_cons (pv 2) pa_nil))) (blkOk_by (N := nGroups) (sc := defScope sGroups) (by decide +kernel))
          (fun _ _ _ _ _ => pg_name (i := 4) scGroups.nd rfl (.inl rfl)) (fun _ _ _ _ _ => pts_nil) (fun _ _ _ _ _ => pe_tup (pa_cons (pv 4) (pa_cons (pe_callTy (call_tupleK K) (by rfl) mt (by decide +kernel) (pa_cons (pe_dget hu (pv 2) (pv 4) (fun _ _ => rfl)) pa_nil)) pa_nil)))) pa_nil))))), ?_⟩
    obtain ⟨xst, sqt, hAt, lt⟩ := PairsAt.out hl
    have big : 64 < sizeLine := by decide
    refine new_dk (k := k) fun P nP H1 ke dk1 => go_name ?_
    have s01 : Same H H1 := fun b o e => by rw [ke b (ne_of_none e nP)]; exact e
    refine ⟨.ref t, rfl, .ref c, rfl, t, c, l, k, z, x, rfl, hl.keep (Same.keep s01), fair, l1, by omega, Same.seqT s01 hc, ok, fun H2 r as s12 hr2 dp2 ths2 => ⟨r, as, rfl, hr2, ?_⟩⟩
    have s02 := s01.trans s12
    have dk2 := dk1.same fun o e => s12 _ _ e
    obtain ⟨oP, eP, notT, notF, notL⟩ := dk2.there
    have las : as.length = l.length := by
      have := DpAll.len dp2
      unfold cellsD at this
      rw [List.length_map, List.length_range] at this
      exact this
    generalize hL : z.toNat = L at dp2 ths2
    refine for_it walk_ent (fun i σ H' => (∃ y3 y4, σ = [some (.ref t), some (.ref c), some (.ref P), y3, y4]) ∧ (∀ b o, b ≠ P → H2 b = some o → H' b = some o) ∧ Keep K H2 H' ∧ ∃ (ad : CK → Addr) (ks : List CK), DK H' P k (fun c => if posL l k x L c i = [] then none else some (.ref (ad c))) ks ∧ (∀ c ∈ ks, ∃ j, j < i ∧ c = sK l k x L j) ∧ (∀ j, j < i → sK l k x L j ∈ ks) ∧ (ks.Nodup ∧ ks.length ≤ i) ∧
        (∀ c, posL l k x L c i ≠ [] → H' (ad c) = some (.lst (posV l k x L c i)) ∧ H2 (ad c) = none) ∧ ∀ c c', posL l k x L c i ≠ [] → posL l k x L c' i ≠ [] → ad c = ad c' → c = c')
      ⟨⟨_, _, rfl⟩, fun b o _ h => h, Same.keep (Same.refl _), fun _ => 0, [], dk2, fun c h => (nomatch h), fun j h => (nomatch h), ⟨List.nodup_nil, Nat.le_refl _⟩, fun c h => absurd rfl h, fun c c' h => absurd rfl h⟩ (fun i σ H' _ hp => hp.2.2.1 _ _ hr2) (fun i v σ H3 H4 hi hp hy => ?_) (fun σ H3 hp => ?_)
    · obtain ⟨⟨y3, y4, rfl⟩, old3, k23, ad, ks, dk3, kin, kall, ⟨knd, klen⟩, lst3, inj3⟩ := hp
      obtain ⟨T, v, rfl, nT, hv, rfl⟩ := hy
      have hi' : i < l.length := by omega
      have s34 : Same H3 (upd H3 T (.tup [.int (i : Nat), v])) := same_new nT
      have hT : SqT K (upd H3 T (.tup [.int (i : Nat), v])) T [.int (i : Nat), v] := .inl (.inl upd_same)
      generalize upd H3 T (.tup [.int (i : Nat), v]) = H4 at s34 hT
      refine ⟨T, _, rfl, hT, rfl, _, _, rfl, _, _, rfl, rfl, ?_⟩
      have dk4 := dk3.same fun o e => s34 _ _ e
      refine ⟨.ref P, rfl, dk4.ty, v, rfl, Nat.zero_le _, fun N nN => ?_⟩
      have s45 : Same H4 (upd H4 N (.lst [])) := same_new nN
      have hN : (upd H4 N (.lst [])) N = some (.lst []) := upd_same
      generalize upd H4 N (.lst []) = H5 at s45 hN
      have s35 := s34.trans s45
      have dk5 := dk4.same fun o e => s45 _ _ e
      obtain ⟨oP5, eP5, notT5, notF5, notL5⟩ := dk5.there
      have gc : (cellsD l k z x l.length)[i]? = some (cellD k x (brAt l i).toNat (hR l k L L i)) := by
        unfold cellsD
        rw [hL, List.getElem?_map, List.getElem?_range hi']
        rfl
      have ck2 : Ck K H2 v (cellD k x (brAt l i).toNat (hR l k L L i)) := ⟨DpAll.at dp2 hv gc, ths2 i v _ hv gc⟩
      have tup5 : ∀ b ts, H2 b = some (.tup ts) → H5 b = some (.tup ts) := fun b ts e => s35 _ _ (old3 b _ (fun z => by rw [z, eP] at e; exact notT ts (Option.some.inj e)) e)
      have k25 := k23.trans (Same.keep s35)
      have ck5 : Ck K H5 v (cellD k x (brAt l i).toNat (hR l k L L i)) := ⟨Dp.keep k25 _ _ (cell_tups _ _ _ _) ck2.1, ck2.2.same tup5⟩
      have nN3 : H3 N = none := by
        cases e : H3 N with
        | none => rfl
        | some o => rw [s34 _ _ e] at nN; cases nN
      have nN2 : N ≠ P → H2 N = none := fun np => by
        cases e : H2 N with
        | none => rfl
        | some o => rw [old3 _ _ np e] at nN3; cases nN3
      have hsk : sK l k x L i = cK k x (brAt l i).toNat (hR l k L L i) := rfl
      refine dk5.setd ck5 (by omega) (fun w hw => ?_) (fun hn H6 dk6 ne6 => ?_)
      · rw [← hsk] at hw
        by_cases em : posL l k x L (sK l k x L i) i = []
        · rw [if_pos em] at hw; cases hw
        · rw [if_neg em] at hw
          obtain rfl := Option.some.inj hw
          obtain ⟨h3, h2⟩ := lst3 _ em
          have h5 := s35 _ _ h3
          have adP : ad (sK l k x L i) ≠ P := fun z => by
            rw [z, eP5] at h5
            exact notL5 _ (Option.some.inj h5)
          have pl := posL_len l k x L (sK l k x L i) i
          refine ⟨.inl ⟨rfl, _, SqL.of h5⟩, .int (i : Nat), rfl, _, _, .int (i : Nat), rfl, rfl, h5, by rw [List.length_map]; omega, ?_⟩
          refine ⟨⟨_, _, rfl⟩, fun b o nb e => ?_, k25.trans (keep_wr h5), ad, ks, ?_, fun c hc => ?_, fun j hj => ?_, ⟨knd, by omega⟩, fun c hc => ?_, fun c c' h1 h2 => ?_⟩
          · rw [upd_ne (ne_of_none e h2)]
            exact s35 _ _ (old3 b o nb e)
          · have ef : (fun c => if posL l k x L c (i + 1) = [] then none else some (V.ref (ad c))) = fun c => if posL l k x L c i = [] then none else some (V.ref (ad c)) := by
              funext c
              rw [posL_succ]
              by_cases e : sK l k x L i = c
              · rw [if_pos e, ← e, if_neg (by simp), if_neg em]
              · rw [if_neg e, List.append_nil]
            rw [ef]
            exact dk5.same fun o e => by rw [upd_ne (Ne.symm adP)]; exact e
          · obtain ⟨j, hj, e⟩ := kin c hc
            exact ⟨j, by omega, e⟩
          · rcases Nat.lt_or_ge j i with g | g
            · exact kall j g
            · obtain rfl : j = i := by omega
              have : posL l k x L (sK l k x L j) j ≠ [] := em
              obtain ⟨q0, hq0⟩ := List.exists_mem_of_ne_nil _ this
              have := posL_mem.mp hq0
              rw [← this.2]
              exact kall q0 this.1
          · have ep := posL_succ l k x L c i
            by_cases e : sK l k x L i = c
            · subst e
              rw [if_pos rfl] at ep
              refine ⟨?_, h2⟩
              rw [upd_same]
              show _ = some (HO.lst ((posL l k x L (sK l k x L i) (i + 1)).map fun n : Nat => V.int (n : Int)))
              rw [ep, List.map_append]
              rfl
            · rw [if_neg e, List.append_nil] at ep
              rw [ep] at hc
              obtain ⟨g3, g2⟩ := lst3 c hc
              refine ⟨?_, g2⟩
              rw [upd_ne (fun z => e (inj3 _ _ hc em z).symm), posV, ep]
              exact s35 _ _ g3
          · have non : ∀ c, posL l k x L c (i + 1) ≠ [] → posL l k x L c i ≠ [] := fun c h => by
              rw [posL_succ] at h
              by_cases e : sK l k x L i = c
              · rw [← e]; exact em
              · rwa [if_neg e, List.append_nil] at h
            exact inj3 c c' (non c h1) (non c' h2)
      · rw [← hsk] at hn dk6
        have em : posL l k x L (sK l k x L i) i = [] := by
          by_cases em : posL l k x L (sK l k x L i) i = []
          · exact em
          · rw [if_neg em] at hn; cases hn
        have NP : N ≠ P := fun z => by
          rw [z, eP5] at hN
          exact notL5 _ (Option.some.inj hN)
        have h6 : H6 N = some (.lst []) := by rw [ne6 N NP]; exact hN
        refine ⟨.inl ⟨rfl, _, SqL.of h6⟩, .int (i : Nat), rfl, _, _, .int (i : Nat), rfl, rfl, h6, by show 0 < sizeLine; decide, ?_⟩
        have k56 : Keep K H5 H6 := keep_but' eP5 notT5 notF5 ne6
        refine ⟨⟨_, _, rfl⟩, fun b o nb e => ?_, (k25.trans k56).trans (keep_wr h6), fun c => if c = sK l k x L i then N else ad c, ks ++ [sK l k x L i], ?_, fun c hc => ?_, fun j hj => ?_, ?_, fun c hc => ?_, fun c c' h1 h2 => ?_⟩
        · rw [upd_ne (ne_of_none e (nN2 NP)), ne6 b nb]
          exact s35 _ _ (old3 b o nb e)
        · have ef : (fun c => if posL l k x L c (i + 1) = [] then none else some (V.ref (if c = sK l k x L i then N else ad c))) = fun q => if q = sK l k x L i then some (V.ref N) else if posL l k x L q i = [] then none else some (V.ref (ad q)) := by
            funext c
            rw [posL_succ]
            by_cases e : sK l k x L i = c
            · rw [if_pos e, if_neg (by simp), if_pos e.symm, if_pos e.symm]
            · rw [if_neg e, List.append_nil, if_neg (show ¬ c = sK l k x L i from fun z => e z.symm), if_neg (show ¬ c = sK l k x L i from fun z => e z.symm)]
          rw [ef]
          exact dk6.same fun o e => by rw [upd_ne (Ne.symm NP)]; exact e
        · rcases List.mem_append.mp hc with hc | hc
          · obtain ⟨j, hj, e⟩ := kin c hc
            exact ⟨j, by omega, e⟩
          · exact ⟨i, by omega, List.mem_singleton.mp hc⟩
        · rcases Nat.lt_or_ge j i with g | g
          · exact List.mem_append_left _ (kall j g)
          · rw [show j = i by omega]
            exact List.mem_append_right _ (List.mem_singleton.mpr rfl)
        · refine ⟨List.nodup_append.mpr ⟨knd, List.nodup_cons.mpr ⟨(nomatch ·), List.nodup_nil⟩, fun a ha b hb e => ?_⟩, ?_⟩
          · rw [List.mem_singleton.mp hb] at e
            obtain ⟨j, hj, ej⟩ := kin a ha
            have : j ∈ posL l k x L (sK l k x L i) i := posL_mem.mpr ⟨hj, by rw [← e, ej]⟩
            rw [em] at this
            exact (nomatch this)
          · rw [List.length_append]
            show ks.length + 1 ≤ i + 1
            omega
        · have ep := posL_succ l k x L c i
          dsimp only
          by_cases e : sK l k x L i = c
          · rw [if_pos e, ← e, em] at ep
            rw [if_pos e.symm]
            refine ⟨?_, nN2 NP⟩
            rw [upd_same, posV, ← e, ep]
            rfl
          · rw [if_neg e, List.append_nil] at ep
            rw [ep] at hc
            obtain ⟨g3, g2⟩ := lst3 c hc
            rw [if_neg (show ¬ c = sK l k x L i from fun z => e z.symm)]
            refine ⟨?_, g2⟩
            have cN : ad c ≠ N := fun z => by rw [z, nN3] at g3; cases g3
            have cP : ad c ≠ P := fun z => by
              have g5 := s35 _ _ g3
              rw [z, eP5] at g5
              exact notL5 _ (Option.some.inj g5)
            rw [upd_ne cN, ne6 _ cP, posV, ep]
            exact s35 _ _ g3
        · have non : ∀ c, posL l k x L c (i + 1) ≠ [] → c ≠ sK l k x L i → posL l k x L c i ≠ [] := fun c h n => by
            rwa [posL_succ, if_neg (fun z => n z.symm), List.append_nil] at h
          have off : ∀ c, posL l k x L c i ≠ [] → ad c ≠ N := fun c h z => by
            have := (lst3 c h).1
            rw [z, nN3] at this
            cases this
          intro e
          dsimp only at e
          by_cases e1 : c = sK l k x L i
          · by_cases e2 : c' = sK l k x L i
            · rw [e1, e2]
            · rw [if_pos e1, if_neg e2] at e
              exact absurd e.symm (off c' (non c' h2 e2))
          · by_cases e2 : c' = sK l k x L i
            · rw [if_neg e1, if_pos e2] at e
              exact absurd e (off c (non c h1 e1))
            · rw [if_neg e1, if_neg e2] at e
              exact inj3 c c' (non c h1 e1) (non c' h2 e2) e
    · obtain ⟨⟨y3, y4, rfl⟩, old3, k23, ad, ks, dk3, kin, kall, ⟨knd, klen⟩, lst3, inj3⟩ := hp
      rw [las] at dk3 kin kall klen lst3
      have s03 : Same H H3 := fun b o e => old3 b o (fun z => by rw [z, nP] at e; cases e) (s02 _ _ e)
      have adf : ∀ j, j < l.length → posL l k x L (sK l k x L j) l.length ≠ [] := fun j hj z => by
        have : j ∈ posL l k x L (sK l k x L j) l.length := posL_mem.mpr ⟨hj, rfl⟩
        rw [z] at this
        exact (nomatch this)
      refine ⟨.ref P, rfl, ?_⟩
      show rSorted3 [.ref P] H3 _
      refine dk3.sortedO (fun c hc => ?_) knd (by omega) fun vs co p pmo ord kat np => ?_
      · obtain ⟨j, _, e⟩ := kin c hc
        exact ⟨_, _, _, e⟩
      have vl : vs.length = ks.length := kat.1.trans pmo.length_eq
      have vin : ∀ v ∈ vs, ∃ c ∈ ks, KeyV H3 v c := fun v hv => by
        obtain ⟨i, hi⟩ := List.mem_iff_getElem?.mp hv
        obtain ⟨c, hc, kv⟩ := kat.at_ hi
        exact ⟨c, pmo.mem_iff.mp (List.mem_of_getElem? hc), kv⟩
      have vall : ∀ c ∈ ks, ∃ v ∈ vs, KeyV H3 v c := fun c hc => by
        obtain ⟨i, hi⟩ := List.mem_iff_getElem?.mp (pmo.mem_iff.mpr hc)
        have il : i < vs.length := by
          have := (List.getElem?_eq_some_iff.mp hi).1
          have := kat.1
          omega
        exact ⟨vs[i], List.getElem_mem il, kat.2 i _ c (List.getElem?_eq_getElem il) hi⟩
      have s34 : Same H3 (upd H3 p (.lst vs)) := same_new np
      have hp4 : (upd H3 p (.lst vs)) p = some (.lst vs) := upd_same
      generalize upd H3 p (.lst vs) = H4 at s34 hp4
      refine ⟨p, rfl, ⟨_, SqL.of hp4⟩, fun D nD => lc_list (K := K) (a := p) (xs := vs) (fun j H' => Same H4 H' ∧ ∃ es, H' D = some (.lst es) ∧ es.length = j ∧ ∀ (i : Nat) (e : V), es[i]? = some e → ∃ v c, vs[i]? = some v ∧ c ∈ ks ∧ KeyV H3 v c ∧ Ent K H' e c (posL l k x L c l.length))
        ⟨same_new nD, [], upd_same, rfl, fun i e h => by simp at h⟩ (fun j H' _ hp => SqL.of (hp.1 _ _ hp4)) (fun j v H5 hv hp => ?_) (fun H5 hp => ?_)⟩
      · obtain ⟨s45, es, hD, esl, ents⟩ := hp
        obtain ⟨c0, hc0, kv⟩ := vin v (List.mem_of_getElem? hv)
        obtain ⟨j0, hj0, ec0⟩ := kin c0 hc0
        have s35 := s34.trans s45
        have dk5 := dk3.same fun o e => s35 _ _ e
        have kv5 : KeyV H5 v c0 := kv.same fun b ts e => s35 _ _ e
        have ck5 : Ck K H5 v (cellD k x (brAt l j0).toNat (hR l k L L j0)) := keyV_ck (by rw [ec0] at kv5; exact kv5)
        have g := dk5.get ck5
        have ne0 := adf j0 hj0
        rw [show cK k x (brAt l j0).toNat (hR l k L L j0) = sK l k x L j0 from rfl, if_neg ne0] at g
        obtain ⟨h3, _⟩ := lst3 _ ne0
        have h5 := s35 _ _ h3
        refine ⟨rfl, v, rfl, .ref P, rfl, v, rfl, P, .ref (ad (sK l k x L j0)), rfl, g, ad (sK l k x L j0), _, rfl, .inl ⟨SqL.of h5, fun q6 nq6 => ⟨by show 2 ≤ sizeLine; decide, fun T nT => ?_⟩⟩⟩
        have s57 : Same H5 (upd (upd H5 q6 (.tup (posV l k x L (sK l k x L j0) l.length))) T (.tup [v, .ref q6])) := (same_new nq6).trans (same_new nT)
        have hq7 : (upd (upd H5 q6 (.tup (posV l k x L (sK l k x L j0) l.length))) T (.tup [v, .ref q6])) q6 = some (.tup (posV l k x L (sK l k x L j0) l.length)) := same_new nT _ _ upd_same
        have hT7 : (upd (upd H5 q6 (.tup (posV l k x L (sK l k x L j0) l.length))) T (.tup [v, .ref q6])) T = some (.tup [v, .ref q6]) := upd_same
        generalize upd (upd H5 q6 (.tup (posV l k x L (sK l k x L j0) l.length))) T (.tup [v, .ref q6]) = H7 at s57 hq7 hT7
        have hD7 := s57 _ _ hD
        have kw : Keep K H7 (upd H7 D (.lst (es ++ [.ref T]))) := keep_wr hD7
        refine ⟨es, hD7, ?_, fun b o e => ?_, es ++ [.ref T], upd_same, by rw [List.length_append, esl]; rfl, fun i e he => ?_⟩
        · have := (List.getElem?_eq_some_iff.mp hv).1
          rw [esl]
          omega
        · rw [upd_ne (ne_of_none e nD)]
          exact s57 _ _ (s45 _ _ e)
        · have tupK : ∀ b ts, H7 b = some (.tup ts) → (upd H7 D (.lst (es ++ [.ref T]))) b = some (.tup ts) := fun b ts e => tup_keep hD7 b ts e
          rcases Nat.lt_or_ge i es.length with a | a
          · rw [List.getElem?_append_left a] at he
            obtain ⟨v', c', h1, h2, h3, h4⟩ := ents i e he
            exact ⟨v', c', h1, h2, h3, h4.keep ((Same.keep s57).trans kw) fun b ts e => tupK _ _ (s57 _ _ e)⟩
          · rw [List.getElem?_append_right a] at he
            have i0 : i - es.length = 0 := by
              have := (List.getElem?_eq_some_iff.mp he).1
              simp at this
              omega
            rw [i0] at he
            obtain rfl := Option.some.inj he
            refine ⟨v, c0, by rw [show i = j by omega]; exact hv, hc0, kv, T, v, q6, rfl, tupK _ _ hT7, kv5.same fun b ts e => tupK _ _ (s57 _ _ e), ?_⟩
            rw [ec0]
            exact kw _ _ (.inl (.inl hq7))
      · obtain ⟨s45, es, hD, esl, ents⟩ := hp
        refine ⟨D, es, rfl, .inl ⟨SqL.of hD, fun r5 nr5 => ?_⟩⟩
        have s56 : Same H5 (upd H5 r5 (.tup es)) := same_new nr5
        have tup6 : ∀ b ts, H5 b = some (.tup ts) → (upd H5 r5 (.tup es)) b = some (.tup ts) := fun b ts e => s56 _ _ e
        rw [hL] at q
        obtain ⟨cs, csl, hcs⟩ := list_choice (P := fun i e c => ∃ v, vs[i]? = some v ∧ c ∈ ks ∧ KeyV H3 v c ∧ Ent K H5 e c (posL l k x L c l.length)) (xs := es) 0 fun i e he => by
          obtain ⟨v, c, h1, h2, h3, h4⟩ := ents i e he
          rw [Nat.zero_add]
          exact ⟨c, v, h1, h2, h3, h4⟩
        have at0 : ∀ (i : Nat) (c : CK), cs[i]? = some c → ∃ v, vs[i]? = some v ∧ c ∈ ks ∧ KeyV H3 v c := fun i c hc => by
          have hi : i < es.length := by
            have := (List.getElem?_eq_some_iff.mp hc).1
            omega
          obtain ⟨v, h1, h2, h3, _⟩ := hcs i es[i] c (List.getElem?_eq_getElem hi) hc
          rw [Nat.zero_add] at h1
          exact ⟨v, h1, h2, h3⟩
        have sub : ∀ c ∈ ks, c ∈ cs := fun c hc => by
          obtain ⟨v, hv, kv⟩ := vall c hc
          obtain ⟨i, hi, ei⟩ := List.getElem_of_mem hv
          have hic : i < cs.length := by omega
          obtain ⟨v', h1, _, h3⟩ := at0 i cs[i] (List.getElem?_eq_getElem hic)
          rw [List.getElem?_eq_getElem hi, ei] at h1
          obtain rfl := Option.some.inj h1
          rw [kv.inj h3]
          exact List.getElem_mem hic
        have pm := perm_of_nodup knd sub (by omega)
        have eco : cs = co := by
          refine List.ext_getElem? fun i => ?_
          cases hc : cs[i]? with
          | none =>
            have := List.getElem?_eq_none_iff.mp hc
            have := kat.1
            rw [List.getElem?_eq_none (by omega)]
          | some c =>
            obtain ⟨v, h1, _, h3⟩ := at0 i c hc
            obtain ⟨d, h4, h5⟩ := kat.at_ h1
            rw [h4, h3.inj h5]
        refine q _ r5 es cs (((s03.trans s34).trans s45).trans s56) (.inl (.inl upd_same)) csl.symm (by omega) (by rw [eco]; exact ord) (fun c hc => kin c (pm.mem_iff.mp hc)) (fun j hj => sub _ (kall j hj)) (fun i e c he hc => ?_)
        obtain ⟨v, h1, h2, h3, h4⟩ := hcs i e c he hc
        exact h4.keep (Same.keep s56) tup6
end
end Pf
namespace Pf
open PySem PySem.Spec PyProof.Rows L2 Gk Fold
/-! ### cells and groups as data -/
def keyD : L2.Key → PyData
  | .inl i => .int i
  | .inr s => .str s
def ckD : CK → PyData
  | .inl q => keyD q
  | .inr q => .tuple (q.map keyD)
theorem cellD_ck (k : Str) (x : Option Int) (b : Nat) (h : List Bool) : cellD k x b h = ckD (cK k x b h) := by
  unfold cellD cK
  by_cases c1 : k = "folded"
  · rw [if_pos c1, if_pos c1]
    rfl
  · rw [if_neg c1, if_neg c1]
    by_cases c2 : k = "shared"
    · rw [if_pos c2, if_pos c2]
      rfl
    · rw [if_neg c2, if_neg c2]
      rfl
theorem cl_ck (l : List (Int × Int)) (k : Str) (z : Int) (x : Option Int) (i : Nat) : cl l k z x i = ckD (sK l k x z.toNat i) := cellD_ck _ _ _ _
theorem keys_dp {K : PySem.W.Frag} {H : Hp} : ∀ q : List L2.Key, DpAll K H (q.map kV) (q.map keyD)
  | [] => .nil
  | .inl i :: q => .cons (.int i) (keys_dp q)
  | .inr s :: q => .cons (.str s) (keys_dp q)
theorem keyV_dp {K : PySem.W.Frag} {H : Hp} {v : V} {c : CK} (h : KeyV H v c) : Dp K H v (ckD c) := by
  cases c with
  | inl q =>
    cases (show v = kV q from h)
    cases q with
    | inl i => exact .int i
    | inr s => exact .str s
  | inr q =>
    obtain ⟨p, rfl, hp⟩ := h
    exact .tup (.inl (.inl hp)) (keys_dp q)
theorem keysAt_dp {K : PySem.W.Frag} {H : Hp} : ∀ {vs : List V} {cs : List CK}, KeysAt H vs cs → DpAll K H vs (cs.map ckD)
  | [], [], _ => .nil
  | [], _ :: _, h => by cases h.1
  | _ :: _, [], h => by cases h.1
  | v :: vs, c :: cs, h => .cons (keyV_dp h.head.1) (keysAt_dp h.head.2)
theorem key_tups : ∀ q : List L2.Key, tupsAll (q.map keyD) = true
  | [] => rfl
  | .inl _ :: q => by simp only [List.map_cons, keyD, tupsAll, tups, key_tups q, Bool.and_self]
  | .inr _ :: q => by simp only [List.map_cons, keyD, tupsAll, tups, key_tups q, Bool.and_self]
theorem ck_tups (c : CK) : tups (ckD c) = true := by
  cases c with
  | inl q => cases q <;> rfl
  | inr q => simpa only [ckD, tups] using key_tups q
theorem cks_tups : ∀ cs : List CK, tupsAll (cs.map ckD) = true
  | [] => rfl
  | c :: cs => by rw [List.map_cons, tupsAll, ck_tups, cks_tups cs]; rfl
/-- a group: its cell and the positions -/
def posD (ps : List Nat) : PyData := .tuple (ps.map fun n : Nat => .int (n : Int))
def grpD (l : List (Int × Int)) (k : Str) (x : Option Int) (L : Nat) (c : CK) : PyData := .tuple [ckD c, posD (posL l k x L c l.length)]
theorem poss_tups : ∀ ps : List Nat, tupsAll (ps.map fun n : Nat => PyData.int (n : Int)) = true
  | [] => rfl
  | n :: ps => by rw [List.map_cons, tupsAll, poss_tups ps]; rfl
theorem grps_tups (l : List (Int × Int)) (k : Str) (x : Option Int) (L : Nat) : ∀ cs : List CK, tupsAll (cs.map (grpD l k x L)) = true
  | [] => rfl
  | c :: cs => by
    rw [List.map_cons, tupsAll, grps_tups l k x L cs, Bool.and_true]
    simp only [grpD, posD, tups, tupsAll, ck_tups, poss_tups, Bool.and_self]
theorem pos_dp {K : PySem.W.Frag} {H : Hp} {b : Addr} {ps : List Nat} (h : SqT K H b (ps.map fun n : Nat => V.int (n : Int))) : Dp K H (.ref b) (posD ps) := by
  refine .tup h ?_
  have := DpAll.ints (K := K) (H := H) (ps.map fun n : Nat => (n : Int))
  rw [List.map_map, List.map_map] at this
  exact this
theorem ent_dp {K : PySem.W.Frag} {H : Hp} {e : V} {c : CK} {ps : List Nat} (h : Ent K H e c ps) : Dp K H e (.tuple [ckD c, posD ps]) := by
  obtain ⟨a, v, b, rfl, h1, h2, h3⟩ := h
  exact .tup (.inl (.inl h1)) (.cons (keyV_dp h2) (.cons (pos_dp h3) .nil))
theorem ents_dp {K : PySem.W.Frag} {H : Hp} {f : CK → List Nat} : ∀ {es : List V} {cs : List CK}, es.length = cs.length → (∀ (i : Nat) (e : V) (c : CK), es[i]? = some e → cs[i]? = some c → Ent K H e c (f c)) → DpAll K H es (cs.map fun c => .tuple [ckD c, posD (f c)])
  | [], [], _, _ => .nil
  | [], _ :: _, h, _ => by simp at h
  | _ :: _, [], h, _ => by simp at h
  | e :: es, c :: cs, h, f' => .cons (ent_dp (f' 0 e c rfl rfl)) (ents_dp (Nat.succ.inj h) fun i e' c' h1 h2 => f' (i + 1) e' c' h1 h2)
theorem ints_tame : ∀ ps : List Nat, (∀ n ∈ ps, n ≤ 1000) → tameAll (ps.map fun n : Nat => PyData.int (n : Int)) = true ∧ costAll (ps.map fun n : Nat => PyData.int (n : Int)) = 1 + 71 * ps.length ∧ PyData.depthAll (ps.map fun n : Nat => PyData.int (n : Int)) = 0
  | [], _ => ⟨rfl, rfl, rfl⟩
  | n :: ps, h => by
    obtain ⟨h1, h2, h3⟩ := ints_tame ps fun m hm => h m (List.mem_cons_of_mem _ hm)
    have hn := h n List.mem_cons_self
    refine ⟨?_, ?_, ?_⟩
    · rw [List.map_cons, tameAll, h1, Bool.and_true]
      show decide ((n : Int).natAbs < 10 ^ 20) = true
      exact decide_eq_true (by omega)
    · rw [List.map_cons, costAll, h2, List.length_cons]
      show 70 + 1 + (1 + 71 * ps.length) = 1 + 71 * (ps.length + 1)
      omega
    · rw [List.map_cons, PyData.depthAll, h3]
      rfl
theorem grps_tame {l : List (Int × Int)} {k : Str} {x : Option Int} {z : Int} (fair : Fair l) (l1 : 1 ≤ l.length) (l64 : l.length ≤ 64) (ok : PlanOk k z x) : ∀ cs : List CK, (∀ c ∈ cs, ∃ j, j < l.length ∧ c = sK l k x z.toNat j) →
    tameAll (cs.map (grpD l k x z.toNat)) = true ∧ costAll (cs.map (grpD l k x z.toNat)) ≤ 1 + 5000 * cs.length ∧ PyData.depthAll (cs.map (grpD l k x z.toNat)) ≤ 4
  | [], _ => ⟨rfl, Nat.le_refl _, Nat.zero_le _⟩
  | c :: cs, h => by
    obtain ⟨h1, h2, h3⟩ := grps_tame fair l1 l64 ok cs fun d hd => h d (List.mem_cons_of_mem _ hd)
    obtain ⟨j, hj, e⟩ := h c List.mem_cons_self
    obtain ⟨c1, c2, c3⟩ := cl_tame fair l1 ok j
    rw [cl_ck, ← e] at c1 c2 c3
    obtain ⟨p1, p2, p3⟩ := ints_tame (posL l k x z.toNat c l.length) fun n hn => by
      have := (posL_mem.mp hn).1
      omega
    have pl := posL_len l k x z.toNat c l.length
    refine ⟨?_, ?_, ?_⟩
    · rw [List.map_cons, tameAll, h1, Bool.and_true]
      simp only [grpD, posD, tame, tameAll, c1, p1, Bool.and_self]
    · rw [List.map_cons, costAll, List.length_cons]
      simp only [grpD, posD, Gk.cost, costAll, p2]
      omega
    · rw [List.map_cons, PyData.depthAll]
      simp only [grpD, posD, PyData.depth, PyData.depthAll, p3]
      omega
theorem grps_fine {l : List (Int × Int)} {k : Str} {x : Option Int} {z : Int} (fair : Fair l) (l1 : 1 ≤ l.length) (l64 : l.length ≤ 64) (ok : PlanOk k z x) {cs : List CK} (h : ∀ c ∈ cs, ∃ j, j < l.length ∧ c = sK l k x z.toNat j) (few : cs.length ≤ 64) : Fine (.tuple (cs.map (grpD l k x z.toNat))) := by
  obtain ⟨h1, h2, h3⟩ := grps_tame fair l1 l64 ok cs h
  refine Fine.tame (by simpa only [Gk.tame] using h1) ?_ ?_
  · simp only [PyData.depth]
    omega
  · simp only [Gk.cost]
    omega
theorem ck_eqv {l : List (Int × Int)} {k : Str} {x : Option Int} {z : Int} (i j : Nat) : PyData.eqv (ckD (sK l k x z.toNat i)) (ckD (sK l k x z.toNat j)) = decide (sK l k x z.toNat i = sK l k x z.toNat j) := by
  rw [← cl_ck, ← cl_ck]
  exact sK_cl i j
/-- the steady cells as a list of keys -/
def sKs (l : List (Int × Int)) (k : Str) (x : Option Int) (L : Nat) : List CK := (List.range l.length).map (sK l k x L)
theorem sKs_is {l : List (Int × Int)} {k : Str} {x : Option Int} {L : Nat} : ∀ c ∈ sKs l k x L, CellIs k c := fun c hc => by
  obtain ⟨j, _, rfl⟩ := List.mem_map.mp hc
  exact ⟨_, _, _, rfl⟩
theorem sKs_len {l : List (Int × Int)} {k : Str} {x : Option Int} {L : Nat} : (sKs l k x L).length = l.length := by
  unfold sKs
  rw [List.length_map, List.length_range]
theorem sKs_mem {l : List (Int × Int)} {k : Str} {x : Option Int} {L : Nat} {c : CK} : c ∈ sKs l k x L ↔ ∃ j, j < l.length ∧ c = sK l k x L j := by
  unfold sKs
  rw [List.mem_map]
  constructor
  · rintro ⟨j, hj, e⟩
    exact ⟨j, List.mem_range.mp hj, e.symm⟩
  · rintro ⟨j, hj, e⟩
    exact ⟨j, List.mem_range.mpr hj, e.symm⟩
theorem sKs_at {l : List (Int × Int)} {k : Str} {x : Option Int} {L i : Nat} {c : CK} (h : (sKs l k x L)[i]? = some c) : i < l.length ∧ c = sK l k x L i := by
  unfold sKs at h
  rw [List.getElem?_map] at h
  by_cases hi : i < l.length
  · rw [List.getElem?_range hi] at h
    exact ⟨hi, (Option.some.inj h).symm⟩
  · rw [List.getElem?_eq_none (by rw [List.length_range]; omega)] at h
    cases h
/-- what the law's own steady cells are -/
theorem cells_keys {K : PySem.W.Frag} {H : Hp} {as : List V} {l : List (Int × Int)} {k : Str} {z : Int} {x : Option Int} (dp : DpAll K H as (cellsD l k z x l.length)) (ths : TupsHere H as (cellsD l k z x l.length)) : KeysAt H as (sKs l k x z.toNat) := by
  have la : as.length = l.length := by
    have := DpAll.len dp
    unfold cellsD at this
    rwa [List.length_map, List.length_range] at this
  refine ⟨by rw [la, sKs_len], fun i v c hv hc => ?_⟩
  obtain ⟨hi, rfl⟩ := sKs_at hc
  have gc : (cellsD l k z x l.length)[i]? = some (cellD k x (brAt l i).toNat (hR l k z.toNat z.toNat i)) := by
    unfold cellsD
    rw [List.getElem?_map, List.getElem?_range hi]
    rfl
  exact ck_keyV ⟨DpAll.at dp hv gc, ths i v _ hv gc⟩
theorem nodup_few {α : Type} [DecidableEq α] : ∀ {xs ys : List α}, xs.Nodup → (∀ x ∈ xs, x ∈ ys) → xs.length ≤ ys.length
  | [], _, _, _ => Nat.zero_le _
  | x :: xs, ys, nd, h => by
    obtain ⟨n1, n2⟩ := List.nodup_cons.mp nd
    have hx := h x List.mem_cons_self
    have := nodup_few (ys := ys.erase x) n2 fun y hy => (List.mem_erase_of_ne (fun e => n1 (by rw [← e]; exact hy))).mpr (h y (List.mem_cons_of_mem _ hy))
    rw [List.length_erase_of_mem hx] at this
    have := List.length_pos_of_mem hx
    rw [List.length_cons]
    omega
theorem posL_ints (l : List (Int × Int)) (k : Str) (x : Option Int) (L : Nat) (c : CK) (n : Nat) : (posL l k x L c (n + 1)).map (fun n : Nat => V.int (n : Int)) = (posL l k x L c n).map (fun n : Nat => V.int (n : Int)) ++ if sK l k x L n = c then [V.int (n : Int)] else [] := by
  rw [posL_succ, List.map_append]
  by_cases e : sK l k x L n = c
  · rw [if_pos e, if_pos e]
    rfl
  · rw [if_neg e, if_neg e]
    rfl
theorem op_eqDQ {X : Cx} (K : PySem.W.Frag) (hu : X.A.units + 64 < cLine) (h : X.K = K := by rfl) : OpR X (compareOp .Eq) (rEqD K) := by
  subst h
  exact op_eqD hu
theorem pi_enumK {X : Cx} {e : Expr} {ta : TA} {p pos tpos : Pos} {elts : List Expr} {kk : Nat} (K : PySem.W.Frag) (hg : Gl X "enumerate") (hm : X.mg "enumerate" = none) (ha : PA X [e] ta) (h : X.K = K := by rfl) (hs : starEach [e] X.env = [(false, eval e X.env)] := by rfl) : PI X (.Tuple elts kk tpos) (.Call (.Name "enumerate" p) [e] [] pos) (iEnum K ta) := by
  subst h
  exact pi_enum hg hm ha hs
end Pf
namespace Pf
open PySem PySem.Spec PyProof.Rows L2 Gk Fold
/-! ### errors and changes of a row of outcomes -/
def valL (w : Int) : Int → List Int → Int
  | v, [] => v
  | v, o :: os => valL w (aft w v o) os
def errL (w : Int) : Int → List Int → Nat
  | _, [] => 0
  | v, o :: os => (if prd w v = o then 0 else 1) + errL w (aft w v o) os
def chgL : Int → List Int → Nat
  | _, [] => 0
  | p, o :: os => (if o = p then 0 else 1) + chgL o os
def lastO : Int → List Int → Int
  | p, [] => p
  | _, o :: os => lastO o os
theorem valL_snoc (w : Int) : ∀ (v : Int) (os : List Int) (o : Int), valL w v (os ++ [o]) = aft w (valL w v os) o
  | _, [], _ => rfl
  | v, a :: os, o => valL_snoc w (aft w v a) os o
theorem errL_snoc (w : Int) : ∀ (v : Int) (os : List Int) (o : Int), errL w v (os ++ [o]) = errL w v os + (if prd w (valL w v os) = o then 0 else 1)
  | v, [], o => by
    show (if prd w v = o then 0 else 1) + 0 = 0 + (if prd w v = o then 0 else 1)
    omega
  | v, a :: os, o => by
    show _ + errL w (aft w v a) (os ++ [o]) = _ + errL w (aft w v a) os + _
    rw [errL_snoc w (aft w v a) os o]
    show _ + (_ + (if prd w (valL w (aft w v a) os) = o then 0 else 1)) = _ + _ + (if prd w (valL w (aft w v a) os) = o then 0 else 1)
    omega
theorem chgL_snoc : ∀ (p : Int) (os : List Int) (o : Int), chgL p (os ++ [o]) = chgL p os + (if o = lastO p os then 0 else 1)
  | p, [], o => by
    show (if o = p then 0 else 1) + 0 = 0 + (if o = p then 0 else 1)
    omega
  | p, a :: os, o => by
    show _ + chgL a (os ++ [o]) = _ + chgL a os + _
    rw [chgL_snoc a os o]
    show _ + (_ + (if o = lastO a os then 0 else 1)) = _ + _ + (if o = lastO a os then 0 else 1)
    omega
theorem lastO_any {os : List Int} (h : os ≠ []) (p q : Int) : lastO p os = lastO q os := by
  cases os with
  | nil => exact absurd rfl h
  | cons a os => rfl
theorem lastO_snoc : ∀ (p : Int) (os : List Int) (o : Int), lastO p (os ++ [o]) = o
  | _, [], _ => rfl
  | _, a :: os, o => lastO_snoc a os o
def Bit (o : Int) : Prop := o = 0 ∨ o = 1
theorem chg_le {w : Int} (hw : 1 ≤ w) : ∀ (os : List Int) (v p : Int), (∀ o ∈ os, Bit o) → Bit p → 0 ≤ v → v ≤ top w →
    chgL p os + (if prd w (valL w v os) = lastO p os then 0 else 1) ≤ 2 * errL w v os + (if prd w v = p then 0 else 1)
  | [], v, p, _, _, _, _ => by
    show 0 + (if prd w v = p then 0 else 1) ≤ 2 * 0 + _
    omega
  | o :: os, v, p, ho, hp, h0, h1 => by
    have bo := ho o List.mem_cons_self
    have ih := chg_le hw os (aft w v o) o (fun a ha => ho a (List.mem_cons_of_mem _ ha)) bo (aft_in hw h0 h1).1 (aft_in hw h0 h1).2
    show (if o = p then 0 else 1) + chgL o os + (if prd w (valL w (aft w v o) os) = lastO o os then 0 else 1) ≤ 2 * ((if prd w v = o then 0 else 1) + errL w (aft w v o) os) + _
    have keep : prd w v = o → prd w (aft w v o) = o := aft_keep hw h0 h1 bo
    have bv : prd w v = 0 ∨ prd w v = 1 := by
      unfold prd
      split
      · exact .inr rfl
      · exact .inl rfl
    by_cases e1 : prd w v = o
    · rw [if_pos (keep e1)] at ih
      rw [if_pos e1]
      by_cases e2 : o = p
      · rw [if_pos e2]
        omega
      · rw [if_neg e2, if_neg (fun z => e2 (e1.symm.trans z))]
        omega
    · rw [if_neg e1]
      have : (if prd w (aft w v o) = o then 0 else 1 : Nat) ≤ 1 := by split <;> omega
      by_cases e2 : o = p
      · rw [if_pos e2]
        omega
      · rw [if_neg e2]
        omega
theorem top_one : top 1 = 1 := by decide
theorem aft_one {v o : Int} (h0 : 0 ≤ v) (h1 : v ≤ top 1) (bo : Bit o) : prd 1 (aft 1 v o) = o := by
  rw [top_one] at h1
  have hv : v = 0 ∨ v = 1 := by omega
  rcases bo with rfl | rfl <;> rcases hv with rfl | rfl <;> decide
theorem chg_one : ∀ (os : List Int) (v p : Int), (∀ o ∈ os, Bit o) → 0 ≤ v → v ≤ top 1 → prd 1 v = p → chgL p os = errL 1 v os
  | [], _, _, _, _, _, _ => rfl
  | o :: os, v, p, ho, h0, h1, e => by
    have bo := ho o List.mem_cons_self
    show (if o = p then 0 else 1) + chgL o os = (if prd 1 v = o then 0 else 1) + errL 1 (aft 1 v o) os
    rw [chg_one os (aft 1 v o) o (fun a ha => ho a (List.mem_cons_of_mem _ ha)) (aft_in (by decide) h0 h1).1 (aft_in (by decide) h0 h1).2 (aft_one h0 h1 bo), e]
    by_cases c : o = p
    · rw [if_pos c, if_pos c.symm]
    · rw [if_neg c, if_neg (fun z => c z.symm)]
theorem val_one : ∀ (os : List Int) (v p : Int), (∀ o ∈ os, Bit o) → 0 ≤ v → v ≤ top 1 → os ≠ [] → prd 1 (valL 1 v os) = lastO p os
  | [], _, _, _, _, _, h => absurd rfl h
  | o :: os, v, p, ho, h0, h1, _ => by
    have bo := ho o List.mem_cons_self
    have a1 := aft_in (w := 1) (o := o) (by decide) h0 h1
    show prd 1 (valL 1 (aft 1 v o) os) = lastO o os
    cases os with
    | nil => exact aft_one h0 h1 bo
    | cons b os => exact val_one (b :: os) (aft 1 v o) o (fun a ha => ho a (List.mem_cons_of_mem _ ha)) a1.1 a1.2 (by simp)
/-- around: the changes of a row that leaves its value as it was -/
theorem around_le {w v : Int} {os : List Int} (hw : 1 ≤ w) (h0 : 0 ≤ v) (h1 : v ≤ top w) (ho : ∀ o ∈ os, Bit o) (hne : os ≠ []) (e : valL w v os = v) : chgL (lastO 0 os) os ≤ 2 * errL w v os := by
  have bl : ∀ (os : List Int) (p : Int), (∀ o ∈ os, Bit o) → Bit p → Bit (lastO p os) := fun os => by
    induction os with
    | nil => intro p _ h; exact h
    | cons a os ih => intro p h _; exact ih a (fun o ho => h o (List.mem_cons_of_mem _ ho)) (h a List.mem_cons_self)
  have := chg_le hw os v (lastO 0 os) ho (bl os 0 ho (.inl rfl)) h0 h1
  rw [e, lastO_any hne (lastO 0 os) 0] at this
  omega
theorem around_one {v : Int} {os : List Int} (h0 : 0 ≤ v) (h1 : v ≤ top 1) (ho : ∀ o ∈ os, Bit o) (hne : os ≠ []) (e : valL 1 v os = v) : chgL (lastO 0 os) os = errL 1 v os := by
  refine chg_one os v _ ho h0 h1 ?_
  have := val_one os v 0 ho h0 h1 hne
  rwa [e] at this
/-! ### sums over cells -/
def sumC {α : Type} (f : α → Nat) : List α → Nat
  | [] => 0
  | c :: cs => f c + sumC f cs
theorem sumC_le {α : Type} {f g : α → Nat} : ∀ {cs : List α}, (∀ c ∈ cs, f c ≤ g c) → sumC f cs ≤ sumC g cs
  | [], _ => Nat.le_refl _
  | c :: cs, h => Nat.add_le_add (h c List.mem_cons_self) (sumC_le fun d hd => h d (List.mem_cons_of_mem _ hd))
theorem sumC_eq {α : Type} {f g : α → Nat} : ∀ {cs : List α}, (∀ c ∈ cs, f c = g c) → sumC f cs = sumC g cs
  | [], _ => rfl
  | c :: cs, h => by
    show f c + sumC f cs = g c + sumC g cs
    rw [h c List.mem_cons_self, sumC_eq fun d hd => h d (List.mem_cons_of_mem _ hd)]
theorem sumC_zero {α : Type} : ∀ {cs : List α}, sumC (fun _ => 0) cs = 0
  | [] => rfl
  | c :: cs => by show 0 + sumC (fun _ => 0) cs = 0; rw [sumC_zero]
theorem sumC_two {α : Type} (f : α → Nat) : ∀ cs : List α, sumC (fun c => 2 * f c) cs = 2 * sumC f cs
  | [] => rfl
  | c :: cs => by
    show 2 * f c + sumC (fun c => 2 * f c) cs = 2 * (f c + sumC f cs)
    rw [sumC_two f cs]
    omega
theorem sumC_out {α : Type} [DecidableEq α] {f : α → Nat} {a : α} {n : Nat} : ∀ {cs : List α}, a ∉ cs → sumC (fun c => f c + if a = c then n else 0) cs = sumC f cs
  | [], _ => rfl
  | c :: cs, h => by
    show (f c + if a = c then n else 0) + sumC _ cs = f c + sumC f cs
    rw [if_neg (fun z => h (by rw [z]; exact List.mem_cons_self)), sumC_out fun z => h (List.mem_cons_of_mem _ z)]
    omega
theorem sumC_in {α : Type} [DecidableEq α] {f : α → Nat} {a : α} {n : Nat} : ∀ {cs : List α}, cs.Nodup → a ∈ cs → sumC (fun c => f c + if a = c then n else 0) cs = sumC f cs + n
  | [], _, h => (nomatch h)
  | c :: cs, nd, h => by
    obtain ⟨n1, n2⟩ := List.nodup_cons.mp nd
    show (f c + if a = c then n else 0) + sumC _ cs = f c + sumC f cs + n
    by_cases e : a = c
    · subst e
      rw [if_pos rfl, sumC_out n1]
      omega
    · rw [if_neg e, sumC_in n2 (by
        rcases List.mem_cons.mp h with h | h
        · exact absurd h e
        · exact h)]
      omega
section
variable {l : List (Int × Int)} {k : Str} {x : Option Int} {L B : Nat} {w v0 : Int}
/-- the outcomes at a cell -/
def outsC (l : List (Int × Int)) (k : Str) (x : Option Int) (L : Nat) (c : CK) (i : Nat) : List Int := (posL l k x L c i).map (outAt l)
theorem outsC_succ (c : CK) (i : Nat) : outsC l k x L c (i + 1) = outsC l k x L c i ++ if sK l k x L i = c then [outAt l i] else [] := by
  unfold outsC
  rw [posL_succ, List.map_append]
  split <;> rfl
theorem gM_valL (fb : FromB l k x L B) (c : CK) (v : Int) : ∀ i, i ≤ l.length → gM l k x L w c (B * l.length) i v = valL w v (outsC l k x L c i)
  | 0, _ => rfl
  | i + 1, h => by
    rw [gM, gM_valL fb c v i (by omega), fb B i (Nat.le_refl _) (by omega), out_round B i (by omega), outsC_succ]
    by_cases e : sK l k x L i = c
    · rw [if_pos e, if_pos e.symm, valL_snoc]
    · rw [if_neg e, if_neg (fun z => e z.symm), List.append_nil]
theorem wrong_cell (fb : FromB l k x L B) {r : Nat} (hr : B ≤ r) {i : Nat} (hi : i < l.length) : wrongAt l k x L w v0 (r * l.length + i) ↔ prd w (valL w (uM l k x L w v0 (r * l.length) (sK l k x L i)) (outsC l k x L (sK l k x L i) i)) ≠ outAt l i := by
  unfold wrongAt pM
  rw [valM_u, fb r i hr hi, uM_g, gM_round fb hr (Nat.le_refl B) _ i (by omega), gM_valL fb _ _ i (by omega), out_round r i hi]
/-- the errors of a late round, cell by cell -/
theorem bR_cells (fb : FromB l k x L B) {r : Nat} (hr : B ≤ r) {cs : List CK} (nd : cs.Nodup) (all : ∀ j, j < l.length → sK l k x L j ∈ cs) : ∀ i, i ≤ l.length → bR l k x L w v0 r i = sumC (fun c => errL w (uM l k x L w v0 (r * l.length) c) (outsC l k x L c i)) cs
  | 0, _ => by
    rw [show (fun c => errL w (uM l k x L w v0 (r * l.length) c) (outsC l k x L c 0)) = fun _ => 0 from rfl, sumC_zero]
    rfl
  | i + 1, h => by
    rw [bR, bR_cells fb hr nd all i (by omega)]
    have hw := wrong_cell (w := w) (v0 := v0) fb hr (show i < l.length by omega)
    have e : ∀ c ∈ cs, errL w (uM l k x L w v0 (r * l.length) c) (outsC l k x L c (i + 1)) = errL w (uM l k x L w v0 (r * l.length) c) (outsC l k x L c i) + if sK l k x L i = c then (if wrongAt l k x L w v0 (r * l.length + i) then 1 else 0) else 0 := fun c _ => by
      rw [outsC_succ]
      by_cases e : sK l k x L i = c
      · rw [if_pos e, if_pos e, errL_snoc]
        rw [e] at hw
        by_cases g : prd w (valL w (uM l k x L w v0 (r * l.length) c) (outsC l k x L c i)) = outAt l i
        · rw [if_pos g, if_neg (fun z => hw.mp z g)]
        · rw [if_neg g, if_pos (hw.mpr g)]
      · rw [if_neg e, if_neg e, List.append_nil]
        rfl
    rw [sumC_eq e, sumC_in nd (all i (by omega))]
/-- the changes at a cell, the first outcome held against the last -/
def chgC (l : List (Int × Int)) (k : Str) (x : Option Int) (L : Nat) (c : CK) : Nat := chgL (lastO 0 (outsC l k x L c l.length)) (outsC l k x L c l.length)
theorem outsC_ne {j : Nat} (hj : j < l.length) : outsC l k x L (sK l k x L j) l.length ≠ [] := fun z => by
  have : j ∈ posL l k x L (sK l k x L j) l.length := posL_mem.mpr ⟨hj, rfl⟩
  unfold outsC at z
  rw [List.map_eq_nil_iff] at z
  rw [z] at this
  exact (nomatch this)
theorem outsC_bits (fair : Fair l) (hl : 1 ≤ l.length) (c : CK) (i : Nat) (hi : i ≤ l.length) : ∀ o ∈ outsC l k x L c i, Bit o := fun o ho => by
  unfold outsC at ho
  obtain ⟨j, hj, rfl⟩ := List.mem_map.mp ho
  have hj := (posL_mem.mp hj).1
  have := outM_bit fair hl (0 * l.length + j)
  rw [out_round 0 j (by omega)] at this
  exact this
theorem stays_at (fb : FromB l k x L B) (hw : 1 ≤ w) (h0 : 0 ≤ v0) (h1 : v0 ≤ top w) (j : Nat) (c : CK) : valL w (uM l k x L w v0 ((B + (top w).toNat + j) * l.length) c) (outsC l k x L c l.length) = uM l k x L w v0 ((B + (top w).toNat + j) * l.length) c := by
  rw [← gM_valL fb c _ l.length (Nat.le_refl _), uM_fix fb hw h0 h1 c j]
  have a := uM_in fb hw h0 h1 c 0 l.length (Nat.le_refl _)
  rw [← a, Nat.add_zero, ← Nat.succ_mul]
  exact uM_fix fb hw h0 h1 c 1
theorem eR_changes (fair : Fair l) (hl : 1 ≤ l.length) (fb : FromB l k x L B) (hw : 1 ≤ w) (h0 : 0 ≤ v0) (h1 : v0 ≤ top w) {cs : List CK} (nd : cs.Nodup) (all : ∀ j, j < l.length → sK l k x L j ∈ cs) (only : ∀ c ∈ cs, ∃ j, j < l.length ∧ c = sK l k x L j) (j : Nat) :
    sumC (chgC l k x L) cs ≤ 2 * eR l k x L w v0 (B + (top w).toNat + j) ∧ sumC (fun c => if 0 < chgC l k x L c then 1 else 0) cs ≤ eR l k x L w v0 (B + (top w).toNat + j) ∧ (w = 1 → sumC (chgC l k x L) cs = eR l k x L w v0 (B + (top w).toNat + j)) := by
  have tot : eR l k x L w v0 (B + (top w).toNat + j) = _ := bR_cells fb (show B ≤ B + (top w).toNat + j by omega) nd all l.length (Nat.le_refl _)
  have inn := fun c => vM_in (l := l) (k := k) (x := x) (L := L) hw h0 h1 ((B + (top w).toNat + j) * l.length) c
  have one : ∀ c ∈ cs, chgC l k x L c ≤ 2 * errL w (uM l k x L w v0 ((B + (top w).toNat + j) * l.length) c) (outsC l k x L c l.length) := fun c hc => by
    obtain ⟨i, hi, rfl⟩ := only c hc
    exact around_le hw (inn _).1 (inn _).2 (outsC_bits fair hl _ _ (Nat.le_refl _)) (outsC_ne hi) (stays_at fb hw h0 h1 j _)
  rw [tot]
  refine ⟨?_, ?_, fun e => ?_⟩
  · rw [← sumC_two]
    exact sumC_le one
  · refine sumC_le fun c hc => ?_
    have := one c hc
    split <;> omega
  · refine sumC_eq fun c hc => ?_
    obtain ⟨i, hi, rfl⟩ := only c hc
    have ez := stays_at fb hw h0 h1 j (sK l k x L i)
    have i1 := inn (sK l k x L i)
    subst e
    exact around_one i1.1 i1.2 (outsC_bits fair hl _ _ (Nat.le_refl _)) (outsC_ne hi) ez
end
end Pf
namespace Pf
open PySem PySem.Spec PyProof.Rows L2 Gk Fold RZ
abbrev sParted : Stmt := topS 24
abbrev nParted : List Str := ["trace", "positions", "zeros", "ones", "position"]
theorem scParted : FnScope nParted ["trace", "positions"] (defScope sParted) := ⟨rfl, rfl, rfl, by decide +kernel, rfl, by decide +kernel, by decide +kernel⟩
abbrev sForced : Stmt := topS 23
abbrev nForced : List Str := ["trace", "scheme", "pairs", "cell", "positions", "zeros", "ones", "zero", "one"]
theorem scForced : FnScope nForced ["trace", "scheme"] (defScope sForced) := ⟨rfl, rfl, rfl, by decide +kernel, rfl, by decide +kernel, by decide +kernel⟩
abbrev sFewest : Stmt := topS 22
abbrev nFewest : List Str := ["trace", "scheme"]
theorem scFewest : FnScope nFewest ["trace", "scheme"] (defScope sFewest) := ⟨rfl, rfl, rfl, by decide +kernel, rfl, by decide +kernel, by decide +kernel⟩
abbrev natV (ns : List Nat) : List V := ns.map fun n : Nat => V.int (n : Int)
theorem natV_at {ns : List Nat} {j : Nat} {v : V} (h : (natV ns)[j]? = some v) : ∃ n, ns[j]? = some n ∧ v = .int (n : Int) := by
  rw [List.getElem?_map] at h
  cases e : ns[j]? with
  | none => rw [e] at h; cases h
  | some n => rw [e] at h; exact ⟨n, rfl, (Option.some.inj h).symm⟩
theorem natV_snoc (ns : List Nat) (n : Nat) : natV (ns ++ [n]) = natV ns ++ [V.int (n : Int)] := by
  show List.map _ (ns ++ [n]) = _
  rw [List.map_append]
  rfl
/-- the positions with such an outcome -/
def partL (l : List (Int × Int)) (o : Int) (ns : List Nat) : List Nat := ns.filter fun n => decide (outAt l n = o)
theorem partL_take {l : List (Int × Int)} {o : Int} {ns : List Nat} {j n : Nat} (h : ns[j]? = some n) : partL l o (ns.take (j + 1)) = partL l o (ns.take j) ++ if outAt l n = o then [n] else [] := by
  unfold partL
  rw [List.take_succ, h, List.filter_append]
  congr 1
  show List.filter _ [n] = _
  rw [List.filter_cons]
  by_cases e : outAt l n = o
  · rw [if_pos e, if_pos (decide_eq_true e)]
    rfl
  · rw [if_neg e, if_neg (by rw [decide_eq_true_eq]; exact e)]
    rfl
theorem partL_len (l : List (Int × Int)) (o : Int) (ns : List Nat) : (partL l o ns).length ≤ ns.length := List.length_filter_le _ _
theorem partL_mem {l : List (Int × Int)} {o : Int} {ns : List Nat} {n : Nat} : n ∈ partL l o ns ↔ n ∈ ns ∧ outAt l n = o := by
  unfold partL
  rw [List.mem_filter, decide_eq_true_eq]
/-- the pairs of a cell -/
def pairsC (l : List (Int × Int)) (k : Str) (x : Option Int) (L : Nat) (c : CK) : Nat := min (partL l 0 (posL l k x L c l.length)).length (partL l 1 (posL l k x L c l.length)).length
theorem sumC_pos {α : Type} {f : α → Nat} : ∀ {cs : List α}, 0 < sumC f cs ↔ ∃ c ∈ cs, 0 < f c
  | [] => ⟨fun h => (nomatch h), fun ⟨c, h, _⟩ => (nomatch h)⟩
  | c :: cs => by
    show 0 < f c + sumC f cs ↔ _
    constructor
    · intro h
      rcases Nat.eq_zero_or_pos (f c) with z | z
      · obtain ⟨d, hd, g⟩ := sumC_pos.mp (show 0 < sumC f cs by omega)
        exact ⟨d, List.mem_cons_of_mem _ hd, g⟩
      · exact ⟨c, List.mem_cons_self, z⟩
    · rintro ⟨d, hd, g⟩
      rcases List.mem_cons.mp hd with rfl | hd
      · omega
      · have := sumC_pos.mpr ⟨d, hd, g⟩
        omega
theorem sumC_take {α : Type} {f : α → Nat} {c : α} : ∀ {cs : List α} {i : Nat}, cs[i]? = some c → sumC f (cs.take (i + 1)) = sumC f (cs.take i) + f c
  | [], i, h => by simp at h
  | a :: cs, 0, h => by
    obtain rfl := Option.some.inj h
    show f a + 0 = 0 + f a
    omega
  | a :: cs, i + 1, h => by
    show f a + sumC f (cs.take (i + 1)) = f a + sumC f (cs.take i) + f c
    rw [sumC_take (cs := cs) (i := i) (by simpa using h)]
    omega
theorem sumC_bound {α : Type} {f : α → Nat} {b : Nat} (h : ∀ c, f c ≤ b) : ∀ cs : List α, sumC f cs ≤ b * cs.length
  | [] => Nat.zero_le _
  | c :: cs => by
    have := h c
    have := sumC_bound h cs
    show f c + sumC f cs ≤ b * (cs.length + 1)
    rw [Nat.mul_succ]
    omega
theorem forced_clash {l : List (Int × Int)} {k : Str} {x : Option Int} {L : Nat} (fair : Fair l) (hl : 1 ≤ l.length) {cs : List CK} (only : ∀ c ∈ cs, ∃ j, j < l.length ∧ c = sK l k x L j) (all : ∀ j, j < l.length → sK l k x L j ∈ cs) : 0 < sumC (pairsC l k x L) cs ↔ Clash l k x L := by
  rw [sumC_pos]
  have two : ∀ c i j, i ∈ posL l k x L c l.length → j ∈ posL l k x L c l.length → outAt l i = 0 → outAt l j = 1 → 0 < pairsC l k x L c := fun c i j hi hj oi oj => by
    have a := List.length_pos_of_mem (partL_mem.mpr ⟨hi, oi⟩)
    have b := List.length_pos_of_mem (partL_mem.mpr ⟨hj, oj⟩)
    unfold pairsC
    omega
  constructor
  · rintro ⟨c, hc, h⟩
    unfold pairsC at h
    obtain ⟨i, hi⟩ := List.exists_mem_of_length_pos (show 0 < (partL l 0 (posL l k x L c l.length)).length by omega)
    obtain ⟨j, hj⟩ := List.exists_mem_of_length_pos (show 0 < (partL l 1 (posL l k x L c l.length)).length by omega)
    obtain ⟨i1, i2⟩ := partL_mem.mp hi
    obtain ⟨j1, j2⟩ := partL_mem.mp hj
    obtain ⟨i3, i4⟩ := posL_mem.mp i1
    obtain ⟨j3, j4⟩ := posL_mem.mp j1
    rcases Nat.lt_trichotomy i j with a | a | a
    · exact ⟨i, j, a, j3, by rw [i4, j4], by rw [i2, j2]; decide⟩
    · subst a
      rw [i2] at j2
      exact absurd j2 (by decide)
    · exact ⟨j, i, a, i3, by rw [i4, j4], by rw [i2, j2]; decide⟩
  · rintro ⟨i, j, ij, jn, same, ne⟩
    have bit := fun q (hq : q < l.length) => by
      have := outM_bit fair hl (0 * l.length + q)
      rw [out_round 0 q hq] at this
      exact this
    refine ⟨sK l k x L i, all i (by omega), ?_⟩
    have hi : i ∈ posL l k x L (sK l k x L i) l.length := posL_mem.mpr ⟨by omega, rfl⟩
    have hj : j ∈ posL l k x L (sK l k x L i) l.length := posL_mem.mpr ⟨jn, same.symm⟩
    rcases bit i (by omega) with a | a <;> rcases bit j jn with b | b
    · exact absurd (a.trans b.symm) ne
    · exact two _ i j hi hj a b
    · exact two _ j i hj hi b a
    · exact absurd (a.trans b.symm) ne
theorem walk_zipL {K : PySem.W.Frag} {a b : Addr} {xs ys : List V} {n : Nat} (hn : n = min xs.length ys.length) : Walk (Itz K a b) n (fun H => SqL K H a xs ∧ SqL K H b ys) (fun i H v H' => ∃ T x y, v = .ref T ∧ H T = none ∧ xs[i]? = some x ∧ ys[i]? = some y ∧ H' = upd H T (.tup [x, y])) :=
  ⟨fun i _ hi q => ⟨xs, ys, xs[i]'(by omega), ys[i]'(by omega), q.1, q.2, List.getElem?_eq_getElem (by omega), List.getElem?_eq_getElem (by omega)⟩, fun _ q => ⟨xs, ys, q.1, q.2, by omega⟩, fun i H v H' _ q y => by
    obtain ⟨T, x, z, h1, h2, h3, h4, h5⟩ := y
    exact ⟨T, x, z, h1, h2, h4 xs q.1, h5 ys q.2, h3⟩⟩
section
variable {P : Program} {w : World} {K : PySem.W.Frag} {mg : Str → Option Value} {base : Heap}
def spParted (K : PySem.W.Frag) : Sp := fun vs H Q _ => ∃ (t p : Addr) (l : List (Int × Int)) (ns : List Nat), vs = [.ref t, .ref p] ∧ PairsAt K H t l ∧ SqT K H p (natV ns) ∧ ns.length ≤ 64 ∧ (∀ n ∈ ns, n < l.length) ∧
  ∀ H' T A B, Same H H' → H A = none → H B = none → H' T = some (.tup [.ref A, .ref B]) → H' A = some (.lst (natV (partL l 0 ns))) → H' B = some (.lst (natV (partL l 1 ns))) → Q (.ref T) H'
theorem ok_parted {f : Addr} {fd : FuncData} {kk : Nat} (F : L2.Fun K "_parted" "_parted" sParted f fd) : FnOk P w K mg base L2.CX0 (kk + 1) f fd ["trace", "positions"] (spParted K) := by
  refine F.ok scParted (fun vs H Q E h => ?_) (fun cdv A outer s H vs Q E hr h => ?_)
  · obtain ⟨t, p, l, ns, rfl, _⟩ := h
    rfl
  · obtain ⟨t, p, l, ns, rfl, hl, hp, n64, nin, q⟩ := h
    obtain ⟨xst, sqt, hAt, lt⟩ := PairsAt.out hl
    refine ⟨_, pss_cons (ps_setLc (i := 2) (own := [("position", 4)]) (g := gName 4) (by rfl) scParted.nd rfl rfl (sw_true rfl rfl rfl (by decide +kernel)) (pi_tup (pv 1)) (blkOk_by (N := nParted) (sc := defScope sParted) (by decide +kernel))
          (fun _ _ _ _ _ => pg_name (i := 4) scParted.nd rfl (.inl rfl)) (fun _ _ _ _ _ => pts_one (pt_cmpR op_eq (pe_ix (ix_tupK K) (pe_ix (ix_tupK K) (pv 0) (pv 4) (fun _ _ => rfl)) pe_int (fun _ _ => rfl)) pe_int (nomark _))) (fun _ _ _ _ _ => pv 4))
      (pss_cons (ps_setLc (i := 3) (own := [("position", 4)]) (g := gName 4) (by rfl) scParted.nd rfl rfl (sw_true rfl rfl rfl (by decide +kernel)) (pi_tup (pv 1)) (blkOk_by (N := nParted) (sc := defScope sParted) (by decide +kernel))
          (fun _ _ _ _ _ => pg_name (i := 4) scParted.nd rfl (.inl rfl)) (fun _ _ _ _ _ => pts_one (pt_cmpR op_eq (pe_ix (ix_tupK K) (pe_ix (ix_tupK K) (pv 0) (pv 4) (fun _ _ => rfl)) pe_int (fun _ _ => rfl)) pe_int (nomark _))) (fun _ _ _ _ _ => pv 4))
      (pss_one (ps_ret (pe_tup (pa_cons (pv 2) (pa_cons (pv 3) pa_nil)))))), ?_⟩
    refine ⟨.ref p, rfl, p, rfl, ⟨_, hp⟩, fun D nD => lc_tup (K := K) (a := p) (xs := natV ns) (fun j H' => Same H H' ∧ H' D = some (.lst (natV (partL l 0 (ns.take j))))) ⟨same_new nD, upd_same⟩ (fun j H' _ hp' => Same.seqT hp'.1 hp) (fun j v H3 hv hp' => ?_) (fun H3 hp' => ?_)⟩
    · obtain ⟨s3, hD⟩ := hp'
      obtain ⟨n, hn, rfl⟩ := natV_at hv
      obtain ⟨ya, yb, gy, sy⟩ := out_at (pairs_keep hAt (Same.keep s3)) (nin n (List.mem_of_getElem? hn))
      have sqt3 := Same.seqT s3 sqt
      refine ⟨rfl, .ref t, rfl, .int n, rfl, t, xst, _, .ref ya, rfl, rfl, sqt3, atI_nat gy, ya, _, 1, .int (outAt l n), rfl, rfl, sy, rfl, rfl, _, rfl, ite2 (fun e => ?_) (fun e => ?_)⟩
      · have e' : outAt l n = 0 := by
          have := of_decide_eq_true e
          injection this
        have pl := partL_len l 0 (ns.take j)
        rw [List.length_take] at pl
        refine ⟨.int n, rfl, _, hD, by rw [List.length_map]; exact Nat.lt_of_le_of_lt (by omega : _ ≤ 64) (by decide), fun b o h => by rw [upd_ne (ne_of_none h nD)]; exact s3 _ _ h, ?_⟩
        rw [upd_same, partL_take hn, if_pos e', natV_snoc]
      · have e' : ¬ outAt l n = 0 := fun z => e (decide_eq_true (by rw [z]))
        exact ⟨s3, by rw [partL_take hn, if_neg e', List.append_nil]; exact hD⟩
    obtain ⟨s3, hD⟩ := hp'
    rw [show (natV ns).length = ns.length from List.length_map _, List.take_length] at hD
    refine ⟨.ref p, rfl, p, rfl, ⟨_, Same.seqT s3 hp⟩, fun D2 nD2 => lc_tup (K := K) (a := p) (xs := natV ns) (fun j H' => Same H3 H' ∧ H' D2 = some (.lst (natV (partL l 1 (ns.take j))))) ⟨same_new nD2, upd_same⟩ (fun j H' _ hp' => Same.seqT (s3.trans hp'.1) hp) (fun j v H4 hv hp' => ?_) (fun H4 hp' => ?_)⟩
    · obtain ⟨s4, hD2⟩ := hp'
      obtain ⟨n, hn, rfl⟩ := natV_at hv
      obtain ⟨ya, yb, gy, sy⟩ := out_at (pairs_keep hAt (Same.keep (s3.trans s4))) (nin n (List.mem_of_getElem? hn))
      have sqt3 := Same.seqT (s3.trans s4) sqt
      refine ⟨rfl, .ref t, rfl, .int n, rfl, t, xst, _, .ref ya, rfl, rfl, sqt3, atI_nat gy, ya, _, 1, .int (outAt l n), rfl, rfl, sy, rfl, rfl, _, rfl, ite2 (fun e => ?_) (fun e => ?_)⟩
      · have e' : outAt l n = 1 := by
          have := of_decide_eq_true e
          injection this
        have pl := partL_len l 1 (ns.take j)
        rw [List.length_take] at pl
        refine ⟨.int n, rfl, _, hD2, by rw [List.length_map]; exact Nat.lt_of_le_of_lt (by omega : _ ≤ 64) (by decide), fun b o h => by rw [upd_ne (ne_of_none h nD2)]; exact s4 _ _ h, ?_⟩
        rw [upd_same, partL_take hn, if_pos e', natV_snoc]
      · have e' : ¬ outAt l n = 1 := fun z => e (decide_eq_true (by rw [z]))
        exact ⟨s4, by rw [partL_take hn, if_neg e', List.append_nil]; exact hD2⟩
    obtain ⟨s4, hD2⟩ := hp'
    rw [show (natV ns).length = ns.length from List.length_map _, List.take_length] at hD2
    refine ⟨.ref D, rfl, .ref D2, rfl, by show 2 ≤ sizeLine; decide, fun T nT => ?_⟩
    have nDH2 : H D2 = none := by
      cases e : H D2 with
      | none => rfl
      | some o => rw [s3 _ _ e] at nD2; cases nD2
    exact q _ T D D2 ((s3.trans s4).trans (same_new nT)) nD nDH2 upd_same (same_new nT _ _ (s4 _ _ hD)) (same_new nT _ _ hD2)
def spForced (K : PySem.W.Frag) : Sp := fun vs H Q _ => ∃ (t c : Addr) (l : List (Int × Int)) (k : Str) (z : Int) (x : Option Int), vs = [.ref t, .ref c] ∧ PairsAt K H t l ∧ Fair l ∧ 1 ≤ l.length ∧ l.length ≤ 62 ∧ SqT K H c (planV k z x) ∧ PlanOk k z x ∧
  ∀ H' p ys, Same H H' → SqT K H' p ys → (0 < ys.length ↔ Clash l k x z.toNat) → Q (.ref p) H'
theorem ok_forced {f : Addr} {fd : FuncData} (DG : Dfn P w K mg base 6 "groups" ["trace", "scheme"] (spGroups K)) (DPa : Dfn P w K mg base 1 "_parted" ["trace", "positions"] (spParted K)) (mz : mg "zip" = none) (mn : mg "min" = none) (mx : mg "max" = none) (ms : mg "sorted" = none) (mt : mg "tuple" = none)
    (F : L2.Fun K "forced" "forced" sForced f fd) : FnOk P w K mg base L2.CX0 7 f fd ["trace", "scheme"] (spForced K) := by
  refine F.ok scForced (fun vs H Q E h => ?_) (fun cdv A outer s H vs Q E hr h => ?_)
  · obtain ⟨t, c, l, k, z, x, rfl, _⟩ := h
    rfl
  · obtain ⟨t, c, l, k, z, x, rfl, hl, fair, l1, l62, hc, ok, q⟩ := h
    refine ⟨_, pss_cons (ps_set (i := 2) scForced.nd rfl (.inl rfl) (pe_lst pa_nil))
      (pss_cons (ps_for PassesOwn.never rfl (pi_tup (pe_d DG hr (by decide) (by rfl) (pa_cons (pv 0) (pa_cons (pv 1) pa_nil)))) (pg_tup (by rfl) (pgs_cons (pg_name (i := 3) scForced.nd rfl (.inl rfl)) (pgs_cons (pg_name (i := 4) scForced.nd rfl (.inl rfl)) pgs_nil)))
        (pss_cons (ps_asg (pe_d DPa hr (by decide) (by rfl) (pa_cons (pv 0) (pa_cons (pv 4) pa_nil))) (pg_tup (n := 2) (by rfl) (pgs_cons (pg_name (i := 5) scForced.nd rfl (.inl rfl)) (pgs_cons (pg_name (i := 6) scForced.nd rfl (.inl rfl)) pgs_nil))))
        (pss_one (ps_for PassesOwn.never rfl (pi_zipA rfl mz (pa_cons (pv 5) (pa_cons (pv 6) pa_nil))) (pg_tup (by rfl) (pgs_cons (pg_name (i := 7) scForced.nd rfl (.inl rfl)) (pgs_cons (pg_name (i := 8) scForced.nd rfl (.inl rfl)) pgs_nil)))
          (pss_one (ps_expr (pe_bm PySem.F.plainAttrs_list PySem.F.slot_list_append PySem.F.type_list_append mt_append (pv 2) (pa_cons (pe_tup (pa_cons (pe_callB (call_min2 rfl) (by rfl) mn (by decide +kernel) (pa_cons (pv 7) (pa_cons (pv 8) pa_nil)))
            (pa_cons (pe_callB (call_max2 rfl) (by rfl) mx (by decide +kernel) (pa_cons (pv 7) (pa_cons (pv 8) pa_nil))) pa_nil))) pa_nil))))))))
      (pss_one (ps_ret (pe_callTy call_tuple_of (by rfl) mt (by decide +kernel) (pa_cons (pe_callB cr_sortedP (by rfl) ms (by decide +kernel) (pa_cons (pv 2) pa_nil)) pa_nil))))), ?_⟩
    refine ⟨Nat.zero_le _, fun D nD => go_name ?_⟩
    have s1 : Same H (upd H D (.lst [])) := same_new nD
    have hD1 : (upd H D (.lst [])) D = some (.lst []) := upd_same
    generalize upd H D (.lst []) = H1 at s1 hD1
    refine ⟨.ref t, rfl, .ref c, rfl, t, c, l, k, z, x, rfl, hl.keep (Same.keep s1), fair, l1, l62, Same.seqT s1 hc, ok, fun H2 p es cs s12 hp esl el nd only all ents => ⟨p, rfl, ⟨_, hp⟩, ?_⟩⟩
    generalize hL : z.toNat = L at only all ents q
    have hD2 := s12 _ _ hD1
    have pc62 : ∀ c, pairsC l k x L c ≤ 62 := fun c => by
      have := partL_len l 0 (posL l k x L c l.length)
      have := posL_len l k x L c l.length
      unfold pairsC
      omega
    have hl2 := hl.keep (Same.keep (s1.trans s12))
    refine for_tup (K := K) (xs := es) (fun i σ H' => (∃ y3 y4 y5 y6 y7 y8, σ = [some (.ref t), some (.ref c), some (.ref D), y3, y4, y5, y6, y7, y8]) ∧ (∀ b o, b ≠ D → H2 b = some o → H' b = some o) ∧ Keep K H2 H' ∧ ∃ as, H' D = some (.lst as) ∧ as.length = sumC (pairsC l k x L) (cs.take i) ∧ ∀ a ∈ as, ∃ T i j, a = V.ref T ∧ H' T = some (.tup [.int i, .int j]))
      ⟨⟨_, _, _, _, _, _, rfl⟩, fun b o _ h => h, Same.keep (Same.refl _), [], hD2, rfl, fun a h => (nomatch h)⟩ (fun i σ H' _ hp' => hp'.2.2.1 _ _ hp) (fun i v σ H3 hv hp' => ?_) (fun σ H3 hp' => ?_)
    · obtain ⟨⟨y3, y4, y5, y6, y7, y8, rfl⟩, old, k23, as, hD, asl, tups⟩ := hp'
      have hi : i < es.length := (List.getElem?_eq_some_iff.mp hv).1
      have hic : i < cs.length := by omega
      have hci : cs[i]? = some cs[i] := List.getElem?_eq_getElem hic
      obtain ⟨a, v1, b, rfl, h1, h2, h3⟩ := ents i v cs[i] hv hci
      have aD : a ≠ D := fun z => by rw [z, hD2] at h1; cases h1
      have b3 := k23 _ _ h3
      refine ⟨a, _, rfl, .inl (.inl (old _ _ aD h1)), rfl, _, _, rfl, _, _, rfl, rfl, ?_⟩
      refine ⟨.ref t, rfl, .ref b, rfl, t, b, l, posL l k x L cs[i] l.length, rfl, hl2.keep k23, b3, by have := posL_len l k x L cs[i] l.length; omega, fun n hn => (posL_mem.mp hn).1, fun H4 T Z O s34 nZ nO hT hZ hO => ⟨T, _, rfl, .inl (.inl hT), rfl, _, _, rfl, _, _, rfl, rfl, ?_⟩⟩
      have hD4 := s34 _ _ hD
      have ZD : Z ≠ D := (ne_of_none hD nZ).symm
      have OD : O ≠ D := (ne_of_none hD nO).symm
      have few := sumC_bound (b := 62) pc62 (cs.take i)
      have few2 : (cs.take i).length ≤ 62 := by rw [List.length_take]; omega
      have few3 : 62 * (cs.take i).length ≤ 62 * 62 := Nat.mul_le_mul_left _ few2
      have pcb := pc62 cs[i]
      refine ⟨.ref Z, rfl, .ref O, rfl, Z, O, _, _, rfl, .inl ⟨SqL.of hZ, SqL.of hO, ?_⟩⟩
      refine for_it (walk_zipL rfl) (fun j σ H' => (∃ y7 y8, σ = [some (.ref t), some (.ref c), some (.ref D), some v1, some (.ref b), some (.ref Z), some (.ref O), y7, y8]) ∧ (∀ b o, b ≠ D → H4 b = some o → H' b = some o) ∧ Keep K H4 H' ∧ ∃ bs, H' D = some (.lst bs) ∧ bs.length = as.length + j ∧ ∀ a ∈ bs, ∃ T i j, a = V.ref T ∧ H' T = some (.tup [.int i, .int j]))
        ⟨⟨_, _, rfl⟩, fun b o _ h => h, Same.keep (Same.refl _), as, hD4, rfl, fun a ha => ?_⟩ (fun j σ H' _ hp' => ⟨SqL.of (hp'.2.1 _ _ ZD hZ), SqL.of (hp'.2.1 _ _ OD hO)⟩) (fun j v σ H5 H6 hj hp' hy => ?_) (fun σ H5 hp' => ?_)
      · obtain ⟨T', i', j', e1, e2⟩ := tups a ha
        exact ⟨T', i', j', e1, s34 _ _ e2⟩
      · obtain ⟨⟨y7, y8, rfl⟩, old5, k45, bs, hD5, bsl, tups5⟩ := hp'
        obtain ⟨T2, xv, yv, rfl, nT2, hx, hy, rfl⟩ := hy
        obtain ⟨n1, _, rfl⟩ := natV_at hx
        obtain ⟨n2, _, rfl⟩ := natV_at hy
        have s56 : Same H5 (upd H5 T2 (.tup [.int (n1 : Int), .int (n2 : Int)])) := same_new nT2
        have hT2 : SqT K (upd H5 T2 (.tup [.int (n1 : Int), .int (n2 : Int)])) T2 [.int (n1 : Int), .int (n2 : Int)] := .inl (.inl upd_same)
        generalize upd H5 T2 (.tup [.int (n1 : Int), .int (n2 : Int)]) = H6 at s56 hT2
        have hD6 := s56 _ _ hD5
        refine ⟨T2, _, rfl, hT2, rfl, _, _, rfl, _, _, rfl, rfl, ?_⟩
        refine ⟨.ref D, rfl, .inl ⟨rfl, _, SqL.of hD6⟩, .int n1, rfl, .int n2, rfl, _, _, rfl, .int n1, rfl, .int n2, rfl, _, _, rfl, by show 2 ≤ sizeLine; decide, fun T3 nT3 => ?_⟩
        have lz : (natV (partL l 0 (posL l k x L cs[i] l.length))).length ≤ 62 := by
          have := partL_len l 0 (posL l k x L cs[i] l.length)
          have := posL_len l k x L cs[i] l.length
          rw [List.length_map]
          omega
        refine ⟨D, bs, .ref T3, rfl, rfl, same_new nT3 _ _ hD6, by rw [sizeLine_eq]; omega, ?_⟩
        generalize hmn : (if ((n2 : Nat) : Int) < ((n1 : Nat) : Int) then ((n2 : Nat) : Int) else ((n1 : Nat) : Int)) = mn'
        generalize hmx : (if ((n2 : Nat) : Int) > ((n1 : Nat) : Int) then ((n2 : Nat) : Int) else ((n1 : Nat) : Int)) = mx'
        have s67 : Same H6 (upd H6 T3 (.tup [.int mn', .int mx'])) := same_new nT3
        have hT3 : (upd H6 T3 (.tup [.int mn', .int mx'])) T3 = some (.tup [.int mn', .int mx']) := upd_same
        generalize upd H6 T3 (.tup [.int mn', .int mx']) = H7 at s67 hT3
        have hD7 := s67 _ _ hD6
        have s57 := s56.trans s67
        refine ⟨⟨_, _, rfl⟩, fun b o nb e => by rw [upd_ne nb]; exact s57 _ _ (old5 b o nb e), (k45.trans (Same.keep s57)).trans (keep_wr hD7), _, upd_same, by rw [List.length_append, bsl]; rfl, fun a ha => ?_⟩
        rcases List.mem_append.mp ha with ha | ha
        · obtain ⟨T', i', j', e1, e2⟩ := tups5 a ha
          exact ⟨T', i', j', e1, tup_keep hD7 _ _ (s57 _ _ e2)⟩
        · exact ⟨T3, _, _, List.mem_singleton.mp ha, tup_keep hD7 _ _ hT3⟩
      · obtain ⟨⟨y7, y8, rfl⟩, old5, k45, bs, hD5, bsl, tups5⟩ := hp'
        refine ⟨⟨_, _, _, _, _, _, rfl⟩, fun b o nb e => old5 b o nb (s34 _ _ (old b o nb e)), (k23.trans (Same.keep s34)).trans k45, bs, hD5, ?_, tups5⟩
        rw [bsl, asl, sumC_take hci, List.length_map, List.length_map]
        rfl
    · obtain ⟨⟨y3, y4, y5, y6, y7, y8, rfl⟩, old, k23, as, hD, asl, tups⟩ := hp'
      rw [esl, List.take_length] at asl
      refine ⟨.ref D, rfl, D, as, rfl, SqL.of hD, tups, fun ys p' pm np => ⟨p', ys, rfl, .inl ⟨SqL.of upd_same, fun r nr => ?_⟩⟩⟩
      refine q _ r ys ?_ (.inl (.inl upd_same)) (by rw [pm.length_eq, asl]; exact forced_clash fair l1 only all)
      intro b o e
      rw [upd_ne (ne_of_none (by rw [upd_ne (ne_of_none (old b o (fun z => by rw [z, nD] at e; cases e) (s12 _ _ (s1 _ _ e))) np)]; exact old b o (fun z => by rw [z, nD] at e; cases e) (s12 _ _ (s1 _ _ e))) nr), upd_ne (ne_of_none (old b o (fun z => by rw [z, nD] at e; cases e) (s12 _ _ (s1 _ _ e))) np)]
      exact old b o (fun z => by rw [z, nD] at e; cases e) (s12 _ _ (s1 _ _ e))
end
end Pf
/-! del d[k] of a dict with keys of either kind. -/
namespace Gk
open PySem PySem.Spec PyProof.Rows L2
/-- del d[y] leaves H' -/
def DDel (H : Hp) (a : Addr) (y : V) (H' : Hp) : Prop :=
  (∃ kvs k, H a = some (.dK kvs) ∧ y = kV k ∧ (valV kvs k).isSome = true ∧ H' = upd H a (.dK (dropK kvs k))) ∨
  ∃ kvs k b, H a = some (.dT kvs) ∧ y = .ref b ∧ H b = some (.tup (k.map kV)) ∧ (valV kvs k).isSome = true ∧ H' = upd H a (.dT (dropK kvs k))
def tDDelC (td ty : TE) : TS := fun D σ H => td σ H fun x H1 => ty σ H1 fun y H2 => ∃ a H3, x = .ref a ∧ DDel H2 a y H3 ∧ D.nx σ H3
section
variable {X : Cx}
theorem d_delItemT {pins : List (Addr × Obj)} {σ : L2.St} {H : Hp} {s : Shared} {E : Value → Shared → Prop} {a b : Addr} {kvs : List (List L2.Key × V)} {k : List L2.Key} {Q : Unit → Shared → Prop} (hu : X.A.units + 1 < cLine) (I : Inv X pins σ H s) (ha : H a = some (.dT kvs)) (hb : H b = some (.tup (k.map kV))) (l : (valV kvs k).isSome = true)
    (h : ∀ s', Inv X pins σ (upd H a (.dT (dropK kvs k))) s' → Q () s') : wpAny (model X.prog X.w) X.A (delItem (.ref a) (.ref b)) Q E s := by
  obtain ⟨z, hd, xs', rel, dd⟩ := dt_of I.hok ha
  have hz : xs'.length ≤ sizeLine := by rw [← Paired.length rel]; exact z
  obtain ⟨p, hp⟩ : ∃ p, atKey xs' k = some p := by
    cases e : atKey xs' k with
    | some p => exact ⟨p, rfl⟩
    | none =>
      have r := rel.val k
      rw [e] at r
      cases ev : valV kvs k with
      | none => rw [ev] at l; cases l
      | some v0 =>
        rw [ev] at r
        exact (show False from r).elim
  refine wpAny_delItem_heap (hsz := hz) (tupleKind_room_in1 hu) (key_of I.hok hb) hd dd hp fun h' dd' hs => ?_
  obtain ⟨o, es, ep, hq, h2, h3, h4, _, h5⟩ := dd'
  exact h _ (d_write I (by rw [ha]; exact True.intro) hs ⟨o, hq⟩ ⟨Nat.le_trans (dropK_le kvs k) z, hd, _, (L2.DX.KT_drop k rel).keeps (fun c ys ec => (by rw [upd_ne (ne_of ec ha (fun z => nomatch z))]; exact ec)), o, es, ep, hq, h2, h3, h4, h5⟩)
theorem ps_ddelC {o i : Expr} {td ty : TE} {tpos pos : Pos} (hu : X.A.units + 1 < cLine) (ho : PE X o td) (hi : PE X i ty) : PS X (.Delete [.Subscript o i tpos] pos) (tDDelC td ty) := by
  refine ⟨fun pins s σ H D I h => ?_⟩
  refine wpAny_Delete (wpAny_deleteEach_cons (wpAny_delete_Subscript (thn (ho.run pins s σ H _ I h) fun u s1 ⟨x, H1, I1, rx, q1⟩ => thn (hi.run pins s1 σ H1 _ I1 q1) fun iv s2 ⟨y, H2, I2, ry, a, H3, ex, e, q2⟩ => ?_)))
  subst ex
  obtain rfl : u = Value.ref a := rx
  rcases e with ⟨kvs, k, e, ey, l, rfl⟩ | ⟨kvs, k, b, e, ey, eb, l, rfl⟩
  · subst ey
    exact d_delItem I2 e ry l fun s3 I3 => wpAny_deleteEach_nil ⟨σ, _, I3, q2⟩
  · subst ey
    obtain rfl : iv = Value.ref b := ry
    exact d_delItemT hu I2 e eb l fun s3 I3 => wpAny_deleteEach_nil ⟨σ, _, I3, q2⟩
end
end Gk
/-! {k: d[k] for k in d}: a dict comprehension that makes a dict of any of the kinds that are kept. -/
namespace Gk
open PySem PySem.Spec PyProof.Rows L2
/-- a kind of dict: what stands there when it is new, and what a store leaves -/
structure DNew (P : Program) (w : World) (nd : Addr → HO) (put : Hp → Addr → V → V → Hp → Prop) : Prop where
  lay : ∀ {X : Cx} {pins : List (Addr × Obj)} {σ : L2.St} {H : Hp} {s : Shared}, X.prog = P → X.w = w → Inv X pins σ H s →
    ∀ H' : Hp, ObjOk P w H' (s.heap.push { cls := .type "dict", data := .dict #[] }) s.heap.objs.size (nd s.heap.objs.size)
  store : ∀ {X : Cx} {pins : List (Addr × Obj)} {σ : L2.St} {H H' : Hp} {s : Shared} {E : Value → Shared → Prop} {D : Addr} {y z : V} {u r : Value} {Q : Unit → Shared → Prop},
    X.prog = P → X.w = w → X.A.units < cLine → Inv X pins σ H s → put H D y z H' → RelV y u → RelV z r → (∀ s', Inv X pins σ H' s' → Q () s') →
    wpAny (model X.prog X.w) X.A (dictSet D u r) Q E s
theorem dnew_k {P : Program} {w : World} : DNew P w (fun _ => .dK []) DPut where
  lay := fun e1 e2 I H' => by
    subst e1 e2
    exact dk_empty _ I.big
  store := fun {X pins σ H H' s E D y z u r Q} e1 e2 hu I p ry rv h => by
    subst e1 e2
    rcases p with ⟨kvs, k, e, ey, l, eH⟩ | ⟨kvs, k, b, e, ey, eb, l, eH⟩
    · subst ey eH
      exact d_dictSet I e l ry rv h
    · subst ey eH
      cases (show u = Value.ref b from ry)
      obtain ⟨lz, hd, xs, rel, dd⟩ := dt_of I.hok e
      have hx : xs.length ≤ sizeLine := by rw [← Paired.length rel]; exact lz
      have hp : (putK kvs k z).length ≤ sizeLine := by have := length_putK kvs k z; omega
      refine wpAny_dictSet_heap (hsz := hx) hu (key_of I.hok eb) dd fun h' dd' hs => h _ ?_
      obtain ⟨q, es, ep, hq, h2, h3, h4, _, h5⟩ := dd'
      exact d_write I (by rw [e]; exact True.intro) hs ⟨q, hq⟩ ⟨hp, hd, _, (rel.put k eb rv).keeps (fun c ys ec => (by rw [upd_ne (ne_of ec e (fun z => nomatch z))]; exact ec)), q, es, ep, hq, h2, h3, h4, h5⟩
theorem dnew_t {P : Program} {w : World} : DNew P w (fun _ => .dT []) DPut where
  lay := fun e1 e2 I H' => by
    subst e1 e2
    exact dt_empty _ I.big
  store := dnew_k.store
/-- D[y] = z where D's keys are None or whole numbers -/
def NPut (P : Program) (w : World) (H : Hp) (D : Addr) (y z : V) (H' : Hp) : Prop := ∃ kvs k, H D = some (dN P w D kvs) ∧ y = oKey k ∧ kvs.length < sizeLine ∧ H' = upd H D (dN P w D (putK kvs k z))
theorem dnew_n {P : Program} {w : World} : DNew P w (fun a => dN P w a []) (NPut P w) where
  lay := fun e1 e2 I H' => by
    subst e1 e2
    exact dn_ok (Nat.zero_le _) (not_modules I) .nil (Heap.DictOf.new _)
  store := fun {X pins σ H H' s E D y z u r Q} e1 e2 hu I p ry rv h => by
    subst e1 e2
    obtain ⟨kvs, k, e, ey, l, eH⟩ := p
    subst ey eH
    obtain ⟨lz, hd, vs, rel, dd⟩ := dn_at I.hok e
    have hx : vs.length ≤ sizeLine := by rw [← rel.length]; exact lz
    have hp : (putK kvs k z).length ≤ sizeLine := by have := length_putK kvs k z; omega
    refine wpAny_dictSet_pairs (hsz := hx) (oKey_is ry) dd fun h' dd' hs => h _ ?_
    have he : ∃ q, h'.get? D = some q := let ⟨q, _, _, hq, _⟩ := dd'; ⟨q, hq⟩
    exact d_write I (by rw [e]; exact True.intro) hs he (dn_ok hp hd (rel.put k rv) dd')
section
variable {X : Cx}
/-- one turn of the comprehension: what it takes and what it leaves -/
def DTurn (put : Hp → Addr → V → V → Hp → Prop) (D : Addr) (g : TG) (tt : TT) (tk tv : TE) (vs : List Nat) (σ : L2.St) (Nx : Hp → Prop) (x : V) (H : Hp) : Prop :=
  g x (wipe σ vs) H fun σ2 H2 => wipe σ2 vs = wipe σ vs ∧ tt σ2 H2 fun b H3 => if b = true then tk σ2 H3 fun y H4 => tv σ2 H4 fun z H5 => ∃ H6, put H5 D y z H6 ∧ Nx H6 else Nx H3
theorem dturn_yes {put : Hp → Addr → V → V → Hp → Prop} {D : Addr} {g : TG} {tk tv : TE} {vs : List Nat} {σ : L2.St} {Nx : Hp → Prop} {x : V} {H : Hp} (h : g x (wipe σ vs) H fun σ2 H2 => wipe σ2 vs = wipe σ vs ∧ tk σ2 H2 fun y H4 => tv σ2 H4 fun z H5 => ∃ H6, put H5 D y z H6 ∧ Nx H6) :
    DTurn put D g tYes tk tv vs σ Nx x H := by
  exact h
/-- {k: v for target in iter if ..}, D the new dict -/
def tDcG (nd : Addr → HO) (put : Hp → Addr → V → V → Hp → Prop) (wi : TI) (g : TG) (tt : TT) (tk tv : TE) (vs : List Nat) : TE := fun σ H Q => wi σ H fun J H1 => ∀ D, H1 D = none →
  ∃ W : Nat → Nat → Hp → Prop, (∃ m, W 0 m (upd H1 D (nd D))) ∧ ∀ i m H, W i m H → (J.stop i H ∧ Q (.ref D) H) ∨ (J.go i H ∧ ∃ Nx : Hp → Prop, (∀ H', Nx H' → ∃ m', m' < m ∧ W (i + 1) m' H') ∧ ∀ x H', J.yld i H x H' → DTurn put D g tt tk tv vs σ Nx x H')
theorem pe_dcG {kx vx tg iter : Expr} {ifs : List Expr} {scope : Scope} {own : List (Str × Nat)} {pos : Pos} {wi : TI} {g : TG} {tt : TT} {tk tv : TE} {nd : Addr → HO} {put : Hp → Addr → V → V → Hp → Prop} (hnd : DNew X.prog X.w nd put) (hu : X.A.units < cLine) (hc : X.calm = true) (hN : X.N.Nodup) (hi : PI X tg iter wi) (ok : BlkOk X.N X.env.scope scope own)
    (hg : ∀ (s : Shared) (H : Hp) (C : Addr) (cl : List (Str × Addr)) (fp : List Addr), PG (X.blk s H scope (compEnvC scope cl C X.env) fp) tg g) (ht : ∀ (s : Shared) (H : Hp) (C : Addr) (cl : List (Str × Addr)) (fp : List Addr), PTs (X.blk s H scope (compEnvC scope cl C X.env) fp) ifs tt)
    (hk : ∀ (s : Shared) (H : Hp) (C : Addr) (cl : List (Str × Addr)) (fp : List Addr), PE (X.blk s H scope (compEnvC scope cl C X.env) fp) kx tk) (hv : ∀ (s : Shared) (H : Hp) (C : Addr) (cl : List (Str × Addr)) (fp : List Addr), PE (X.blk s H scope (compEnvC scope cl C X.env) fp) vx tv)
    (hs : ∀ x, foldedSetIterable iter X.env x = pure x := by intro _; rfl) : PE X (.DictComp kx vx [⟨tg, iter, ifs, 0⟩] scope pos) (tDcG nd put wi g tt tk tv (own.map (·.2))) := by
  refine ⟨fun pins s σ H Q I h => ?_⟩
  rw [arm_eval_DictComp]
  refine wpAny_comprehension_free (use := none) rfl hs (closure_ok fun y hy e => (ok.free y hy e).elim (fun k => I.ok.has _ (.inl k)) fun k => I.ok.has _ (.inr k)) ok.kind (fun y hy e => by rw [ok.uniq y hy, e]) (thn (hi.run pins s σ H _ I h) fun xv s1 hx => thn hx fun itv s2 hh => ?_)
  obtain ⟨it, fp, tn, J, H2, eit, I2, T, st2, f2, q⟩ := hh
  subst eit
  refine wpAny_newObj_type (newEnv_comp ?_)
  generalize eD : s2.heap.objs.size = D
  have freeD : H2 D = none := I2.hok.fresh (Nat.le_of_eq eD)
  obtain ⟨W, ⟨m0, w0⟩, turn⟩ := q D freeD
  -- the new dict
  generalize e3 : ({ s2 with heap := s2.heap.push { cls := .type "dict", data := .dict #[] } } : Shared) = s3
  have hp3 : s3.heap = s2.heap.push { cls := .type "dict", data := .dict #[] } := by rw [← e3]
  have I3 : Inv X pins σ (upd H2 D (nd D)) s3 := by
    rw [← e3, ← eD]
    exact I2.laid (t' := s2.toks) (fun b o e => Heap.get?_push_of_some _ e) (Nat.le_refl _) (hnd.lay rfl rfl I2 _)
  have small : ∀ b ∈ fp, b < s2.heap.objs.size := fun b hb => let ⟨o, e, _⟩ := T.obj _ _ st2 b hb; Heap.lt_size e
  have f3 : ∀ b ∈ fp, FpOk X pins (upd H2 D (nd D)) b ∧ b < s3.heap.objs.size := fun b hb =>
    ⟨⟨by rw [upd_ne (by rw [← eD]; exact Nat.ne_of_lt (small b hb))]; exact (f2 b hb).1, (f2 b hb).2⟩, by rw [hp3, Heap.size_push]; exact Nat.lt_succ_of_lt (small b hb)⟩
  have I4 := block_start I3 ok hN f3
  have pg := hg s3 (upd H2 D (nd D)) s3.heap.objs.size (cellsFrom (s3.heap.objs.size + 1) scope.names (cloFrom X.env.cells scope.names [])) fp
  have pt := ht s3 (upd H2 D (nd D)) s3.heap.objs.size (cellsFrom (s3.heap.objs.size + 1) scope.names (cloFrom X.env.cells scope.names [])) fp
  have pk := hk s3 (upd H2 D (nd D)) s3.heap.objs.size (cellsFrom (s3.heap.objs.size + 1) scope.names (cloFrom X.env.cells scope.names [])) fp
  have pv := hv s3 (upd H2 D (nd D)) s3.heap.objs.size (cellsFrom (s3.heap.objs.size + 1) scope.names (cloFrom X.env.cells scope.names [])) fp
  show codeAny _ _ (.compStart (.DictComp kx vx [⟨tg, iter, ifs, 0⟩] scope pos) 0 (.ref it) (.ref D) (compEnvC scope (cellsFrom (s3.heap.objs.size + 1) scope.names (cloFrom X.env.cells scope.names [])) s3.heap.objs.size X.env)) (compPost (model X.prog X.w) X.A X.xe none _ (.ref D) s3.heap.objs.size)
    { s3 with heap := pushCells (s3.heap.push { cls := .type "dict", data := .dict #[] }) scope.names }
  have none3 : ∀ b ∈ fp, (upd H2 D (nd D)) b = none := fun b hb => (f3 b hb).1.1
  generalize ece : compEnvC scope (cellsFrom (s3.heap.objs.size + 1) scope.names (cloFrom X.env.cells scope.names [])) s3.heap.objs.size X.env = ce at I4 pg pt pk pv ⊢
  have locs : ce.locals = s3.heap.objs.size := by subst ece; rfl
  generalize eH3 : upd H2 D (nd D) = H3 at I3 I4 pg pt pk pv w0 none3 f3
  have st3 : tn 0 s3.heap := T.keep _ _ _ st2 fun b _ o e => by rw [hp3]; exact Heap.get?_push_of_some _ e
  generalize e4 : ({ s3 with heap := pushCells (s3.heap.push { cls := .type "dict", data := .dict #[] }) scope.names } : Shared) = s4 at I4 ⊢
  have st4 : tn 0 s4.heap := T.keep _ _ _ st3 fun b _ o e => by rw [← e4]; exact pushCells_keeps _ _ _ _ (Heap.get?_push_of_some _ e)
  have foot : ∀ {σ' : L2.St} {H' : Hp} {s' : Shared}, Inv (X.blk s3 H3 scope ce fp) [] σ' H' s' → (∀ b ∈ fp, H' b = none) → ∀ b ∈ fp, FpOk (X.blk s3 H3 scope ce fp) [] H' b := fun {σ' H' s'} I' hn b hb =>
    ⟨hn b hb, (I'.ok.exf b hb).1, I'.ok.exfs b hb, .inl hb, fun x c e => (I'.ok.exf b hb).2 x c e, fun p hp => absurd (show p ∈ ([] : List (Addr × Obj)) ++ [] from hp) (by simp)⟩
  have body : codeAny (model X.prog X.w) X.A (.compLoop (.DictComp kx vx [⟨tg, iter, ifs, 0⟩] scope pos) 0 (.ref it) (.ref D) ce) (compPost (model X.prog X.w) X.A X.xe none (fun v s => ∃ y H', Inv X pins σ H' s ∧ RelV y v ∧ Q y H') (.ref D) s3.heap.objs.size) s4 := by
    refine compLoop_anyD (fun n s' => ∃ i H', Inv (X.blk s3 H3 scope ce fp) [] (wipe σ (own.map (·.2))) H' s' ∧ tn i s'.heap ∧ (∀ b ∈ fp, H' b = none) ∧ W i n H') ?_ m0 ⟨0, H3, I4, st4, none3, w0⟩
    rintro n s5 ⟨i, H5, I5, st5, n5, w5⟩
    rcases turn i n H5 w5 with ⟨stop, qq⟩ | ⟨go, Nx, hNx, step⟩
    · refine thnF (T.done (X.blk s3 H3 scope ce fp) rfl rfl rfl hc i [] s5 _ H5 (fun _ _ => False) I5 (foot I5 n5) st5 stop) fun r s6 ⟨er, I6⟩ => ?_
      subst er
      have I7 : Inv X pins σ H5 s6 := I3.call' (ch := fp) I6.os I6.base I6.hok I6.bare fun b hb => ⟨(f3 b hb).1.2.2.2.1, (f3 b hb).1.2.1, (f3 b hb).1.2.2.2.2.1, (f3 b hb).1.2.2.2.2.2⟩
      have noC : H5 s3.heap.objs.size = none := by rw [← locs]; exact I6.free
      obtain ⟨m, hn, _⟩ := I6.loc
      have hn : s6.heap.Ns ce.locals m := hn
      rw [locs] at hn
      refine ⟨m, hn, fun h'' sb => ?_⟩
      obtain ⟨g0, g1, g2, g3, g4, g5⟩ := I3.fpOk (Nat.le_refl _) noC
      exact ⟨.ref D, H5, I7.turned (t' := s6.toks) (fun b o hb e => (sb.2 b hb).trans e) g0 g1 g3 g4 g5, rfl, qq⟩
    · refine thnF (T.item (X.blk s3 H3 scope ce fp) rfl rfl rfl hc i [] s5 _ H5 (fun _ _ => False) I5 (foot I5 n5) st5 go) fun r s6 ⟨u, er, hh⟩ => ?_
      subst er
      refine thnF hh fun _ s7 ⟨x, H7, I7, r7, y7, st7, n7⟩ => ?_
      refine thnF (pg.run _ s7 _ H7 x u _ (I7.pinned (foot I7 n7) (T.obj _ _ st7)) r7 (step x H7 y7)) fun _ s8 ⟨σ8, H8, I8, hw, q8⟩ => ?_
      refine thnF (pt.run _ s8 σ8 H8 _ I8 q8) fun b s9 ⟨H9, I9, q9⟩ => ?_
      have next : ∀ {s' : Shared} {H' : Hp}, Inv (X.blk s3 H3 scope ce fp) ([] ++ pinsAt fp s7.heap) σ8 H' s' → Nx H' → ∃ m, m < n ∧ ∃ i H', Inv (X.blk s3 H3 scope ce fp) [] (wipe σ (own.map (·.2))) H' s' ∧ tn i s'.heap ∧ (∀ b ∈ fp, H' b = none) ∧ W i m H' := fun {s' H'} I' nx => by
        obtain ⟨m', hm, w'⟩ := hNx H' nx
        have at' : ∀ b ∈ fp, ∀ o, s7.heap.get? b = some o → s'.heap.get? b = some o ∧ H' b = none := fun b hb o e =>
          let z := I'.pin (b, o) (List.mem_append_right _ (List.mem_append_right _ (mem_pinsAt hb e)))
          ⟨z.1, z.2.1⟩
        refine ⟨m', hm, i + 1, H', (I'.unpinned (pins := [])).weak (by rw [← hw, wipe_length]) (fun j v e => (wipe_some (by rw [hw]; exact e)).1), T.keep _ _ _ st7 fun b hb o e => (at' b hb o e).1, fun b hb => ?_, w'⟩
        obtain ⟨o, e, _⟩ := T.obj _ _ st7 b hb
        exact (at' b hb o e).2
      cases b with
      | false =>
        simp only [Bool.false_eq_true, if_false] at q9 ⊢
        exact next I9 q9
      | true =>
        simp only [if_true] at q9 ⊢
        refine thnF (pk.run _ s9 σ8 H9 _ I9 q9) fun z s10 ⟨yk, H10, I10, r10, q10⟩ => ?_
        refine thnF (pv.run _ s10 σ8 H10 _ I10 q10) fun z2 s11 ⟨yv, H11, I11, r11, H12, hput, nx⟩ => ?_
        exact hnd.store (X := X.blk s3 H3 scope ce fp) rfl rfl hu I11 hput r10 r11 fun s12 I12 => next I12 nx
  exact codeAny_compStart_dict body (T.self X.A 0 _ _ _ st4 body)
end
end Gk
namespace Pf
open PySem PySem.Spec PyProof.Rows L2 Gk Fold RZ
/-! ### fixed tables -/
/-- what the last entry of a cell says -/
def valT (ts : List (CK × Int)) (c : CK) : Option Int := ts.foldl (fun o e => if c = e.1 then some e.2 else o) none
def predT (ts : List (CK × Int)) (c : CK) : Int := (valT ts c).getD 0
theorem valT_snoc (ts : List (CK × Int)) (e : CK × Int) (c : CK) : valT (ts ++ [e]) c = if c = e.1 then some e.2 else valT ts c := by
  unfold valT
  rw [List.foldl_append]
  rfl
/-- the positions that a table predicts wrongly -/
def wrongT (l : List (Int × Int)) (k : Str) (x : Option Int) (L : Nat) (ts : List (CK × Int)) (n : Nat) : List Nat := (List.range n).filter fun i => decide (predT ts (sK l k x L i) ≠ outAt l i)
theorem wrongT_succ (l : List (Int × Int)) (k : Str) (x : Option Int) (L : Nat) (ts : List (CK × Int)) (n : Nat) : wrongT l k x L ts (n + 1) = wrongT l k x L ts n ++ if predT ts (sK l k x L n) ≠ outAt l n then [n] else [] := by
  unfold wrongT
  rw [List.range_succ, List.filter_append]
  by_cases e : predT ts (sK l k x L n) ≠ outAt l n
  · rw [if_pos e]
    simp [e]
  · rw [if_neg e]
    simp only [ne_eq, Decidable.not_not] at e
    simp [e]
theorem wrongT_len (l : List (Int × Int)) (k : Str) (x : Option Int) (L : Nat) (ts : List (CK × Int)) (n : Nat) : (wrongT l k x L ts n).length ≤ n := by
  have := List.length_filter_le (fun i => decide (predT ts (sK l k x L i) ≠ outAt l i)) (List.range n)
  rwa [List.length_range] at this
theorem wrongT_mem {l : List (Int × Int)} {k : Str} {x : Option Int} {L : Nat} {ts : List (CK × Int)} {n i : Nat} : i ∈ wrongT l k x L ts n ↔ i < n ∧ predT ts (sK l k x L i) ≠ outAt l i := by
  unfold wrongT
  rw [List.mem_filter, List.mem_range, decide_eq_true_eq]
/-- an entry: a cell and an outcome -/
def EntI (H : Hp) (e : V) (c : CK) (o : Int) : Prop := ∃ a v, e = .ref a ∧ H a = some (.tup [v, .int o]) ∧ KeyV H v c
theorem EntI.same {H H' : Hp} {e : V} {c : CK} {o : Int} (h : EntI H e c o) (s : ∀ b ts, H b = some (.tup ts) → H' b = some (.tup ts)) : EntI H' e c o := by
  obtain ⟨a, v, rfl, h1, h2⟩ := h
  exact ⟨a, v, rfl, s _ _ h1, h2.same s⟩
def TabAt (H : Hp) (es : List V) (ts : List (CK × Int)) : Prop := es.length = ts.length ∧ ∀ (i : Nat) (e : V) (p : CK × Int), es[i]? = some e → ts[i]? = some p → EntI H e p.1 p.2
theorem TabAt.same {H H' : Hp} {es : List V} {ts : List (CK × Int)} (h : TabAt H es ts) (s : ∀ b ts, H b = some (.tup ts) → H' b = some (.tup ts)) : TabAt H' es ts := ⟨h.1, fun i e p h1 h2 => (h.2 i e p h1 h2).same s⟩
theorem TabAt.at_ {H : Hp} {es : List V} {ts : List (CK × Int)} (h : TabAt H es ts) {i : Nat} {e : V} (he : es[i]? = some e) : ∃ p, ts[i]? = some p ∧ EntI H e p.1 p.2 := by
  have il : i < ts.length := by
    have := (List.getElem?_eq_some_iff.mp he).1
    have := h.1
    omega
  exact ⟨ts[i], List.getElem?_eq_getElem il, h.2 i e _ he (List.getElem?_eq_getElem il)⟩
theorem TabAt.nil {H : Hp} : TabAt H [] [] := ⟨rfl, fun i e p h => by simp at h⟩
theorem TabAt.snoc {H : Hp} {es : List V} {ts : List (CK × Int)} {e : V} {c : CK} {o : Int} (h : TabAt H es ts) (he : EntI H e c o) : TabAt H (es ++ [e]) (ts ++ [(c, o)]) := by
  refine ⟨by rw [List.length_append, List.length_append, h.1]; rfl, fun i e' p h1 h2 => ?_⟩
  rcases Nat.lt_trichotomy i es.length with g | g | g
  · rw [List.getElem?_append_left g] at h1
    rw [List.getElem?_append_left (by have := h.1; omega)] at h2
    exact h.2 i e' p h1 h2
  · rw [List.getElem?_append_right (by omega), show i - es.length = 0 by omega] at h1
    rw [List.getElem?_append_right (by have := h.1; omega), show i - ts.length = 0 by have := h.1; omega] at h2
    obtain rfl := Option.some.inj h1
    obtain rfl := Option.some.inj h2
    exact he
  · rw [List.getElem?_eq_none (by rw [List.length_append]; show es.length + 1 ≤ i; omega)] at h1
    cases h1
theorem TabAt.drop {H : Hp} {es : List V} {ts : List (CK × Int)} (h : TabAt H es ts) (n : Nat) : TabAt H (es.drop n) (ts.drop n) := by
  refine ⟨by rw [List.length_drop, List.length_drop, h.1], fun i e p h1 h2 => ?_⟩
  rw [List.getElem?_drop] at h1 h2
  exact h.2 _ e p h1 h2
/-- cells of one kind -/
def Kin (k : Str) (c : CK) : Prop := (tupK k = false ∧ ∃ q, c = .inl q) ∨ (tupK k = true ∧ ∃ q, c = .inr q)
theorem cellIs_kin {k : Str} {c : CK} (h : CellIs k c) : Kin k c := by
  obtain ⟨x, b, hs, rfl⟩ := h
  unfold cK Kin tupK
  by_cases c1 : k = "folded"
  · rw [if_pos c1]
    exact .inl ⟨by rw [decide_eq_true c1]; rfl, _, rfl⟩
  · rw [if_neg c1]
    by_cases c2 : k = "shared"
    · rw [if_pos c2]
      exact .inl ⟨by rw [decide_eq_true c2, Bool.or_true]; rfl, _, rfl⟩
    · rw [if_neg c2]
      exact .inr ⟨by rw [decide_eq_false c1, decide_eq_false c2]; rfl, _, rfl⟩
/-- a dict that knows what the table says -/
def KnowD (H : Hp) (a : Addr) (k : Str) (ts : List (CK × Int)) : Prop := VD H a k (fun c => (valT ts c).map V.int) ts.length
theorem KnowD.put {H : Hp} {a : Addr} {k : Str} {ts : List (CK × Int)} {v : V} {c : CK} {o : Int} (d : KnowD H a k ts) (kv : KeyV H v c) (kin : Kin k c) (few : ts.length < sizeLine) : ∃ H', DPut H a v (.int o) H' ∧ KnowD H' a k (ts ++ [(c, o)]) ∧ ∀ z, z ≠ a → H' z = H z := by
  rcases d with ⟨t, kvs, e, ln, l⟩ | ⟨t, kvs, e, ln, l⟩
  · rcases kin with ⟨_, q, rfl⟩ | ⟨t', _⟩
    · cases (show v = kV q from kv)
      refine ⟨_, .inl ⟨kvs, q, e, rfl, by omega, rfl⟩, .inl ⟨t, _, upd_same, by have := length_putK kvs q (V.int o); rw [List.length_append]; show _ ≤ ts.length + 1; omega, fun r => ?_⟩, fun z hz => upd_ne hz⟩
      rw [valV_put, l]
      dsimp only
      rw [valT_snoc]
      by_cases er : r = q
      · rw [if_pos er, if_pos (by rw [er])]
        rfl
      · rw [if_neg er, if_neg (fun z => er (Sum.inl.inj z))]
    · rw [t] at t'
      cases t'
  · rcases kin with ⟨t', _⟩ | ⟨_, q, rfl⟩
    · rw [t] at t'
      cases t'
    · obtain ⟨p, rfl, hp⟩ := kv
      refine ⟨_, .inr ⟨kvs, q, p, e, rfl, hp, by omega, rfl⟩, .inr ⟨t, _, upd_same, by have := length_putK kvs q (V.int o); rw [List.length_append]; show _ ≤ ts.length + 1; omega, fun r => ?_⟩, fun z hz => upd_ne hz⟩
      rw [valV_put, l]
      dsimp only
      rw [valT_snoc]
      by_cases er : r = q
      · rw [if_pos er, if_pos (by rw [er])]
        rfl
      · rw [if_neg er, if_neg (fun z => er (Sum.inr.inj z))]
theorem KnowD.get {H : Hp} {a : Addr} {k : Str} {ts : List (CK × Int)} {v : V} {c : CK} (d : KnowD H a k ts) (kv : KeyV H v c) (kin : Kin k c) : DGet H a v ((valT ts c).map V.int) := by
  rcases d with ⟨t, kvs, e, _, l⟩ | ⟨t, kvs, e, _, l⟩
  · rcases kin with ⟨_, q, rfl⟩ | ⟨t', _⟩
    · exact .inl ⟨kvs, q, .inl e, kv, (l q).symm⟩
    · rw [t] at t'
      cases t'
  · rcases kin with ⟨t', _⟩ | ⟨_, q, rfl⟩
    · rw [t] at t'
      cases t'
    · obtain ⟨p, rfl, hp⟩ := kv
      exact .inr ⟨kvs, q, p, .inl e, rfl, hp, (l q).symm⟩
theorem KnowD.isD {H : Hp} {a : Addr} {k : Str} {ts : List (CK × Int)} (d : KnowD H a k ts) : IsD H a := by
  rcases d with ⟨t, kvs, e, _, l⟩ | ⟨t, kvs, e, _, l⟩
  · exact .inl ⟨kvs, .inl e⟩
  · exact .inr ⟨kvs, .inl e⟩
theorem KnowD.same {H H' : Hp} {a : Addr} {k : Str} {ts : List (CK × Int)} (d : KnowD H a k ts) (s : ∀ o, H a = some o → H' a = some o) : KnowD H' a k ts := by
  rcases d with ⟨t, kvs, e, r⟩ | ⟨t, kvs, e, r⟩
  · exact .inl ⟨t, kvs, s _ e, r⟩
  · exact .inr ⟨t, kvs, s _ e, r⟩
theorem getD_int (o : Option Int) : (o.map V.int).getD (.int 0) = .int (o.getD 0) := by cases o <;> rfl
/-- a dict comprehension over a tuple, by what holds between its turns -/
theorem dc_tup {K : PySem.W.Frag} {a : Addr} {xs : List V} {nd : Addr → HO} {put : Hp → Addr → V → V → Hp → Prop} {g : TG} {tt : TT} {tk tv : TE} {vs : List Nat} {σ : L2.St} {H1 : Hp} {D : Addr} {Qd : Hp → Prop} (Pv : Nat → Hp → Prop) (h0 : Pv 0 (upd H1 D (nd D))) (hl : ∀ i H, i ≤ xs.length → Pv i H → SqT K H a xs)
    (hs : ∀ i x H, xs[i]? = some x → Pv i H → DTurn put D g tt tk tv vs σ (Pv (i + 1)) x H) (hd : ∀ H, Pv xs.length H → Qd H) :
    ∃ W : Nat → Nat → Hp → Prop, (∃ m, W 0 m (upd H1 D (nd D))) ∧ ∀ i m H, W i m H → ((Itt K a).stop i H ∧ Qd H) ∨ ((Itt K a).go i H ∧ ∃ Nx : Hp → Prop, (∀ H', Nx H' → ∃ m', m' < m ∧ W (i + 1) m' H') ∧ ∀ x H', (Itt K a).yld i H x H' → DTurn put D g tt tk tv vs σ Nx x H') := by
  refine ⟨fun i m H => m = xs.length - i ∧ i ≤ xs.length ∧ Pv i H, ⟨xs.length, by omega, Nat.zero_le _, h0⟩, ?_⟩
  rintro i m H ⟨rfl, hi, p⟩
  have q := hl i H hi p
  by_cases lt : i < xs.length
  · refine .inr ⟨⟨xs, xs[i], q, List.getElem?_eq_getElem lt⟩, Pv (i + 1), fun H' p' => ⟨xs.length - (i + 1), by omega, rfl, lt, p'⟩, fun x H' y => ?_⟩
    obtain ⟨rfl, hx⟩ := y
    exact hs i x _ (hx xs q) p
  · obtain rfl : i = xs.length := by omega
    exact .inl ⟨⟨xs, q, Nat.le_refl _⟩, hd H p⟩
abbrev nTabE : List Str := ["trace", "scheme", "table", "known", "cells", "cell", "outcome", "pair"]
section
variable {P : Program} {w : World} {K : PySem.W.Frag} {mg : Str → Option Value} {base : Heap}
def spTabE (K : PySem.W.Frag) : Sp := fun vs H Q _ => ∃ (t c p : Addr) (l : List (Int × Int)) (k : Str) (z : Int) (x : Option Int) (es : List V) (ts : List (CK × Int)), vs = [.ref t, .ref c, .ref p] ∧ PairsAt K H t l ∧ Fair l ∧ 1 ≤ l.length ∧ l.length ≤ 62 ∧ SqT K H c (planV k z x) ∧ PlanOk k z x ∧
  SqT K H p es ∧ TabAt H es ts ∧ (∀ e ∈ ts, Kin k e.1) ∧ ts.length ≤ 64 ∧ ∀ H', Same H H' → Q (.int ((wrongT l k x z.toNat ts l.length).length : Int)) H'
end
end Pf
namespace Pf
open PySem PySem.Spec PyProof.Rows L2 Gk Fold RZ
/-! ### forced: pairs of positions of one cell with unlike outcomes -/
def PairOk (l : List (Int × Int)) (k : Str) (x : Option Int) (L : Nat) (i j : Int) : Prop := ∃ a b : Nat, i = (a : Int) ∧ j = (b : Int) ∧ a < l.length ∧ b < l.length ∧ sK l k x L a = sK l k x L b ∧ outAt l a ≠ outAt l b
section
variable {P : Program} {w : World} {K : PySem.W.Frag} {mg : Str → Option Value} {base : Heap}
def spForcedP (K : PySem.W.Frag) : Sp := fun vs H Q _ => ∃ (t c : Addr) (l : List (Int × Int)) (k : Str) (z : Int) (x : Option Int), vs = [.ref t, .ref c] ∧ PairsAt K H t l ∧ Fair l ∧ 1 ≤ l.length ∧ l.length ≤ 62 ∧ SqT K H c (planV k z x) ∧ PlanOk k z x ∧
  ∀ H' p ys (cs : List CK), Same H H' → SqT K H' p ys → cs.Pairwise ckLt → (∀ c, c ∈ cs ↔ c ∈ sKs l k x z.toNat) → ys.length = sumC (pairsC l k x z.toNat) cs → (∀ a ∈ ys, ∃ T i j, a = V.ref T ∧ H' T = some (.tup [.int i, .int j]) ∧ PairOk l k x z.toNat i j) → Q (.ref p) H'
theorem ok_forcedP {f : Addr} {fd : FuncData} (DG : Dfn P w K mg base 6 "groups" ["trace", "scheme"] (spGroups K)) (DPa : Dfn P w K mg base 1 "_parted" ["trace", "positions"] (spParted K)) (mz : mg "zip" = none) (mn : mg "min" = none) (mx : mg "max" = none) (ms : mg "sorted" = none) (mt : mg "tuple" = none)
    (F : L2.Fun K "forced" "forced" sForced f fd) : FnOk P w K mg base L2.CX0 7 f fd ["trace", "scheme"] (spForcedP K) := by
  refine F.ok scForced (fun vs H Q E h => ?_) (fun cdv A outer s H vs Q E hr h => ?_)
  · obtain ⟨t, c, l, k, z, x, rfl, _⟩ := h
    rfl
  · obtain ⟨t, c, l, k, z, x, rfl, hl, fair, l1, l62, hc, ok, q⟩ := h
    refine ⟨_, pss_cons (ps_set (i := 2) scForced.nd rfl (.inl rfl) (pe_lst pa_nil))
      (pss_cons (ps_for PassesOwn.never rfl (pi_tup (pe_d DG hr (by decide) (by rfl) (pa_cons (pv 0) (pa_cons (pv 1) pa_nil)))) (pg_tup (by rfl) (pgs_cons (pg_name (i := 3) scForced.nd rfl (.inl rfl)) (pgs_cons (pg_name (i := 4) scForced.nd rfl (.inl rfl)) pgs_nil)))
        (pss_cons (ps_asg (pe_d DPa hr (by decide) (by rfl) (pa_cons (pv 0) (pa_cons (pv 4) pa_nil))) (pg_tup (n := 2) (by rfl) (pgs_cons (pg_name (i := 5) scForced.nd rfl (.inl rfl)) (pgs_cons (pg_name (i := 6) scForced.nd rfl (.inl rfl)) pgs_nil))))
        (pss_one (ps_for PassesOwn.never rfl (pi_zipA rfl mz (pa_cons (pv 5) (pa_cons (pv 6) pa_nil))) (pg_tup (by rfl) (pgs_cons (pg_name (i := 7) scForced.nd rfl (.inl rfl)) (pgs_cons (pg_name (i := 8) scForced.nd rfl (.inl rfl)) pgs_nil)))
          (pss_one (ps_expr (pe_bm PySem.F.plainAttrs_list PySem.F.slot_list_append PySem.F.type_list_append mt_append (pv 2) (pa_cons (pe_tup (pa_cons (pe_callB (call_min2 rfl) (by rfl) mn (by decide +kernel) (pa_cons (pv 7) (pa_cons (pv 8) pa_nil)))
            (pa_cons (pe_callB (call_max2 rfl) (by rfl) mx (by decide +kernel) (pa_cons (pv 7) (pa_cons (pv 8) pa_nil))) pa_nil))) pa_nil))))))))
      (pss_one (ps_ret (pe_callTy call_tuple_of (by rfl) mt (by decide +kernel) (pa_cons (pe_callB cr_sortedP (by rfl) ms (by decide +kernel) (pa_cons (pv 2) pa_nil)) pa_nil))))), ?_⟩
    refine ⟨Nat.zero_le _, fun D nD => go_name ?_⟩
    have s1 : Same H (upd H D (.lst [])) := same_new nD
    have hD1 : (upd H D (.lst [])) D = some (.lst []) := upd_same
    generalize upd H D (.lst []) = H1 at s1 hD1
    refine ⟨.ref t, rfl, .ref c, rfl, t, c, l, k, z, x, rfl, hl.keep (Same.keep s1), fair, l1, l62, Same.seqT s1 hc, ok, fun H2 p es cs s12 hp esl el nd only all ents => ⟨p, rfl, ⟨_, hp⟩, ?_⟩⟩
    generalize hL : z.toNat = L at only all ents q
    have hD2 := s12 _ _ hD1
    have pc62 : ∀ c, pairsC l k x L c ≤ 62 := fun c => by
      have := partL_len l 0 (posL l k x L c l.length)
      have := posL_len l k x L c l.length
      unfold pairsC
      omega
    have hl2 := hl.keep (Same.keep (s1.trans s12))
    refine for_tup (K := K) (xs := es) (fun i σ H' => (∃ y3 y4 y5 y6 y7 y8, σ = [some (.ref t), some (.ref c), some (.ref D), y3, y4, y5, y6, y7, y8]) ∧ (∀ b o, b ≠ D → H2 b = some o → H' b = some o) ∧ Keep K H2 H' ∧ ∃ as, H' D = some (.lst as) ∧ as.length = sumC (pairsC l k x L) (cs.take i) ∧ ∀ a ∈ as, ∃ T i j, a = V.ref T ∧ H' T = some (.tup [.int i, .int j]) ∧ PairOk l k x L i j)
      ⟨⟨_, _, _, _, _, _, rfl⟩, fun b o _ h => h, Same.keep (Same.refl _), [], hD2, rfl, fun a h => (nomatch h)⟩ (fun i σ H' _ hp' => hp'.2.2.1 _ _ hp) (fun i v σ H3 hv hp' => ?_) (fun σ H3 hp' => ?_)
    · obtain ⟨⟨y3, y4, y5, y6, y7, y8, rfl⟩, old, k23, as, hD, asl, tups⟩ := hp'
      have hi : i < es.length := (List.getElem?_eq_some_iff.mp hv).1
      have hic : i < cs.length := by omega
      have hci : cs[i]? = some cs[i] := List.getElem?_eq_getElem hic
      obtain ⟨a, v1, b, rfl, h1, h2, h3⟩ := ents i v cs[i] hv hci
      have aD : a ≠ D := fun z => by rw [z, hD2] at h1; cases h1
      have b3 := k23 _ _ h3
      refine ⟨a, _, rfl, .inl (.inl (old _ _ aD h1)), rfl, _, _, rfl, _, _, rfl, rfl, ?_⟩
      refine ⟨.ref t, rfl, .ref b, rfl, t, b, l, posL l k x L cs[i] l.length, rfl, hl2.keep k23, b3, by have := posL_len l k x L cs[i] l.length; omega, fun n hn => (posL_mem.mp hn).1, fun H4 T Z O s34 nZ nO hT hZ hO => ⟨T, _, rfl, .inl (.inl hT), rfl, _, _, rfl, _, _, rfl, rfl, ?_⟩⟩
      have hD4 := s34 _ _ hD
      have ZD : Z ≠ D := (ne_of_none hD nZ).symm
      have OD : O ≠ D := (ne_of_none hD nO).symm
      have few := sumC_bound (b := 62) pc62 (cs.take i)
      have few2 : (cs.take i).length ≤ 62 := by rw [List.length_take]; omega
      have few3 : 62 * (cs.take i).length ≤ 62 * 62 := Nat.mul_le_mul_left _ few2
      have pcb := pc62 cs[i]
      refine ⟨.ref Z, rfl, .ref O, rfl, Z, O, _, _, rfl, .inl ⟨SqL.of hZ, SqL.of hO, ?_⟩⟩
      refine for_it (walk_zipL rfl) (fun j σ H' => (∃ y7 y8, σ = [some (.ref t), some (.ref c), some (.ref D), some v1, some (.ref b), some (.ref Z), some (.ref O), y7, y8]) ∧ (∀ b o, b ≠ D → H4 b = some o → H' b = some o) ∧ Keep K H4 H' ∧ ∃ bs, H' D = some (.lst bs) ∧ bs.length = as.length + j ∧ ∀ a ∈ bs, ∃ T i j, a = V.ref T ∧ H' T = some (.tup [.int i, .int j]) ∧ PairOk l k x L i j)
        ⟨⟨_, _, rfl⟩, fun b o _ h => h, Same.keep (Same.refl _), as, hD4, rfl, fun a ha => ?_⟩ (fun j σ H' _ hp' => ⟨SqL.of (hp'.2.1 _ _ ZD hZ), SqL.of (hp'.2.1 _ _ OD hO)⟩) (fun j v σ H5 H6 hj hp' hy => ?_) (fun σ H5 hp' => ?_)
      · obtain ⟨T', i', j', e1, e2, e3⟩ := tups a ha
        exact ⟨T', i', j', e1, s34 _ _ e2, e3⟩
      · obtain ⟨⟨y7, y8, rfl⟩, old5, k45, bs, hD5, bsl, tups5⟩ := hp'
        obtain ⟨T2, xv, yv, rfl, nT2, hx, hy, rfl⟩ := hy
        obtain ⟨n1, hn1, rfl⟩ := natV_at hx
        obtain ⟨n2, hn2, rfl⟩ := natV_at hy
        have q1 := partL_mem.mp (List.mem_of_getElem? hn1)
        have q2 := partL_mem.mp (List.mem_of_getElem? hn2)
        have r1 := posL_mem.mp q1.1
        have r2 := posL_mem.mp q2.1
        have s56 : Same H5 (upd H5 T2 (.tup [.int (n1 : Int), .int (n2 : Int)])) := same_new nT2
        have hT2 : SqT K (upd H5 T2 (.tup [.int (n1 : Int), .int (n2 : Int)])) T2 [.int (n1 : Int), .int (n2 : Int)] := .inl (.inl upd_same)
        generalize upd H5 T2 (.tup [.int (n1 : Int), .int (n2 : Int)]) = H6 at s56 hT2
        have hD6 := s56 _ _ hD5
        refine ⟨T2, _, rfl, hT2, rfl, _, _, rfl, _, _, rfl, rfl, ?_⟩
        refine ⟨.ref D, rfl, .inl ⟨rfl, _, SqL.of hD6⟩, .int n1, rfl, .int n2, rfl, _, _, rfl, .int n1, rfl, .int n2, rfl, _, _, rfl, by show 2 ≤ sizeLine; decide, fun T3 nT3 => ?_⟩
        have lz : (natV (partL l 0 (posL l k x L cs[i] l.length))).length ≤ 62 := by
          have := partL_len l 0 (posL l k x L cs[i] l.length)
          have := posL_len l k x L cs[i] l.length
          rw [List.length_map]
          omega
        refine ⟨D, bs, .ref T3, rfl, rfl, same_new nT3 _ _ hD6, by rw [sizeLine_eq]; omega, ?_⟩
        generalize hmn : (if ((n2 : Nat) : Int) < ((n1 : Nat) : Int) then ((n2 : Nat) : Int) else ((n1 : Nat) : Int)) = mn'
        generalize hmx : (if ((n2 : Nat) : Int) > ((n1 : Nat) : Int) then ((n2 : Nat) : Int) else ((n1 : Nat) : Int)) = mx'
        have pok : PairOk l k x L mn' mx' := by
          have ne : outAt l n1 ≠ outAt l n2 := by rw [q1.2, q2.2]; decide
          rcases Nat.lt_or_ge n2 n1 with g | g
          · refine ⟨n2, n1, ?_, ?_, r2.1, r1.1, r2.2.trans r1.2.symm, ne.symm⟩
            · rw [← hmn, if_pos (by omega)]
            · rw [← hmx, if_neg (by omega)]
          · rcases Nat.eq_or_lt_of_le g with g | g
            · exact absurd (congrArg (outAt l) g) ne
            · refine ⟨n1, n2, ?_, ?_, r1.1, r2.1, r1.2.trans r2.2.symm, ne⟩
              · rw [← hmn, if_neg (by omega)]
              · rw [← hmx, if_pos (by omega)]
        have s67 : Same H6 (upd H6 T3 (.tup [.int mn', .int mx'])) := same_new nT3
        have hT3 : (upd H6 T3 (.tup [.int mn', .int mx'])) T3 = some (.tup [.int mn', .int mx']) := upd_same
        generalize upd H6 T3 (.tup [.int mn', .int mx']) = H7 at s67 hT3
        have hD7 := s67 _ _ hD6
        have s57 := s56.trans s67
        refine ⟨⟨_, _, rfl⟩, fun b o nb e => by rw [upd_ne nb]; exact s57 _ _ (old5 b o nb e), (k45.trans (Same.keep s57)).trans (keep_wr hD7), _, upd_same, by rw [List.length_append, bsl]; rfl, fun a ha => ?_⟩
        rcases List.mem_append.mp ha with ha | ha
        · obtain ⟨T', i', j', e1, e2, e3⟩ := tups5 a ha
          exact ⟨T', i', j', e1, tup_keep hD7 _ _ (s57 _ _ e2), e3⟩
        · exact ⟨T3, _, _, List.mem_singleton.mp ha, tup_keep hD7 _ _ hT3, pok⟩
      · obtain ⟨⟨y7, y8, rfl⟩, old5, k45, bs, hD5, bsl, tups5⟩ := hp'
        refine ⟨⟨_, _, _, _, _, _, rfl⟩, fun b o nb e => old5 b o nb (s34 _ _ (old b o nb e)), (k23.trans (Same.keep s34)).trans k45, bs, hD5, ?_, tups5⟩
        rw [bsl, asl, sumC_take hci, List.length_map, List.length_map]
        rfl
    · obtain ⟨⟨y3, y4, y5, y6, y7, y8, rfl⟩, old, k23, as, hD, asl, tups⟩ := hp'
      rw [esl, List.take_length] at asl
      refine ⟨.ref D, rfl, D, as, rfl, SqL.of hD, fun a ha => (by obtain ⟨T, i, j, e1, e2, _⟩ := tups a ha; exact ⟨T, i, j, e1, e2⟩), fun ys p' pm np => ⟨p', ys, rfl, .inl ⟨SqL.of upd_same, fun r nr => ?_⟩⟩⟩
      have keepE : ∀ b o, H3 b = some o → (upd (upd H3 p' (.lst ys)) r (.tup ys)) b = some o := fun b o e => by rw [upd_ne (ne_of_none (by rw [upd_ne (ne_of_none e np)]; exact e) nr), upd_ne (ne_of_none e np)]; exact e
      refine q _ r ys cs ?_ (.inl (.inl upd_same)) nd (fun c => ⟨fun h => sKs_mem.mpr (only c h), fun h => (by obtain ⟨j, hj, rfl⟩ := sKs_mem.mp h; exact all j hj)⟩) (by rw [pm.length_eq, asl]) (fun a ha => (by obtain ⟨T, i, j, e1, e2, e3⟩ := tups a (pm.mem_iff.mp ha); exact ⟨T, i, j, e1, keepE _ _ e2, e3⟩))
      intro b o e
      rw [upd_ne (ne_of_none (by rw [upd_ne (ne_of_none (old b o (fun z => by rw [z, nD] at e; cases e) (s12 _ _ (s1 _ _ e))) np)]; exact old b o (fun z => by rw [z, nD] at e; cases e) (s12 _ _ (s1 _ _ e))) nr), upd_ne (ne_of_none (old b o (fun z => by rw [z, nD] at e; cases e) (s12 _ _ (s1 _ _ e))) np)]
      exact old b o (fun z => by rw [z, nD] at e; cases e) (s12 _ _ (s1 _ _ e))
end
end Pf
namespace Pf
open PySem PySem.Spec PyProof.Rows L2 Gk Fold RZ
/-! ### the best table -/
abbrev nBestO : List Str := ["trace", "positions", "zeros", "ones"]
abbrev nBest : List Str := ["trace", "scheme", "cell", "positions"]
def moreOf (l : List (Int × Int)) (ns : List Nat) : Int := if (partL l 0 ns).length < (partL l 1 ns).length then 1 else 0
def bestO (l : List (Int × Int)) (k : Str) (x : Option Int) (L : Nat) (c : CK) : Int := moreOf l (posL l k x L c l.length)
def bestTs (l : List (Int × Int)) (k : Str) (x : Option Int) (L : Nat) (cs : List CK) : List (CK × Int) := cs.map fun c => (c, bestO l k x L c)
section
variable {P : Program} {w : World} {K : PySem.W.Frag} {mg : Str → Option Value} {base : Heap}
def spBestO (K : PySem.W.Frag) : Sp := fun vs H Q _ => ∃ (t p : Addr) (l : List (Int × Int)) (ns : List Nat), vs = [.ref t, .ref p] ∧ PairsAt K H t l ∧ SqT K H p (natV ns) ∧ ns.length ≤ 64 ∧ (∀ n ∈ ns, n < l.length) ∧ ∀ H', Same H H' → Q (.int (moreOf l ns)) H'
def spBest (K : PySem.W.Frag) : Sp := fun vs H Q _ => ∃ (t c : Addr) (l : List (Int × Int)) (k : Str) (z : Int) (x : Option Int), vs = [.ref t, .ref c] ∧ PairsAt K H t l ∧ Fair l ∧ 1 ≤ l.length ∧ l.length ≤ 62 ∧ SqT K H c (planV k z x) ∧ PlanOk k z x ∧
  ∀ H' p es (cs : List CK), Same H H' → H' p = some (.tup es) → cs.Pairwise ckLt → (∀ c, c ∈ cs ↔ c ∈ sKs l k x z.toNat) → TabAt H' es (bestTs l k x z.toNat cs) → Q (.ref p) H'
end
end Pf
namespace Pf
open PySem PySem.Spec PyProof.Rows L2 Gk Fold
theorem sgn_is1 (d : Bool) : decide (V.str ⟨#[sgn d]⟩ = V.str ("1" : Str)) = d := by cases d <;> decide +kernel
abbrev sLFold : Stmt := topS 33
abbrev sLCell : Stmt := topS 34
abbrev sLPast : Stmt := topS 35
abbrev nLFold : List Str := ["_law_past_here", "_law_width", "_law_home", "_law_found", "_law_number", "_law_sign"]
abbrev nLPast : List Str := ["_law_loop_here", "_law_plan", "_law_time", "_law_found", "_law_here", "_law_home", "_law_deed"]
theorem scLFold : FnScope nLFold ["_law_past_here", "_law_width", "_law_home"] (defScope sLFold) := ⟨rfl, rfl, rfl, by decide +kernel, rfl, by decide +kernel, by decide +kernel⟩
theorem scLCell : FnScope ["_law_plan", "_law_home", "_law_past_here"] ["_law_plan", "_law_home", "_law_past_here"] (defScope sLCell) := ⟨rfl, rfl, rfl, by decide +kernel, rfl, by decide +kernel, by decide +kernel⟩
theorem scLPast : FnScope nLPast ["_law_loop_here", "_law_plan", "_law_time"] (defScope sLPast) := ⟨rfl, rfl, rfl, by decide +kernel, rfl, by decide +kernel, by decide +kernel⟩
section
variable {P : Program} {w : World} {K : PySem.W.Frag} {mg : Str → Option Value} {base : Heap}
def spLFold : Sp := fun vs H Q _ => ∃ (l : List Bool) (n b : Nat), vs = [.str (txt l), .int (n : Int), .int (b : Int)] ∧ l.length ≤ 64 ∧ n ≤ 16 ∧ b < 8 ∧ Q (.int ((fol l n b : Nat) : Int)) H
theorem ok_lfold {f : Addr} {fd : FuncData} {k : Nat} (mi : mg "int" = none) (F : L2.Fun K "_law_folded" "_law_folded" sLFold f fd) : FnOk P w K mg base L2.CX0 (k + 1) f fd ["_law_past_here", "_law_width", "_law_home"] spLFold := by
  refine F.ok scLFold (fun vs H Q E h => ?_) (fun cdv A outer s H vs Q E hr h => ?_)
  · obtain ⟨l, n, b, rfl, _⟩ := h
    rfl
  · obtain ⟨l, n, b, rfl, hl, hn, hb, q⟩ := h
    refine ⟨_, pss_cons (ps_par (i := 3) (j := 4) (by rfl) scLFold.nd rfl rfl (by decide) rfl rfl (pa_cons (pv 2) (pa_cons pe_int pa_nil)) (by rfl))
      (C8.pss_cut (ps_for PassesOwn.never rfl (pi_str (pv 0)) (pg_name (i := 5) scLFold.nd rfl (.inl rfl))
        (pss_one (ps_set (i := 4) scLFold.nd rfl (.inl rfl) (pe_mid (pe_op op_add (pe_op op_mul pe_int (pv 4)) (pe_callTy call_int1 (by rfl) mi (by decide +kernel) (pa_cons (pe_cmpR op_eq (pv 5) pe_str (nomark _)) pa_nil)))))))
      (pss_cons (ps_while PassesOwn.never (pt_mid (PW.pt (pw_and (pt_cmpR op_gt (pv 4) pe_int (nomark _)) (pw_and1 (pt_cmpR op_gt (pv 1) pe_int (nomark _))))))
        (pss_cons (ps_set (i := 3) scLFold.nd rfl (.inl rfl) (pe_mid (pe_op op_xor (pv 3) (pe_op op_mod (pv 4) (pe_op op_oneShl pe_int (pv 1))))))
        (pss_one (ps_set (i := 4) scLFold.nd rfl (.inl rfl) (pe_mid (pe_op op_shrN (pv 4) (pv 1)))))))
      (pss_one (ps_ret (pe_mid (pe_op op_mod (pv 3) (pe_op op_oneShl pe_int (pv 1)))))))), ?_⟩
    have hp : (0 : Int) < 2 ^ n := Int.pow_pos (by decide)
    have hpn : (2 : Int) ^ n = ((2 ^ n : Nat) : Int) := by
      rw [Int.natCast_pow]
      rfl
    have hs : (2 : Int) ^ n ≤ 65536 := by
      have h2 := Nat.pow_le_pow_right (show 0 < 2 by decide) hn
      omega
    refine ⟨.int b, rfl, _, _, rfl, ?_⟩
    refine ⟨fun σ H' => H' = H ∧ ∃ y, σ = [some (.str (txt l)), some (.int n), some (.int b), some (.int b), some (.int ((num l.reverse : Nat) : Int)), y], ?_, fun σ H' hM => ?_⟩
    · refine ⟨_, rfl, txt l, rfl, for_it walk_str (fun i σ H' => H' = H ∧ ∃ y, σ = [some (.str (txt l)), some (.int n), some (.int b), some (.int b), some (.int ((num (l.take i).reverse : Nat) : Int)), y]) ⟨rfl, none, rfl⟩ (fun _ _ _ _ _ => trivial) (fun i x σ H1 H2 hi hp hy => ?_) (fun σ H1 hp => ?_)⟩
      · obtain ⟨rfl, y, rfl⟩ := hp
        obtain ⟨rfl, c, hc, rfl⟩ := hy
        obtain ⟨d, hd, rfl⟩ := txt_at hc
        refine ⟨fun v G => G = H2 ∧ v = .int ((num (l.take (i + 1)).reverse : Nat) : Int), ⟨.int _, rfl, _, _, rfl, rfl, .inl ⟨by decide, by decide⟩, .str ⟨#[sgn d]⟩, rfl, rfl, .inr ⟨_, rfl, _, _, rfl, rfl, rfl, ?_⟩⟩, fun v G hv => ?_⟩
        · rw [List.take_add_one, hd]
          show V.int (2 * ((num (l.take i).reverse : Nat) : Int) + (if decide (V.str ⟨#[sgn d]⟩ = V.str ("1" : Str)) = true then (1 : Int) else 0)) = V.int ((num (l.take i ++ [d]).reverse : Nat) : Int)
          rw [sgn_is1, List.reverse_append]
          have e : num ([d].reverse ++ (l.take i).reverse) = d.toNat + 2 * num (l.take i).reverse := rfl
          rw [e]
          congr 1
          cases d
          · show 2 * ((num (l.take i).reverse : Nat) : Int) + 0 = ((0 + 2 * num (l.take i).reverse : Nat) : Int)
            omega
          · show 2 * ((num (l.take i).reverse : Nat) : Int) + 1 = ((1 + 2 * num (l.take i).reverse : Nat) : Int)
            omega
        · obtain ⟨rfl, rfl⟩ := hv
          exact ⟨rfl, _, rfl⟩
      · obtain ⟨rfl, y, rfl⟩ := hp
        rw [txt_size, List.take_length]
        exact ⟨rfl, y, rfl⟩
    · obtain ⟨rfl, y, rfl⟩ := hM
      refine while_by (fun σ G => G = H' ∧ ∃ (g x c : Nat), σ = [some (.str (txt l)), some (.int n), some (.int b), some (.int (c : Int)), some (.int (x : Int)), y] ∧ x < 2 ^ g ∧ (n ≠ 0 → c ^^^ pie n g x = b ^^^ zig n 0 l.reverse))
        (fun σ _ => match σ[4]? with
          | some (some (V.int x)) => x.toNat
          | _ => 0) ⟨rfl, 64, num l.reverse, b, rfl, ?_, fun n0 => ?_⟩ (fun σ G hpv => ?_) (fun σ G Q1 Q2 hq ⟨Mid, h1, h2⟩ => ⟨Mid, h1, fun u G2 mm => hq _ _ (h2 u G2 mm)⟩)
      · have := num_lt l.reverse
        rw [List.length_reverse] at this
        exact Nat.lt_of_lt_of_le this (Nat.pow_le_pow_right (by decide) hl)
      · rw [pie_zig n (by omega) 64 l.reverse (by rw [List.length_reverse]; exact hl)]
      · obtain ⟨rfl, g, x, c, rfl, hx, hc⟩ := hpv
        refine ⟨fun u G2 => G2 = G ∧ u = (decide (0 < x) && decide (0 < n)), ?_, fun u G2 hu => ?_⟩
        · refine ⟨.int x, rfl, _, _, rfl, rfl, _, rfl, ite2 (fun e => ?_) (fun e => ?_)⟩
          · have x0 : (0 : Int) < x := of_decide_eq_true e
            refine ⟨.int n, rfl, _, _, rfl, rfl, _, rfl, rfl, ?_⟩
            rw [decide_eq_true (show 0 < x by omega), Bool.true_and]
            show decide ((n : Int) > 0) = _
            exact decide_eq_decide.mpr (by omega)
          · have x0 : x = 0 := by
              have := mt decide_eq_true e
              omega
            subst x0
            exact ⟨rfl, rfl⟩
        · obtain ⟨rfl, rfl⟩ := hu
          by_cases on : (decide (0 < x) && decide (0 < n)) = true
          · rw [on]
            simp only [Bool.and_eq_true, decide_eq_true_eq] at on
            obtain ⟨x0, n0⟩ := on
            obtain ⟨g', rfl⟩ : ∃ g', g = g' + 1 := by
              cases g with
              | zero => simp at hx; omega
              | succ g' => exact ⟨g', rfl⟩
            have em : ((x : Int) % 2 ^ n) = ((x % 2 ^ n : Nat) : Int) := by
              rw [Int.natCast_emod, hpn]
            refine ⟨fun v G3 => G3 = G2 ∧ v = .int ((c ^^^ (x % 2 ^ n) : Nat) : Int), ⟨.int c, rfl, .int x, rfl, .int n, rfl, n, rfl, rfl, by omega, _, _, rfl, rfl, hp, _, _, rfl, rfl, rfl, ?_⟩, fun v G3 hv => ?_⟩
            · show V.int (Builtin.bitXor (c : Int) ((x : Int) % 2 ^ n)) = _
              rw [em, Bits.bitXor_pp (Int.natCast_nonneg _) (Int.natCast_nonneg _), Int.toNat_natCast, Int.toNat_natCast]
            obtain ⟨rfl, rfl⟩ := hv
            refine ⟨fun v G4 => G4 = G3 ∧ v = .int ((x / 2 ^ n : Nat) : Int), ⟨.int x, rfl, .int n, rfl, x, n, rfl, rfl, rfl, ?_⟩, fun v G4 hv => ?_⟩
            · show V.int ((x : Int) / 2 ^ n) = _
              rw [Int.natCast_ediv, hpn]
            obtain ⟨rfl, rfl⟩ := hv
            refine ⟨⟨rfl, g', x / 2 ^ n, c ^^^ (x % 2 ^ n), rfl, ?_, fun h0 => ?_⟩, ?_⟩
            · have h2 : 2 ≤ 2 ^ n := by
                have := Nat.pow_le_pow_right (show 0 < 2 by decide) n0
                simpa using this
              have : x / 2 ^ n ≤ x / 2 := Nat.div_le_div_left h2 (by decide)
              rw [Nat.pow_succ] at hx
              omega
            · rw [Nat.xor_assoc]
              exact hc h0
            · show ((x / 2 ^ n : Nat) : Int).toNat < (x : Int).toNat
              rw [Int.toNat_natCast, Int.toNat_natCast]
              exact Nat.div_lt_self x0 (by
                have := Nat.pow_le_pow_right (show 0 < 2 by decide) n0
                simp at this
                omega)
          · have on' : (decide (0 < x) && decide (0 < n)) = false := by simpa using on
            rw [on']
            refine ⟨fun v G3 => G3 = G2 ∧ v = .int ((fol l n b : Nat) : Int), ⟨.int c, rfl, .int n, rfl, n, rfl, rfl, by omega, _, _, rfl, rfl, hp, rfl, ?_⟩, fun v G3 hv => ?_⟩
            · have em : ((c : Int) % 2 ^ n) = ((c % 2 ^ n : Nat) : Int) := by
                rw [Int.natCast_emod, hpn]
              show V.int ((c : Int) % 2 ^ n) = _
              rw [em]
              congr 2
              unfold fol
              by_cases n0 : n = 0
              · subst n0
                rw [if_pos rfl]
                exact Nat.mod_one c
              · rw [if_neg n0]
                have x0 : x = 0 := by
                  simp only [Bool.and_eq_false_imp, decide_eq_true_eq, decide_eq_false_iff_not] at on'
                  by_cases h : 0 < x
                  · exact absurd (on' h) (by omega)
                  · omega
                subst x0
                have := hc n0
                rw [pie_zero, Nat.xor_zero] at this
                rw [this, Nat.xor_mod_two_pow, Nat.mod_eq_of_lt (zig_lt n (by omega) l.reverse 0)]
            · obtain ⟨rfl, rfl⟩ := hv
              exact q
theorem ok_lcell {f : Addr} {fd : FuncData} (DF : Dfn P w K mg base 1 "_law_folded" ["_law_past_here", "_law_width", "_law_home"] spLFold) (F : L2.Fun K "_law_cell" "_law_cell" sLCell f fd) : FnOk P w K mg base L2.CX0 2 f fd ["_law_plan", "_law_home", "_law_past_here"] (spCell K) := by
  refine F.ok scLCell (fun vs H Q E h => ?_) (fun cdv A outer s H vs Q E hr h => ?_)
  · obtain ⟨c, k, z, x, b, h, rfl, _⟩ := h
    rfl
  · obtain ⟨c, k, z, x, b, h, rfl, hc, ok, hb, hh, q⟩ := h
    refine ⟨_, pss_cons (ps_if (pt_cmpR op_eq (pe_ix ix_tup (pv 0) pe_int (fun _ _ => rfl)) pe_str (nomark _)) (pss_one (ps_ret (pe_d DF hr (by decide) (by rfl) (pa_cons (pv 2) (pa_cons (pe_ix ix_tup (pv 0) pe_int (fun _ _ => rfl)) (pa_cons (pv 1) pa_nil)))))) pss_nil)
      (pss_one (ps_ret (pe_ifExp (pt_cmpR op_eq (pe_ix ix_tup (pv 0) pe_int (fun _ _ => rfl)) pe_str (nomark _)) (pv 2) (pe_tup (pa_cons (pv 1) (pa_cons (pv 2) pa_nil)))))), ?_⟩
    refine ⟨.ref c, rfl, c, _, 0, .str k, rfl, rfl, hc, planV0 _ _ _, rfl, _, rfl, ite2 (fun e => ?_) (fun e => ?_)⟩
    · have e1 : V.str k = V.str "folded" := of_decide_eq_true e
      injection e1 with e1
      obtain ⟨_, _, ⟨_, t, rfl, t0, t1⟩ | ⟨h2, _⟩⟩ := ok
      · refine ⟨.str (txt h), rfl, .ref c, rfl, c, _, 2, .int t, rfl, rfl, hc, rfl, .int b, rfl, h, t.toNat, b, ?_, hh, by omega, hb, q H _ (Same.refl H) ?_⟩
        · rw [Int.toNat_of_nonneg t0]
          rfl
        · unfold cellD
          rw [if_pos e1]
          exact .int _
      · rw [e1] at h2
        exact absurd h2 (by decide +kernel)
    · have ne : k ≠ "folded" := fun z => e (decide_eq_true (by rw [z]))
      refine ⟨.ref c, rfl, c, _, 0, .str k, rfl, rfl, hc, planV0 _ _ _, rfl, _, rfl, ite2 (fun g => ?_) (fun g => ?_)⟩
      · have g1 : V.str k = V.str "shared" := of_decide_eq_true g
        injection g1 with g1
        refine ⟨.str (txt h), rfl, q H _ (Same.refl H) ?_⟩
        unfold cellD
        rw [if_neg ne, if_pos g1]
        exact .str _
      · have ng : k ≠ "shared" := fun z => g (decide_eq_true (by rw [z]))
        refine ⟨.int b, rfl, .str (txt h), rfl, by show 2 ≤ sizeLine; decide, fun p np => q _ _ (same_new np) ?_⟩
        unfold cellD
        rw [if_neg ne, if_neg ng]
        exact .tup (.inl (.inl upd_same)) (.cons (.int _) (.cons (.str _) .nil))
end
end Pf
namespace Pf
open PySem PySem.Spec PyProof.Rows L2 Gk Fold
/-! the law's own cell, its tuples told as keys of dicts -/
section
variable {P : Program} {w : World} {K : PySem.W.Frag} {mg : Str → Option Value} {base : Heap}
theorem ok_lcellC {f : Addr} {fd : FuncData} (DF : Dfn P w K mg base 1 "_law_folded" ["_law_past_here", "_law_width", "_law_home"] spLFold) (F : L2.Fun K "_law_cell" "_law_cell" sLCell f fd) : FnOk P w K mg base L2.CX0 2 f fd ["_law_plan", "_law_home", "_law_past_here"] (spCellC K) := by
  refine F.ok scLCell (fun vs H Q E h => ?_) (fun cdv A outer s H vs Q E hr h => ?_)
  · obtain ⟨c, k, z, x, b, h, rfl, _⟩ := h
    rfl
  · obtain ⟨c, k, z, x, b, h, rfl, hc, ok, hb, hh, q⟩ := h
    refine ⟨_, pss_cons (ps_if (pt_cmpR op_eq (pe_ix ix_tup (pv 0) pe_int (fun _ _ => rfl)) pe_str (nomark _)) (pss_one (ps_ret (pe_d DF hr (by decide) (by rfl) (pa_cons (pv 2) (pa_cons (pe_ix ix_tup (pv 0) pe_int (fun _ _ => rfl)) (pa_cons (pv 1) pa_nil)))))) pss_nil)
      (pss_one (ps_ret (pe_ifExp (pt_cmpR op_eq (pe_ix ix_tup (pv 0) pe_int (fun _ _ => rfl)) pe_str (nomark _)) (pv 2) (pe_tup (pa_cons (pv 1) (pa_cons (pv 2) pa_nil)))))), ?_⟩
    refine ⟨.ref c, rfl, c, _, 0, .str k, rfl, rfl, hc, planV0 _ _ _, rfl, _, rfl, ite2 (fun e => ?_) (fun e => ?_)⟩
    · have e1 : V.str k = V.str "folded" := of_decide_eq_true e
      injection e1 with e1
      obtain ⟨_, _, ⟨_, t, rfl, t0, t1⟩ | ⟨h2, _⟩⟩ := ok
      · refine ⟨.str (txt h), rfl, .ref c, rfl, c, _, 2, .int t, rfl, rfl, hc, rfl, .int b, rfl, h, t.toNat, b, ?_, hh, by omega, hb, q H _ (Same.refl H) ?_⟩
        · rw [Int.toNat_of_nonneg t0]
          rfl
        · unfold cellD
          rw [if_pos e1]
          exact Ck.int _
      · rw [e1] at h2
        exact absurd h2 (by decide +kernel)
    · have ne : k ≠ "folded" := fun z => e (decide_eq_true (by rw [z]))
      refine ⟨.ref c, rfl, c, _, 0, .str k, rfl, rfl, hc, planV0 _ _ _, rfl, _, rfl, ite2 (fun g => ?_) (fun g => ?_)⟩
      · have g1 : V.str k = V.str "shared" := of_decide_eq_true g
        injection g1 with g1
        refine ⟨.str (txt h), rfl, q H _ (Same.refl H) ?_⟩
        unfold cellD
        rw [if_neg ne, if_pos g1]
        exact Ck.str _
      · have ng : k ≠ "shared" := fun z => g (decide_eq_true (by rw [z]))
        refine ⟨.int b, rfl, .str (txt h), rfl, by show 2 ≤ sizeLine; decide, fun p np => q _ _ (same_new np) ?_⟩
        unfold cellD
        rw [if_neg ne, if_neg ng]
        exact Ck.tup upd_same
end
end Pf
namespace Pf
open PySem PySem.Spec PyProof.Rows L2 Gk Fold
section
variable {P : Program} {w : World} {K : PySem.W.Frag} {mg : Str → Option Value} {base : Heap}
theorem ok_lpast {f : Addr} {fd : FuncData} {kk : Nat} (ml : mg "len" = none) (ms : mg "str" = none) (F : L2.Fun K "_law_past" "_law_past" sLPast f fd) : FnOk P w K mg base L2.CX0 (kk + 1) f fd ["_law_loop_here", "_law_plan", "_law_time"] (spHist K) := by
  refine F.ok scLPast (fun vs H Q E h => ?_) (fun cdv A outer s H vs Q E hr h => ?_)
  · obtain ⟨t, c, l, k, z, x, m, rfl, _⟩ := h
    rfl
  · obtain ⟨t, c, l, k, z, x, m, rfl, hl, fair, l1, l64, hc, z0, z1, hm, q⟩ := h
    obtain ⟨xs, sq, hA, len⟩ := PairsAt.out hl
    refine ⟨_, pss_cons (ps_par (i := 3) (j := 4) (by rfl) scLPast.nd rfl rfl (by decide) rfl rfl (pa_cons pe_str (pa_cons (pe_op op_sub (pv 2) pe_int) pa_nil)) (by rfl))
      (pss_cons (ps_while PassesOwn.never (pt_mid (PW.pt (pw_and (pt_cmpR op_lt (pe_callB call_len_str (by rfl) ml PySem.boot_len (pa_cons (pv 3) pa_nil)) (pe_ix ix_tup (pv 1) pe_int (fun _ _ => rfl)) (nomark _)) (pw_and1 (pt_cmpR op_ge (pv 4) pe_int (nomark _))))))
        (pss_cons (ps_asg (pe_ix ix_tup (pv 0) (pe_mid (pe_op op_mod (pv 4) (pe_callB call_len_seq (by rfl) ml PySem.boot_len (pa_cons (pv 0) pa_nil)))) (fun _ _ => rfl)) (pg_tup (by rfl) (pgs_cons (pg_name (i := 5) scLPast.nd rfl (.inl rfl)) (pgs_cons (pg_name (i := 6) scLPast.nd rfl (.inl rfl)) pgs_nil))))
        (C8.pss_cut (ps_if (pt_mid (PW.pt (pw_or (pt_cmpR op_ne (pe_ix ix_tup (pv 1) pe_int (fun _ _ => rfl)) pe_str (nomark _)) (pw_or1 (pt_cmpR op_eq (pv 5) (pe_ix ix_tup (pe_ix ix_tup (pv 0) (pe_mid (pe_op op_mod (pv 2) (pe_callB call_len_seq (by rfl) ml PySem.boot_len (pa_cons (pv 0) pa_nil)))) (fun _ _ => rfl)) pe_int (fun _ _ => rfl)) (nomark _))))))
            (pss_one (ps_set (i := 3) scLPast.nd rfl (.inl rfl) (pe_op op_add_str (pe_callTy call_str_int (by rfl) ms (by decide +kernel) (pa_cons (pv 6) pa_nil)) (pv 3)))) pss_nil)
        (pss_one (ps_set (i := 4) scLPast.nd rfl (.inl rfl) (pe_op op_sub (pv 4) pe_int))))))
      (pss_one (ps_ret (pe_op op_add_str (pe_mid (pe_op op_mulS pe_str (pe_mid (pe_op op_sub (pe_ix ix_tup (pv 1) pe_int (fun _ _ => rfl)) (pe_callB call_len_str (by rfl) ml PySem.boot_len (pa_cons (pv 3) pa_nil)))))) (pv 3))))), ?_⟩
    have lpos : (0 : Int) < (xs.length : Nat) := by omega
    replace q : ∀ H', Same H H' → Q (.str (txt (past (hB l k (brAt l m)) (cj l k (brAt l m) m) z.toNat))) H' := q
    have bl := hOs_ok fair l1 l64 k m
    have hbl : 1 ≤ (hB l k (brAt l m)).length := by
      have : hB l k (brAt l m) = bo (hOs l k m) := rfl
      rw [this, bo_len]
      exact bl.2.1
    have pickAt : ∀ j : Nat, ∃ a, atI xs ((j % l.length : Nat) : Int) = some (.ref a) ∧ SqT K H a [.int (brAt l j), .int (l.getD (j % l.length) (0, 0)).2] ∧ ((l.getD (j % l.length) (0, 0)).2 = 0 ∨ (l.getD (j % l.length) (0, 0)).2 = 1) := fun j => by
      have hj : j % l.length < l.length := Nat.mod_lt _ (by omega)
      have gx : xs[j % l.length]? = some (xs[j % l.length]'(by omega)) := List.getElem?_eq_getElem (by omega)
      obtain ⟨y, a, hy, ea, sa⟩ := pd_at hA gx
      have ey : y = l.getD (j % l.length) (0, 0) := Option.some.inj (hy.symm.trans (at_mod l1 j))
      refine ⟨a, by rw [atI_nat gx, ea], ?_, ?_⟩
      · rw [ey] at sa
        exact sa
      · rw [← ey]
        exact (fair y (List.mem_of_getElem? hy)).2
    generalize eb : brAt l m = b at *
    refine ⟨.int m, rfl, _, _, rfl, rfl, _, _, rfl, ?_⟩
    refine while_by (fun σ G => G = H ∧ ∃ (j n : Nat) (y5 y6 : Option V), σ = [some (.ref t), some (.ref c), some (.int m), some (.str (txt (run (hB l k b) (cj l k b j) n))), some (.int ((j : Int) - 1)), y5, y6] ∧ j ≤ m ∧ cj l k b j + n = cj l k b m ∧ n ≤ z.toNat)
      (fun σ _ => match σ[4]? with
        | some (some (V.int h)) => (h + 1).toNat
        | _ => 0) ⟨rfl, m, 0, none, none, rfl, Nat.le_refl _, rfl, Nat.zero_le _⟩ (fun σ G hpv => ?_) (fun σ G Q1 Q2 hq ⟨Mid, h1, h2⟩ => ⟨Mid, h1, fun u G2 mm => hq _ _ (h2 u G2 mm)⟩)
    obtain ⟨rfl, j, n, y5, y6, rfl, jm, cn, nz⟩ := hpv
    have tl : (txt (run (hB l k b) (cj l k b j) n)).length = n := by rw [txt_length, run_len]
    have zc : ((z.toNat : Nat) : Int) = z := Int.toNat_of_nonneg z0
    refine ⟨fun u G2 => G2 = G ∧ u = (decide (n < z.toNat) && decide (0 < j)), ?_, fun u G2 hu => ?_⟩
    · refine ⟨.str _, rfl, _, rfl, by rw [tl, sizeLine_eq]; omega, .ref c, rfl, c, _, 1, .int z, rfl, rfl, hc, planV1 _ _ _, _, _, rfl, rfl, _, rfl, ite2 (fun e => ?_) (fun e => ?_)⟩
      · have e1 : ((txt (run (hB l k b) (cj l k b j) n)).length : Int) < z := of_decide_eq_true e
        rw [tl] at e1
        refine ⟨.int ((j : Int) - 1), rfl, _, _, rfl, rfl, _, rfl, rfl, ?_⟩
        rw [decide_eq_true (show n < z.toNat by omega), Bool.true_and]
        show decide ((j : Int) - 1 ≥ 0) = _
        exact decide_eq_decide.mpr (by omega)
      · have e1 : ¬ ((txt (run (hB l k b) (cj l k b j) n)).length : Int) < z := fun h => e (decide_eq_true h)
        rw [tl] at e1
        refine ⟨rfl, ?_⟩
        rw [decide_eq_false (show ¬ n < z.toNat by omega), Bool.false_and]
    · obtain ⟨rfl, rfl⟩ := hu
      by_cases on : (decide (n < z.toNat) && decide (0 < j)) = true
      · rw [on]
        simp only [Bool.and_eq_true, decide_eq_true_eq] at on
        obtain ⟨n1, j0⟩ := on
        obtain ⟨i, rfl⟩ : ∃ i, j = i + 1 := ⟨j - 1, by omega⟩
        obtain ⟨a, ga, sa, sb⟩ := pickAt i
        refine ⟨.ref t, rfl, fun v G3 => G3 = G2 ∧ v = .int ((i % l.length : Nat) : Int), ⟨.int (((i + 1 : Nat) : Int) - 1), rfl, .ref t, rfl, t, _, rfl, .inr sq, _, _, rfl, rfl, lpos, rfl, ?_⟩, fun v G3 hv => ?_⟩
        · show V.int ((((i + 1 : Nat) : Int) - 1) % (xs.length : Nat)) = _
          rw [len, show ((i + 1 : Nat) : Int) - 1 = (i : Int) by omega]
          rfl
        obtain ⟨rfl, rfl⟩ := hv
        refine ⟨t, xs, _, .ref a, rfl, rfl, sq, ga, a, _, rfl, sa, rfl, _, _, rfl, _, _, rfl, rfl, ?_⟩
        have dec : Decidable (counts l k b i) := inferInstanceAs (Decidable (_ ∨ _))
        have st := cj_step l1 k b i
        obtain ⟨a2, ga2, sa2, _⟩ := pickAt m
        rw [eb] at sa2
        refine ⟨fun σ G4 => G4 = G3 ∧ ∃ n', σ = [some (.ref t), some (.ref c), some (.int m), some (.str (txt (run (hB l k b) (cj l k b i) n'))), some (.int (((i + 1 : Nat) : Int) - 1)), some (.int (brAt l i)), some (.int (l.getD (i % l.length) (0, 0)).2)] ∧ cj l k b i + n' = cj l k b m ∧ n' ≤ z.toNat, ?_, fun σ G4 hM => ?_⟩
        · refine ⟨fun u G4 => G4 = G3 ∧ u = decide (counts l k b i), ?_, fun u G4 hu => ?_⟩
          · refine ⟨.ref c, rfl, c, _, 0, .str k, rfl, rfl, hc, planV0 _ _ _, rfl, _, rfl, ite2 (fun e => ?_) (fun e => ?_)⟩
            · have ne : k ≠ "own" := fun z => by rw [z] at e; simp at e
              exact ⟨rfl, (decide_eq_true (show counts l k b i from .inl ne)).symm⟩
            · have own : k = "own" := by
                by_cases z : k = "own"
                · exact z
                · exact absurd (by simp [z]) e
              refine ⟨.int (brAt l i), rfl, .ref t, rfl, fun v G5 => G5 = G3 ∧ v = .int ((m % l.length : Nat) : Int), ⟨.int m, rfl, .ref t, rfl, t, _, rfl, .inr sq, _, _, rfl, rfl, lpos, rfl, ?_⟩, fun v G5 hv => ?_⟩
              · show V.int ((m : Int) % (xs.length : Nat)) = _
                rw [len]
                rfl
              obtain ⟨rfl, rfl⟩ := hv
              refine ⟨t, xs, _, .ref a2, rfl, rfl, sq, ga2, a2, _, 0, .int b, rfl, rfl, sa2, rfl, rfl, _, rfl, rfl, ?_⟩
              refine decide_eq_decide.mpr ⟨fun h => .inr (by injection h), fun h => ?_⟩
              rw [h.resolve_left fun z => z own]
          · obtain ⟨rfl, rfl⟩ := hu
            by_cases ct : counts l k b i
            · rw [decide_eq_true ct]
              rw [if_pos ct] at st
              have dg := cj_dig l1 ct
              have es : (Str.ofString (toString (l.getD (i % l.length) (0, 0)).2)) = txt [decide ((l.getD (i % l.length) (0, 0)).2 = 1)] := by
                rcases sb with e | e
                · rw [e]; exact str_bit false
                · rw [e]; exact str_bit true
              refine ⟨.int _, rfl, _, rfl, by rcases sb with e | e <;> rw [e] <;> decide, .str _, rfl, _, _, rfl, rfl, ?_, rfl, n + 1, ?_, by omega, by omega⟩
              · show (Str.ofString (toString (l.getD (i % l.length) (0, 0)).2)).length + _ ≤ sizeLine
                rw [es, tl, txt_length, sizeLine_eq]
                simp only [List.length_cons, List.length_nil]
                omega
              · rw [run_succ, dg, ← st]
                show [_, _, _, some (V.str (Str.ofString (toString (l.getD (i % l.length) (0, 0)).2) ++ txt (run (hB l k b) (cj l k b (i + 1)) n))), _, _, _] = _
                rw [es, txt_app]
                rfl
            · rw [decide_eq_false ct]
              rw [if_neg ct] at st
              refine ⟨rfl, n, ?_, by omega, nz⟩
              rw [st]
              rfl
        · obtain ⟨rfl, n', rfl, cn', nz'⟩ := hM
          refine ⟨.int _, rfl, _, _, rfl, rfl, ⟨rfl, i, n', some (.int (brAt l i)), some (.int (l.getD (i % l.length) (0, 0)).2), ?_, by omega, cn', nz'⟩, ?_⟩
          · show [_, _, _, _, some (V.int (((i + 1 : Nat) : Int) - 1 - 1)), _, _] = _
            rw [show ((i + 1 : Nat) : Int) - 1 - 1 = (i : Int) - 1 by omega]
          · show ((((i + 1 : Nat) : Int) - 1 - 1) + 1).toNat < ((((i + 1 : Nat) : Int) - 1) + 1).toNat
            omega
      · have on' : (decide (n < z.toNat) && decide (0 < j)) = false := by simpa using on
        rw [on']
        have stop : min (cj l k b m) z.toNat = n ∧ cj l k b j = cj l k b m - n := by
          simp only [Bool.and_eq_false_imp, decide_eq_true_eq, decide_eq_false_iff_not] at on'
          by_cases h : n < z.toNat
          · have j0 : j = 0 := by have := on' h; omega
            subst j0
            rw [cj_zero] at cn ⊢
            omega
          · omega
        have ez : ("0" : Str) = txt [false] := by decide +kernel
        refine ⟨fun v G3 => G3 = G2 ∧ v = .str (txt (List.replicate (z.toNat - n) false)), ⟨fun v G3 => G3 = G2 ∧ v = .int ((z.toNat - n : Nat) : Int), ⟨.ref c, rfl, c, _, 1, .int z, rfl, rfl, hc, planV1 _ _ _, .str _, rfl, _, rfl, by rw [tl, sizeLine_eq]; omega, _, _, rfl, rfl, rfl, ?_⟩, fun v G3 hv => ?_⟩, fun v G3 hv => ?_⟩
        · show V.int (z - ((txt (run (hB l k b) (cj l k b j) n)).length : Nat)) = _
          rw [tl]
          congr 1
          omega
        · obtain ⟨rfl, rfl⟩ := hv
          refine ⟨("0" : Str), _, rfl, rfl, ?_, rfl, ?_⟩
          · rw [ez]
            exact mulOk_txt (by decide) (by omega)
          · show V.str (Txt.mul ("0" : Str) ((z.toNat - n : Nat) : Int)) = _
            rw [ez, txt_mul]
            congr 2
            exact List.flatten_replicate_singleton
        · obtain ⟨rfl, rfl⟩ := hv
          have qq := q G3 (Same.refl G3)
          unfold past at qq
          rw [stop.1, ← stop.2, ← txt_app] at qq
          refine ⟨.str _, rfl, _, _, rfl, rfl, ?_, qq⟩
          rw [txt_length, tl, List.length_replicate, sizeLine_eq]
          omega
end
end Pf
namespace Pf
open PySem PySem.Spec PyProof.Rows L2 Gk Fold
/-! ### the steady cells by the law's own steps -/
abbrev sSteady : Stmt := topS 36
abbrev LPl : List Str := ["_law_loop_here", "_law_plan"]
abbrev nSteady : List Str := ["_law_loop_here", "_law_plan", "_law_late", "_law_at", "_law_home", "_law_deed"]
theorem scSteady : FnScope nSteady LPl (defScope sSteady) := ⟨rfl, rfl, rfl, by decide +kernel, rfl, by decide +kernel, by decide +kernel⟩
section
variable {P : Program} {w : World} {K : PySem.W.Frag} {mg : Str → Option Value} {base : Heap}
def spSteadyC (K : PySem.W.Frag) : Sp := fun vs H Q _ => ∃ (t c : Addr) (l : List (Int × Int)) (k : Str) (z : Int) (x : Option Int), vs = [.ref t, .ref c] ∧ PairsAt K H t l ∧ Fair l ∧ 1 ≤ l.length ∧ l.length ≤ 64 ∧ SqT K H c (planV k z x) ∧ PlanOk k z x ∧
  ∀ H' r as, Same H H' → H r = none → H' r = some (.lst as) → DpAll K H' as (cellsD l k z x l.length) → TupsHere H' as (cellsD l k z x l.length) → Q (.ref r) H'
theorem ok_steadyC {f : Addr} {fd : FuncData} (DA : Dfn P w K mg base 1 "_law_past" ["_law_loop_here", "_law_plan", "_law_time"] (spHist K)) (DC : Dfn P w K mg base 2 "_law_cell" ["_law_plan", "_law_home", "_law_past_here"] (spCellC K))
    (me : mg "enumerate" = none) (ml : mg "len" = none) (F : L2.Fun K "_law_steady" "_law_steady" sSteady f fd) : FnOk P w K mg base L2.CX0 3 f fd LPl (spSteadyC K) := by
  refine F.ok scSteady (fun vs H Q E h => ?_) (fun cdv A outer s H vs Q E hr h => ?_)
  · obtain ⟨t, c, l, k, z, x, rfl, _⟩ := h
    rfl
  · obtain ⟨t, c, l, k, z, x, rfl, hl, fair, l1, l64, hc, ok, q⟩ := h
    obtain ⟨xs, sq, hA, len⟩ := PairsAt.out hl
    obtain ⟨z0, z64, okr⟩ := id ok
    have z65 : z ≤ 65 := by omega
    have zn : ((z.toNat : Nat) : Int) = z := Int.toNat_of_nonneg z0
    refine ⟨_, pss_cons (ps_set (i := 2) scSteady.nd rfl (.inr rfl) (pe_mid (pe_op op_mul (pe_callB call_len_seq (by rfl) ml PySem.boot_len (pa_cons (pv 0) pa_nil)) (pe_op op_add (pe_ix ix_tup (pv 1) pe_int (fun _ _ => rfl)) pe_int))))
      (pss_one (ps_ret (pe_lc (own := [("_law_at", 3), ("_law_home", 4), ("_law_deed", 5)]) (g := gTup K 2 (gCons (gName 3) (gCons (gTup K 2 (gCons (gName 4) (gCons (gName 5) gNil))) gNil))) (by rfl) scSteady.nd (pi_enumU rfl me (pa_cons (pv 0) pa_nil)) (blkOk_by (N := nSteady) (sc := defScope sSteady) (by decide +kernel))
          (fun _ _ _ _ _ => pg_tup rfl (pgs_cons (pg_name (i := 3) scSteady.nd rfl (.inl rfl)) (pgs_cons (pg_tup rfl (pgs_cons (pg_name (i := 4) scSteady.nd rfl (.inl rfl)) (pgs_cons (pg_name (i := 5) scSteady.nd rfl (.inl rfl)) pgs_nil))) pgs_nil)))
          (fun _ _ _ _ _ => pts_nil) (fun _ _ _ _ _ => pe_d DC hr (by decide) (by rfl) (pa_cons (pv 1) (pa_cons (pv 4) (pa_cons (pe_d DA hr (by decide) (by rfl) (pa_cons (pv 0) (pa_cons (pv 1) (pa_cons (pe_mid (pe_op op_add (pv 2) (pv 3))) pa_nil)))) pa_nil))))))), ?_⟩
    refine ⟨fun v G2 => G2 = H ∧ v = .int (((z.toNat + 1) * l.length : Nat) : Int), ⟨.ref t, rfl, t, xs, rfl, .inr sq, .ref c, rfl, c, _, 1, .int z, rfl, rfl, hc, planV1 _ _ _, _, _, rfl, rfl, _, _, rfl, rfl, .inl ⟨by omega, by omega⟩, rfl, ?_⟩, fun v G2 hv => ?_⟩
    · show V.int (((xs.length : Nat) : Int) * (z + 1)) = _
      rw [len, Int.natCast_mul, Int.natCast_add, zn, Int.mul_comm]
      rfl
    obtain ⟨rfl, rfl⟩ := hv
    refine ⟨.ref t, rfl, t, _, rfl, sq, fun D nD => ?_⟩
    refine lc_it walk_ent (fun j H' => Same G2 H' ∧ ∃ as, H' D = some (.lst as) ∧ DpAll K H' as (cellsD l k z x j) ∧ TupsHere H' as (cellsD l k z x j)) ⟨same_new nD, [], upd_same, .nil, TupsHere.nil⟩ (fun j H' _ hp => Same.seqT hp.1 sq) (fun j u H2 H3 hi hp hy => ?_) (fun H2 hp => ?_)
    · obtain ⟨sm2, as, hD, hAs, hTs⟩ := hp
      obtain ⟨R, vx, rfl, nR, hx, rfl⟩ := hy
      obtain ⟨p, a, hp2, rfl, sa⟩ := pd_at hA hx
      have hj : j < l.length := (List.getElem?_eq_some_iff.mp hp2).1
      have s3 : Same G2 (upd H2 R (.tup [.int (j : Nat), .ref a])) := sm2.trans (same_new nR)
      have hD3 : (upd H2 R (.tup [.int (j : Nat), .ref a])) D = some (.lst as) := same_new nR _ _ hD
      have hA3 := DpAll.keepT (Same.keep (same_new (o := .tup [.int (j : Nat), .ref a]) nR)) (cells_tups _ _ _ _ _) hAs
      have hR3 : SqT K (upd H2 R (.tup [.int (j : Nat), .ref a])) R [.int (j : Nat), .ref a] := .inl (.inl upd_same)
      have hT3 : TupsHere (upd H2 R (.tup [.int (j : Nat), .ref a])) as (cellsD l k z x j) := hTs.same fun b ts h => same_new nR _ _ h
      generalize upd H2 R (.tup [.int (j : Nat), .ref a]) = H3 at s3 hD3 hA3 hR3 hT3
      have ep : p.1 = brAt l j := by
        unfold brAt
        rw [Nat.mod_eq_of_lt hj, List.getD_eq_getElem?_getD, hp2]
        rfl
      have bo : 0 ≤ brAt l j ∧ (brAt l j).toNat < 8 := by
        have := (fair p (List.mem_of_getElem? hp2)).1
        rw [ep] at this
        omega
      have le : (z.toNat + 1) * l.length + j ≤ 10 ^ 19 := by
        have := Nat.mul_le_mul (show z.toNat + 1 ≤ 66 by omega) l64
        omega
      refine ⟨R, _, rfl, hR3, rfl, _, _, rfl, _, _, rfl, a, _, rfl, Same.seqT s3 sa, rfl, _, _, rfl, _, _, rfl, rfl, rfl, rfl, .ref c, rfl, .int p.1, rfl, .ref t, rfl, .ref c, rfl, fun v G => G = H3 ∧ v = .int (((z.toNat + 1) * l.length + j : Nat) : Int), ⟨.int _, rfl, .int (j : Nat), rfl, _, _, rfl, rfl, rfl, ?_⟩, fun v G hv => ?_⟩
      · show V.int ((((z.toNat + 1) * l.length : Nat) : Int) + (j : Nat)) = _
        rw [← Int.natCast_add]
      obtain ⟨rfl, rfl⟩ := hv
      refine ⟨t, c, l, k, z, x, (z.toNat + 1) * l.length + j, rfl, hl.keep (Same.keep s3), fair, l1, l64, Same.seqT s3 hc, z0, z65, le, fun H4 s4 => ?_⟩
      have eh : hist l k ((z.toNat + 1) * l.length + j) z.toNat = hR l k z.toNat z.toNat j := hR_late fair l1 l64 k (Nat.le_succ _) j
      rw [eh]
      refine ⟨c, k, z, x, (brAt l j).toNat, hR l k z.toNat z.toNat j, ?_, Same.seqT (s3.trans s4) hc, ok, bo.2, ?_, fun H5 v s5 d5 => ⟨as, s5 _ _ (s4 _ _ hD3), ?_, ?_, as ++ [v], upd_same, ?_, ?_⟩⟩
      · rw [ep, Int.toNat_of_nonneg bo.1]
        rfl
      · rw [show (hR l k z.toNat z.toNat j).length = z.toNat from hist_len _ _ _ _]
        omega
      · have := DpAll.len hAs
        unfold cellsD at this
        rw [List.length_map, List.length_range] at this
        exact small1000 (by omega)
      · intro d u h
        rw [upd_ne (ne_of_none h nD)]
        exact s5 _ _ (s4 _ _ (s3 d u h))
      · have kk : Keep K H5 (upd H5 D (.lst (as ++ [v]))) := keep_lst (s5 _ _ (s4 _ _ hD3))
        have e : cellsD l k z x (j + 1) = cellsD l k z x j ++ [cellD k x (brAt l j).toNat (hR l k z.toNat z.toNat j)] := by
          unfold cellsD
          rw [List.range_succ, List.map_append]
          rfl
        rw [e]
        exact DpAll.app (DpAll.keepT (((Same.keep s4).trans (Same.keep s5)).trans kk) (cells_tups _ _ _ _ _) hA3) (.cons (Dp.keep kk _ _ (cell_tups _ _ _ _) d5.1) .nil)
      · have hD5 := s5 _ _ (s4 _ _ hD3)
        have e : cellsD l k z x (j + 1) = cellsD l k z x j ++ [cellD k x (brAt l j).toNat (hR l k z.toNat z.toNat j)] := by
          unfold cellsD
          rw [List.range_succ, List.map_append]
          rfl
        rw [e]
        exact TupsHere.snoc (hT3.same fun b ts h => tup_keep hD5 b ts (s5 _ _ (s4 _ _ h))) (DpAll.len hAs) (d5.2.same fun b ts h => tup_keep hD5 b ts h)
    · obtain ⟨sm2, as, hD, hAs, hTs⟩ := hp
      rw [len] at hAs hTs
      exact q H2 D as sm2 nD hD hAs hTs
end
end Pf
/-! if and for in the body of a generator def that is drained. -/
namespace Gk
open PySem PySem.Spec PyProof.Rows L2 GenW
section
variable {X : Cx}
def tGIf (c : TT) (t u : TGn) : TGn := fun D ys σ H => c σ H fun b H1 => if b = true then t D ys σ H1 else u D ys σ H1
theorem gs_if {test : Expr} {body orelse : List Stmt} {pos : Pos} {tc : TT} {tb te : TGn} (hc : PT X test tc) (hb : GSs X body tb) (he : GSs X orelse te) : GS X (.If test body orelse pos) (tGIf tc tb te) := by
  refine ⟨fun A S ip R n ys s₀ c fs K J gd lv s σ H D g hn k hI ht => ?_⟩
  rw [exec_If]
  show Seg _ _ _ _ _ s₀ c (.at pos fun _ => ((isTrue test X.env (eval test X.env)) >>= fun b => if b = true then execs body X.env else execs orelse X.env).wrap K J gd lv) fs s
  obtain ⟨acc, cc, r, I⟩ := hI
  refine seg_at (seg_bind_wrap ?_)
  rw [g.over]
  refine wpAny_mono (hc.run _ s σ H _ I ht) (fun b s' hb' => ?_) fun x s' hx => k.exc n s₀ x s' hx
  obtain ⟨H1, I1, q⟩ := hb'
  cases b with
  | true =>
    rw [if_pos rfl] at q
    rw [if_pos rfl]
    exact hb.run A S ip R n ys s₀ c fs K J gd lv s' σ H1 D g hn k ⟨acc, cc, r, I1⟩ q
  | false =>
    rw [if_neg Bool.false_ne_true] at q
    rw [if_neg Bool.false_ne_true]
    exact he.run A S ip R n ys s₀ c fs K J gd lv s' σ H1 D g hn k ⟨acc, cc, r, I1⟩ q
end

/-! ### for -/
section
variable {prog : Program} {w : World} {A : Around} {R : GenEnd} {Y : Protocol} {n : Nat} {s₀ : Shared} {fs : List Frame} {s : Shared} {env : Env}
theorem seg_forLoopX {target : Expr} {it : Value} {body : List Stmt} (J : Value → Sem PySem.Fin) (hJ : ∀ e, J e = (do noteFrame e env; theTreesLotGoes e : Sem Unit).bind fun _ => .raise e)
    (h : wpAny (model prog w) (A.over (.forLoop target it body [] env) fs) (pyNext it) (fun r s1 => match r with
      | none => Seg (model prog w) A R Y n s₀ (.forLoop target it body [] env) (.pure (.again (.block [] env))) fs s1
      | some v => wpAny (model prog w) (A.over (.forLoop target it body [] env) fs) (letOwnedTupleGo target it v) (fun _ s2 => wpAny (model prog w) (A.over (.forLoop target it body [] env) fs) (assign target env v) (fun _ s3 =>
          Seg (model prog w) A R Y n s₀ (.forLoop target it body [] env) ((execs body env).wrap (fun f => match f with
            | .next | .cont => .pure (.again (.forLoop target it body [] env))
            | .brk => .pure (.done .next)
            | .ret v => .pure (.done (.ret v))) J id id) fs s3) (fun x s3 => Seg (model prog w) A R Y n s₀ (.forLoop target it body [] env) (J x) fs s3) s2) (fun _ _ => False) s1) (fun _ _ => False) s) :
    Seg (model prog w) A R Y n s₀ (.forLoop target it body [] env) ((model prog w).den (.forLoop target it body [] env)) fs s := by
  show Seg _ A R Y n s₀ _ ((forTurn target it body [] env).onRaise (fun x => do noteFrame x env; theTreesLotGoes x)) fs s
  rw [Sem.onRaise_eq_wrap]
  unfold forTurn
  refine seg_bind_wrap (wpAny_standAt ?_)
  refine seg_bind_wrap (wpAny_onRaise (wpAny_mono h (fun r s1 h1 => ?_) fun _ _ z => z.elim))
  cases r with
  | none => exact h1
  | some v =>
    dsimp only at h1 ⊢
    refine seg_bind_wrap (wpAny_mono h1 (fun _ s2 h2 => ?_) fun _ _ z => z.elim)
    refine seg_bind_wrap (wpAny_mono h2 (fun _ s3 h3 => ?_) fun x s3 h3 => ?_)
    · rw [Sem.bind_eq_wrap', Sem.wrap_wrap]
      rw [Sem.wrap_congr (execs body env) _ _ (K' := fun f => match f with
              | .next | .cont => .pure (.again (.forLoop target it body [] env))
              | .brk => .pure (.done .next)
              | .ret v => .pure (.done (.ret v))) (H' := J) (fun f => by cases f <;> rfl) (fun e => by rw [hJ]; rfl)]
      exact h3
    · rw [hJ] at h3
      exact h3
end
section
variable {X : Cx}
/-- the generator's place with its loop's iterators pinned -/
theorem gc_pins {S : Addr} {ip pl : List (Addr × Obj)} {A : Around} {c : Code} {fs : List Frame} {gd : Bool → Bool} (g : GC X S ip A c fs gd) (h : ∀ p ∈ pl, p.1 ≠ S) : GC X S (ip ++ pl) A c fs gd where
  pn := g.pn
  ip := fun p hp => by
    rcases List.mem_append.mp hp with hp | hp
    · exact g.ip p hp
    · exact h p hp
  apart := g.apart
  over := g.over
  split := g.split
  guard := g.guard
  gd := g.gd
theorem pinsAt_ne {fp : List Addr} {h : Heap} {S : Addr} (hf : ∀ b ∈ fp, b ≠ S) : ∀ p ∈ pinsAt fp h, p.1 ≠ S := by
  intro p hp
  obtain ⟨b, hb, e⟩ := List.mem_filterMap.mp hp
  cases eo : h.get? b with
  | none => rw [eo] at e; cases e
  | some o => rw [eo] at e; cases e; exact hf b hb
def tGFor (wi : TI) (g : TG) (tb : TGn) : TGn := fun D ys σ H => wi σ H fun J H1 => ∃ W : Nat → Nat → List V → L2.St → Hp → Prop, (∃ m, W 0 m ys σ H1) ∧ ∀ i m ys σ H, W i m ys σ H →
  (J.stop i H ∧ D.nx ys σ H) ∨ (J.go i H ∧ ∃ N : List V → L2.St → Hp → Prop, (∀ ys' σ' H', N ys' σ' H' → ∃ m', m' < m ∧ W (i + 1) m' ys' σ' H') ∧ ∀ x H', J.yld i H x H' → g x σ H' fun σ2 H2 => tb { D with nx := N, ct := N, bk := D.nx } ys σ2 H2)
theorem gs_for {tg iter : Expr} {body : List Stmt} {wi : TI} {g : TG} {tb : TGn} {pos : Pos} (hc : X.calm = true) (hp : PassesOwn (model X.prog X.w) X.A X.env X.xe) (hi : PI X tg iter wi) (hg : PG X tg g) (hb : GSs X body tb)
    (hs : ∀ x, foldedSetIterable iter X.env x = pure x := by intro _; rfl) : GS X (.For tg iter body [] pos) (tGFor wi g tb) := by
  refine ⟨fun A S ip R n ys s₀ c fs K J gd lv s σ H D gc hn k hI ht => ?_⟩
  rw [exec_For]
  show Seg _ _ _ _ _ s₀ c (.at pos fun _ => (eval iter X.env >>= fun v => foldedSetIterable iter X.env v >>= fun x => standAt iter.pos >>= fun _ => holding [x] (pyIter x) >>= fun it => runOwn (.forLoop tg it body [] X.env) X.env).wrap K J gd lv) fs s
  obtain ⟨acc, cc, r, I⟩ := hI
  refine seg_at (seg_bind_wrap ?_)
  rw [gc.over]
  refine wpAny_mono (hi.run _ s σ H _ I ht) (fun v s1 h1 => ?_) fun x s' hx => k.exc n s₀ x s' hx
  refine seg_bind_wrap (wpAny_of_eq (hs v) ?_)
  refine seg_bind_wrap (wpAny_standAt ?_)
  refine seg_bind_wrap (wpAny_holding ?_)
  rw [gc.over]
  refine wpAny_mono h1 (fun itv s2 h2 => ?_) fun x s' hx => k.exc n s₀ x s' hx
  obtain ⟨it, fp, tn, Jt, H2, e, I2, T, st2, f2, W, ⟨m0, w0⟩, turn⟩ := h2
  subst e
  have fne : ∀ b ∈ fp, b ≠ S := fun b hb z => (f2 b hb).2.2.2.2.2 (S, lstObj acc cc) (List.mem_append_right _ List.mem_cons_self) z.symm
  have stat : ∀ {H' : Hp} {acc' : Array Value} {cc' : Nat}, (∀ b ∈ fp, H' b = none) → ∀ b ∈ fp, FpOk X ((S, lstObj acc' cc') :: ip) H' b := fun {H' acc' cc'} hn b hb => by
    obtain ⟨_, q2, q3, q4, q5, q6⟩ := f2 b hb
    refine ⟨hn b hb, q2, q3, q4, q5, fun p hp => ?_⟩
    rcases List.mem_append.mp hp with hp | hp
    · exact q6 p (List.mem_append_left _ hp)
    · rcases List.mem_cons.mp hp with hp | hp
      · rw [hp]; exact Ne.symm (fne b hb)
      · exact q6 p (List.mem_append_right _ (List.mem_cons_of_mem _ hp))
  show Seg _ _ _ _ _ s₀ c (.call (.forLoop tg (.ref it) body [] X.env) none (gd false) (lv []) fun r => ((match r with | .ok f => (.pure f : Sem Flow) | .error e => .raise e).onRaise (L2.cameBack X.env)).wrap K J gd lv) fs s2
  refine seg_call fun p => ?_
  have gl := fun (kk : Result → Sem PySem.Fin) => gc_loop (k := kk) (c' := .forLoop tg (.ref it) body [] X.env) (l := lv []) (kp := []) (p := p) gc rfl rfl
  have ee : ∀ (n : Nat) (s₀ : Shared) (x : Value) (s' : Shared), X.xe x s' → Seg (model X.prog X.w) A R (GY X S) n s₀ (.forLoop tg (.ref it) body [] X.env)
      ((do noteFrame x X.env; theTreesLotGoes x : Sem Unit).bind fun _ => .raise x)
      (.ret (fun r => ((match r with | .ok f => (.pure f : Sem Flow) | .error e => .raise e).onRaise (L2.cameBack X.env)).wrap K J gd lv) none (gd false) (lv []) c p [] :: fs) s' := fun n s₀ x s' hx => by
    rw [Sem.bind_eq_wrap]
    refine seg_wrap ?_
    rw [(gl _).over]
    refine wpAny_bind (wpAny_mono (hp x s' hx) (fun _ s'' hcb => wpAny_theTreesLotGoes ?_) fun y s'' hcb => ?_)
    · exact seg_leaf (.error x) (seg_cameBack gc k hcb)
    · exact seg_leaf (.error y) (seg_cameBack gc k hcb)
  have loop : ∀ (m i n : Nat) (ys : List V) (s₀ s : Shared) (σ : L2.St) (H : Hp), n + ys.length = sizeLine → GI X S ip ys σ H s → tn i s.heap → (∀ b ∈ fp, H b = none) → W i m ys σ H →
      Seg (model X.prog X.w) A R (GY X S) n s₀ (.forLoop tg (.ref it) body [] X.env) ((model X.prog X.w).den (.forLoop tg (.ref it) body [] X.env))
        (.ret (fun r => ((match r with | .ok f => (.pure f : Sem Flow) | .error e => .raise e).onRaise (L2.cameBack X.env)).wrap K J gd lv) none (gd false) (lv []) c p [] :: fs) s := by
    intro m
    induction m using Nat.strongRecOn with
    | ind m ih =>
      intro i n ys s₀ s3 σ3 H3 hn hI3 st3 fr3 w3
      obtain ⟨acc3, cc3, r3, I3⟩ := hI3
      refine seg_forLoopX (fun e => (do noteFrame e X.env; theTreesLotGoes e : Sem Unit).bind fun _ => .raise e) (fun _ => rfl) ?_
      rw [(gl _).over]
      rcases turn i m ys σ3 H3 w3 with ⟨stop, qn⟩ | ⟨go, N, hN, step⟩
      · refine wpAny_mono (T.done X rfl rfl rfl hc i _ s3 σ3 H3 (fun _ _ => False) I3 (stat fr3) st3 stop) (fun r s4 ⟨hr, I4⟩ => ?_) fun _ _ z => z.elim
        subst hr
        dsimp only
        refine seg_again rfl ?_
        exact seg_leaf (.ok .next) (k.ok n ys s₀ s4 .next hn ⟨σ3, H3, ⟨acc3, cc3, r3, I4⟩, qn⟩)
      · refine wpAny_mono (T.item X rfl rfl rfl hc i _ s3 σ3 H3 (fun _ _ => False) I3 (stat fr3) st3 go) (fun r s4 ⟨u, hr, h4⟩ => ?_) fun _ _ z => z.elim
        subst hr
        dsimp only
        refine wpAny_mono h4 (fun _ s5 ⟨x, H5, I5, r5, y5, st5, fr5⟩ => ?_) fun _ _ z => z.elim
        have I5' := I5.pinned (stat fr5) (T.obj _ _ st5)
        refine wpAny_mono (hg.run _ s5 σ3 H5 x u _ I5' r5 (step x H5 y5)) (fun _ s6 ⟨σ6, H6, I6, q6⟩ => ?_) fun x s' hx => ee n s₀ x s' hx
        have again : ∀ {ys' : List V} {s7 : Shared} {σ7 : L2.St} {H7 : Hp}, GI X S (ip ++ pinsAt fp s5.heap) ys' σ7 H7 s7 → N ys' σ7 H7 → ∃ m', m' < m ∧ GI X S ip ys' σ7 H7 s7 ∧ tn (i + 1) s7.heap ∧ (∀ b ∈ fp, H7 b = none) ∧ W (i + 1) m' ys' σ7 H7 := fun {ys' s7 σ7 H7} hI7 n7 => by
          obtain ⟨m', hm, w7⟩ := hN ys' σ7 H7 n7
          obtain ⟨acc7, cc7, r7, I7⟩ := hI7
          have I7' : Inv X (((S, lstObj acc7 cc7) :: ip) ++ pinsAt fp s5.heap) σ7 H7 s7 := I7
          refine ⟨m', hm, ⟨acc7, cc7, r7, I7'.unpinned⟩, T.keep _ _ _ st5 fun b hb o e => (I7'.pin (b, o) (List.mem_append_right _ (List.mem_append_right _ (mem_pinsAt hb e)))).1, fun b hb => ?_, w7⟩
          obtain ⟨o, e, d⟩ := T.obj _ _ st5 b hb
          exact (I7'.pin (b, o) (List.mem_append_right _ (List.mem_append_right _ (mem_pinsAt hb e)))).2.1
        have G6 : GI X S (ip ++ pinsAt fp s5.heap) ys σ6 H6 s6 := ⟨acc3, cc3, r3, I6⟩
        have un : ∀ {ys' : List V} {s7 : Shared} {σ7 : L2.St} {H7 : Hp}, GI X S (ip ++ pinsAt fp s5.heap) ys' σ7 H7 s7 → GI X S ip ys' σ7 H7 s7 := fun {ys' s7 σ7 H7} hI7 => by
          obtain ⟨acc7, cc7, r7, I7⟩ := hI7
          have I7' : Inv X (((S, lstObj acc7 cc7) :: ip) ++ pinsAt fp s5.heap) σ7 H7 s7 := I7
          exact ⟨acc7, cc7, r7, I7'.unpinned⟩
        refine hb.run A S (ip ++ pinsAt fp s5.heap) R n ys s₀ _ _ _ _ id id s6 σ6 H6 { D with nx := N, ct := N, bk := D.nx } (gc_pins (gl _) (pinsAt_ne fne)) hn ⟨fun n' ys' s₀' s7 f hn' hs => ?_, fun n' s₀' x s7 hx => ee n' s₀' x s7 hx⟩ G6 q6
        cases f with
        | next =>
          obtain ⟨σ7, H7, I7, n7⟩ := hs
          obtain ⟨m', hm, J7, st7, fr7, w7⟩ := again I7 n7
          exact seg_again rfl (ih m' hm (i + 1) n' ys' s₀' s7 σ7 H7 hn' J7 st7 fr7 w7)
        | cont =>
          obtain ⟨σ7, H7, I7, n7⟩ := hs
          obtain ⟨m', hm, J7, st7, fr7, w7⟩ := again I7 n7
          exact seg_again rfl (ih m' hm (i + 1) n' ys' s₀' s7 σ7 H7 hn' J7 st7 fr7 w7)
        | brk =>
          obtain ⟨σ7, H7, I7, q7⟩ := hs
          exact seg_leaf (.ok .next) (k.ok n' ys' s₀' s7 .next hn' ⟨σ7, H7, un I7, q7⟩)
        | ret v =>
          obtain ⟨x7, σ7, H7, I7, r7, q7⟩ := hs
          exact seg_leaf (.ok (.ret v)) (k.ok n' ys' s₀' s7 (.ret v) hn' ⟨x7, σ7, H7, un I7, r7, q7⟩)
  exact loop m0 0 n ys s₀ s2 σ H2 hn ⟨acc, cc, r, I2⟩ st2 (fun b hb => (f2 b hb).1) w0
/-- for over lo, lo + 1, .. in a generator that is drained -/
theorem for_rangeG {lo : Int} {n : Nat} {g : TG} {tb : TGn} {D : GEnds} {ys : List V} {σ : L2.St} {H : Hp} (Pv : Nat → List V → L2.St → Hp → Prop) (h0 : Pv 0 ys σ H)
    (hs : ∀ i ys σ H, i < n → Pv i ys σ H → g (.int (lo + i)) σ H fun σ2 H2 => tb { D with nx := Pv (i + 1), ct := Pv (i + 1), bk := D.nx } ys σ2 H2) (hd : ∀ ys σ H, Pv n ys σ H → D.nx ys σ H) :
    ∃ W : Nat → Nat → List V → L2.St → Hp → Prop, (∃ m, W 0 m ys σ H) ∧ ∀ i m ys σ H, W i m ys σ H →
      ((Itr lo n).stop i H ∧ D.nx ys σ H) ∨ ((Itr lo n).go i H ∧ ∃ N : List V → L2.St → Hp → Prop, (∀ ys' σ' H', N ys' σ' H' → ∃ m', m' < m ∧ W (i + 1) m' ys' σ' H') ∧ ∀ x H', (Itr lo n).yld i H x H' → g x σ H' fun σ2 H2 => tb { D with nx := N, ct := N, bk := D.nx } ys σ2 H2) := by
  refine ⟨fun i m ys σ H => m = n - i ∧ i ≤ n ∧ Pv i ys σ H, ⟨n, by simp, Nat.zero_le _, h0⟩, ?_⟩
  rintro i m ys σ H ⟨rfl, hi, p⟩
  by_cases hlt : i < n
  · refine .inr ⟨hlt, Pv (i + 1), fun ys' σ' H' p' => ⟨n - (i + 1), by omega, rfl, hlt, p'⟩, fun x H' y => ?_⟩
    obtain ⟨e, y⟩ := y
    subst e y
    exact hs i ys σ _ hlt p
  · have e : i = n := by omega
    subst e
    exact .inl ⟨Nat.le_refl _, hd ys σ H p⟩
end
end Gk
/-! list(f(..)) of a generator def. -/
namespace Gk
open PySem PySem.Spec PyProof.Rows L2 GenW
/-- the context of the body of a generator def that is drained and raises nothing of its own -/
theorem passes_none {X : Cx} {P : Program} {w : World} : Passes (CX P w) X L2.E0 := fun _ _ _ _ _ _ _ h => by
  obtain ⟨_, _, _, _, _, _, _, _, _, _, _, _, z⟩ := h
  exact z.elim
section
variable {P : Program} {w : World} {K : PySem.W.Frag} {mg : Str → Option Value} {base : Heap}
theorem gG_ok {x qual : Str} {st : Stmt} {f : Addr} {fd : FuncData} {N ps : List Str} {k : Nat} {sp : SpG} (F : L2.Fun K x qual st f fd) (S : GScope N ps (defScope st))
    (len : ∀ vs H Q E, sp vs H Q E → vs.length = ps.length)
    (hbody : ∀ (cdv : Value) (A : Around) (outer : List Env) (s : Shared) (H : Hp) (vs : List V) (Q : List V → Hp → Prop) (E : XK) (pn : List (Addr × Obj)), Room k (A.deeper (envOfC qual (defScope st) s.heap.objs.size f cdv)) → sp vs H Q E →
      ∃ t, GSs (gcxOf P w K mg base N qual (defScope st) f cdv A outer s H E pn) (defBody st) t ∧ t { nx := fun ys _ H' => Q ys H', rt := fun ys v H' => v = .non ∧ Q ys H' } [] (start N vs) H) :
    GFn P w K mg base (k + 1) f fd ps sp := by
  obtain ⟨oc, od, kV, doc, pm, an, cdv, ct, osl, rfl, lk, hcd⟩ := F.ex
  exact gfn_of lk hcd S len fun A outer s H vs Q E pn hr h => hbody cdv A outer s H vs Q E pn hr h
structure Dgn (P : Program) (w : World) (K : PySem.W.Frag) (mg : Str → Option Value) (base : Heap) (k : Nat) (x : Str) (ps : List Str) (sp : SpG) : Prop where
  ex : ∃ (f : Addr) (fd : FuncData), GFn P w K mg base k f fd ps sp ∧ mg x = some (.ref f) ∧ PySem.W.keepIn K (.ref f) = true ∧ Binds K fd ps []
end
section
variable {X : Cx} {k j : Nat} {ps : List Str} {sp : SpG} {x : Str} {p p2 pos pos2 : Pos} {e : Expr} {es : List Expr} {t : TA}
theorem pe_listD (D : Dgn X.prog X.w X.K X.mg X.base k x ps sp) (hr : Room j X.A) (hj : k + 3 ≤ j) (hx : Gl X x) (hg : Gl X "list") (hml : X.mg "list" = none)
    (ha : PA X (e :: es) t) (hdb : (x == ("__debug__" : Str)) = false := by decide) (he : starEach (e :: es) X.env = (false, eval e X.env) :: starEach es X.env := by rfl) (hpl : (backTo pos (starEach es X.env)).any (·.1) = false := by rfl)
    (he2 : starEach [.Call (.Name x p) (e :: es) [] pos] X.env = (false, eval (.Call (.Name x p) (e :: es) [] pos) X.env) :: starEach [] X.env := by rfl) :
    PE X (.Call (.Name "list" p2) [.Call (.Name x p) (e :: es) [] pos] [] pos2) (tListG (tCallG sp [] L2.E0 t)) := by
  obtain ⟨f, fd, F, hm, hk, hb⟩ := D.ex
  exact pe_listG (pgen_call F (hr.mono (by omega)) hx hm hk hb .nil ha hdb he hpl) passes_none (fun _ _ _ z => z.elim) (hr.mono hj) hg hml (by rfl) (by decide) (by decide) he2
end
end Gk
/-! tuple(f(..)) of a generator def. -/
namespace Gk
open PySem PySem.Spec PyProof.Rows L2 GenW
section
variable {P : Program} {w : World} {outer : List Env} {H : Hp} {sc s : Shared} {ex : List Addr} {Q : List V → Hp → Prop} {EX : XK} {A : Around} {k : Nat} {u : Value} {E : Value → Shared → Prop}
/-- S, an empty list, takes all that the generator hands out -/
theorem extend_gn {Q' : Result → Shared → Prop} {S : Addr} {res : Value} {s1 : Shared} (hr : Room (k + 1) A) (hfr : A.frames = some outer) (h : GMade P w k outer H sc ex Q EX u s) (hS : s.heap.objs.size ≤ S) (hS0 : ∃ c, s1.heap.get? S = some (lstObj #[] c))
    (kp : ∀ b o, s.heap.get? b = some o → s1.heap.get? b = some o) (gs1 : s1.gens = s.gens) (os1 : s1.os = s.os)
    (hQ : ∀ s' acc c H' ys, s'.heap.get? S = some (lstObj acc c) → Vals ys acc.toList → ys.length ≤ sizeLine → s'.os = sc.os → AllBare s'.gens → Un (frs outer) ex H H' sc.heap s'.heap → HOk P w H' s'.heap → H' S = none → Q ys H' → Q' (.ok (.ret res)) s')
    (hexc : ∀ e s' g, CX P w outer H sc EX e s' → NotStop (model P w) e s'.heap ∧ Q' (.error e) (s'.setGen g .finished)) :
    ∃ a, u = .ref a ∧ codeAny (model P w) A (.builtin "list.extend.loop" ⟨[.ref S, .ref a, res], []⟩) Q' s1 := by
  obtain ⟨a, g, c, rfl, ha1, ha2, hg, hgs, hos, hb, hl, hkp, wake⟩ := h
  have hcl : cStatics < s.heap.objs.size := let ⟨_, hn, _⟩ := hl; hn.lt
  refine ⟨a, rfl, drain hr.hd (by have := hr.dp; omega) (fun e => ?_) (fun e => ?_) hQ (fun e s' hc => hexc e s' g hc) sizeLine s1 (hg.keeps kp) (hl.keeps kp) ⟨.fresh c, (by rw [gs1]; exact hgs), rfl, ?_⟩⟩
  · exact absurd (e ▸ hS) (Nat.not_le_of_gt ha2)
  · exact absurd (e ▸ hS) (Nat.not_le_of_gt hcl)
  · refine wake _ _ _ ⟨hr.hd, ?_, ?_⟩ hfr hS kp hS0 (os1.trans hos) (allBare_setGen (by rw [gs1]; exact hb) rfl)
    · have := hr.dp
      show A.depth + 3 * k + 5 < _
      omega
    · have := hr.un
      show A.units + 1 + 1 + 16 * k + 200 < _
      omega
theorem collect_gn {Q' : List Value → Shared → Prop} (hr : Room (k + 1) A) (hfr : A.frames = some outer) (h : GMade P w k outer H sc ex Q EX u s)
    (hQ : ∀ S s' acc c H' ys, s.heap.objs.size ≤ S → s'.heap.get? S = some (lstObj acc c) → Vals ys acc.toList → ys.length ≤ sizeLine → s'.os = sc.os → AllBare s'.gens → Un (frs outer) ex H H' sc.heap s'.heap → HOk P w H' s'.heap → H' S = none → Q ys H' → Q' acc.toList s')
    (hexc : ∀ e s' g, CX P w outer H sc EX e s' → NotStop (model P w) e s'.heap ∧ E e (s'.setGen g .finished)) :
    wpAny (model P w) A (collect u) Q' E s := by
  obtain ⟨a, g, rfl, ha2, hg⟩ : ∃ a g, u = .ref a ∧ a < s.heap.objs.size ∧ s.heap.IsGen a g := by
    obtain ⟨a, g, _, e, _, h2, h3, _⟩ := id h
    exact ⟨a, g, e, h2, h3⟩
  have ne : Builtin.List.listSameRef (.ref s.heap.objs.size) (.ref a) = false := by simp [Builtin.List.listSameRef, Nat.ne_of_gt ha2]
  let new : Obj := { cls := .type "list", data := .seq ([] : List Value).toArray }
  have at0 : (s.heap.push new).get? s.heap.objs.size = some new := Heap.get?_push_size _ rfl
  have at1 := Heap.get?_update_self (Obj.mapSeq (·.push Value.none)) at0 rfl
  have at2 := Heap.get?_update_self (Obj.mapSeq (·.pop)) at1 rfl
  have kp0 : ∀ b o, s.heap.get? b = some o → (s.heap.push new).get? b = some o := fun b o e => Heap.get?_push_of_some _ e
  have kp2 : ∀ b o, s.heap.get? b = some o → (((s.heap.push new).update s.heap.objs.size (Obj.mapSeq (·.push Value.none))).update s.heap.objs.size (Obj.mapSeq (·.pop))).get? b = some o := fun b o e => by
    have hb : s.heap.objs.size ≠ b := Nat.ne_of_gt (Heap.lt_size e)
    rw [Heap.get?_update_other _ _ hb, Heap.get?_update_other _ _ hb]
    exact kp0 b o e
  have g0 : Heap.IsGen (s.heap.push new) a g := hg.keeps kp0
  have ty0 : Shared.TypeIs { s with heap := s.heap.push new } (.ref a) "generator" := g0.typeIs
  obtain ⟨a', ea, loop⟩ := extend_gn (S := s.heap.objs.size) (res := .ref s.heap.objs.size) (s1 := { s with heap := ((s.heap.push new).update s.heap.objs.size (Obj.mapSeq (·.push Value.none))).update s.heap.objs.size (Obj.mapSeq (·.pop)) }) hr hfr h (Nat.le_refl _) ⟨_, at2⟩ kp2 rfl rfl
    (Q' := fun r s' => match r with
      | .ok (.ret v) => v = .ref s.heap.objs.size ∧ ∃ acc c, s'.heap.get? s.heap.objs.size = some (lstObj acc c) ∧ Q' acc.toList s'
      | .ok _ => False
      | .error e => E e s')
    (fun s' acc c H' ys q1 q2 q3 q4 q5 q6 q7 q8 q9 => ⟨rfl, acc, c, q1, hQ _ s' acc c H' ys (Nat.le_refl _) q1 q2 q3 q4 q5 q6 q7 q8 q9⟩) hexc
  cases ea
  unfold collect
  refine wpAny_bind (wpAny_runValue (codeAny_builtin F.entry_proto_collect ?_))
  rw [Around.under_plainId F.plain_proto_collect _]
  refine wpAny_bind (m := newList []) (wpAny_newObj_type (wpAny_pure ⟨plainId_quiet F.plain_list_iadd _, codeAny_builtin F.entry_list_iadd ?_⟩))
  rw [Around.under_plainId F.plain_list_iadd _]
  show wpAny _ A.in1 (Builtin.List.listExtendWith (.ref s.heap.objs.size) (.ref a) (.ref s.heap.objs.size)) _ _ _
  unfold Builtin.List.listExtendWith Builtin.List.listLengthHint Builtin.List.listTouch
  have n1 : (Value.type "generator" == Value.type "list" || Value.type "generator" == Value.type "tuple") = false := by decide
  refine wpAny_bind (wpAny_typeOf ty0 ?_)
  simp only [ne, n1, Bool.or_false, Bool.false_or, Bool.false_eq_true, if_false]
  refine wpAny_bind (wpAny_pyIter_gen g0 (wpAny_bind (wpAny_holding (wpAny_bind (wpAny_specialOf ty0 F.gen_no_len (wpAny_bind (wpAny_specialOf ty0 F.gen_no_hint ?_)))))))
  refine wpAny_pure (wpAny_bind (wpAny_rule (wpAny_bind ?_)))
  refine wpAny_bind (wpAny_updateSeq at0 rfl ?_ (by decide) (by decide))
  refine wpAny_updateSeq at1 rfl ?_ (by decide) (by decide)
  refine wpAny_pure ⟨plainId_quiet F.plain_extend_loop _, ?_⟩
  refine codeAny_mono loop fun r s' hq => ?_
  cases r with
  | error e => exact hq
  | ok f =>
    cases f with
    | ret v =>
      obtain ⟨rfl, acc, c, q1, q2⟩ := hq
      exact wpAny_bind (m := load s.heap.objs.size) (wpAny_load q1 (wpAny_pure q2))
    | next => exact hq.elim
    | brk => exact hq.elim
    | cont => exact hq.elim
theorem call_tuple_gn {Q' : Value → Shared → Prop} (hr : Room (k + 3) A) (hfr : A.frames = some outer) (h : GMade P w k outer H sc ex Q EX u s)
    (hQ : ∀ (S : Addr) (s' : Shared) (acc : Array Value) (c : Nat) (H' : Hp) (ys : List V), s.heap.objs.size ≤ S → s'.heap.get? S = some (lstObj acc c) → Vals ys acc.toList → ys.length ≤ sizeLine → s'.os = sc.os → AllBare s'.gens → Un (frs outer) ex H H' sc.heap s'.heap → HOk P w H' s'.heap → H' S = none → Q ys H' →
      Q' (.ref s'.heap.objs.size) { s' with heap := s'.heap.push { cls := .type "tuple", data := .seq acc } })
    (hexc : ∀ e s' g, CX P w outer H sc EX e s' → NotStop (model P w) e s'.heap ∧ E e (s'.setGen g .finished)) :
    wpAny (model P w) A (call (.type "tuple") [u]) Q' E s := by
  have hTI : s.TypeIs u "generator" := by
    obtain ⟨a, g, c, rfl, _, _, hg, _⟩ := id h
    exact hg.typeIs
  obtain ⟨a, eu⟩ : ∃ a, u = .ref a := by
    obtain ⟨a, _, _, e, _⟩ := id h
    exact ⟨a, e⟩
  subst eu
  refine callType_codes (Q₁ := fun obj s₁ => s₁.TypeIs obj "tuple" ∧ Q' obj s₁) F.called_tuple (F.typeCall_tuple_1 _) F.entry_object_init ?_ fun obj s₁ h₁ => ?_
  · refine codeAny_of_tree ?_
    show wpAny _ A.in1.in1 (do checkBuiltinCall "tuple.__new__" ⟨[.type "tuple", .ref a], []⟩; again (.builtin "tuple.__new__" ⟨[.type "tuple", .ref a], []⟩)) _ _ s
    refine wpAny_bind (wpAny_of_eq (F.newCall_tuple_1 _) (wpAny_pure ⟨plainId_quiet F.plain_tuple_new _, codeAny_builtin F.entry_tuple_new ?_⟩))
    rw [Around.under_plainId F.plain_tuple_new _]
    have hsub := sub_tuple_self
    have hinit := init_tuple_lookup
    have hmh := madeHere_tuple
    wp_walk using wpAny_typeOf hTI, collect_gn (k := k) (hr.in1.in1) hfr h
    · intro S s' acc c H' ys q0 q1 q2 hl q3 q4 q5 q6 q7 q8
      show wpAny _ _ (Builtin.Tuple.tupleExact acc.toList.toArray >>= fun v => ret v) _ _ _
      unfold Builtin.Tuple.tupleExact
      have hsz : acc.toList.toArray.size ≤ sizeLine := by
        have := q2.length
        simp only [Array.toArray_toList]
        rw [← Array.length_toList]
        omega
      refine wpAny_bind (wpAny_newObj_type ?_ hsz)
      refine wpAny_pure ?_
      have e : acc.toList.toArray = acc := by simp
      rw [e]
      exact ⟨⟨_, Heap.get?_push_size _ rfl, rfl⟩, hQ S s' acc c H' ys q0 q1 q2 hl q3 q4 q5 q6 q7 q8⟩
    · intro e s' g hc
      exact hexc e s' g hc
  · exact ⟨h₁.1, F.args_object_init_2 obj _, object_init_meets F.called_tuple.init.lookup F.called_tuple.made (by decide) P w A.in1 _ s₁ ⟨h₁.1, rfl, h₁.2⟩⟩
end
section
variable {X : Cx} {k j : Nat} {ps : List Str} {sp : SpG} {x : Str} {p p2 pos pos2 : Pos} {e : Expr} {es : List Expr} {t : TA}
def tTupleG (tg : TGen) : TE := fun σ H Q => tg σ H fun out H2 => ∀ D, H2 D = none → ∀ T, upd H2 D (.lst out) T = none → Q (.ref T) (upd (upd H2 D (.lst out)) T (.tup out))
/-- tuple(g), where the generator raises nothing -/
theorem pe_tupleG {e : Expr} {tg : TGen} (h : PGen X k e tg L2.E0) (hr : Room (k + 3) X.A) (hg : Gl X "tuple") (hmg : X.mg "tuple" = none)
    (he : starEach [e] X.env = (false, eval e X.env) :: starEach [] X.env := by rfl) : PE X (.Call (.Name "tuple" p) [e] [] pos) (tTupleG tg) := by
  refine ⟨fun pins s σ H Q I hq => wpAny_Call_Name_kw (ld_blt I hg hmg (u := .type "tuple") (by rfl) (PyProof.Rows.callWith_type1 ?_ he rfl) (by decide) (by decide))⟩
  rw [he]
  refine Calls.spliced_cons (thn (h.run pins s σ H _ I hq) fun u s1 ⟨H1, sc, ex, I1, hex, hG⟩ => Calls.spliced_nil ?_)
  have hsz : sc.heap.objs.size ≤ s1.heap.objs.size := by
    obtain ⟨_, _, _, _, h1, h2, _⟩ := id hG
    exact Nat.le_trans h1 (Nat.le_of_lt h2)
  refine call_tuple_gn hr I1.ok.frames hG (fun S s' acc c H' ys q0 q1 q2 hl q3 q4 q5 q6 q7 q8 => ?_) fun e s' g hc => ?_
  · have I2 := I1.drained (Nat.le_trans hsz q0) hl q1 q2 hex q3 q4 q5 q6 q7
    exact ⟨.ref s'.heap.objs.size, upd (upd H' S (.lst ys)) s'.heap.objs.size (.tup ys),
      I2.laid (t' := s'.toks) (fun b o e => Heap.get?_push_of_some _ e) (Nat.le_refl _) (show ObjOk X.prog X.w _ _ _ (.tup ys) from ⟨hl, acc.toList, q2, IsTup.new _ _⟩), rfl, q8 S q7 _ (I2.hok.fresh (Nat.le_refl _))⟩
  · obtain ⟨_, _, _, _, _, _, _, _, _, _, _, _, z⟩ := hc
    exact z.elim
theorem pe_tupleD (D : Dgn X.prog X.w X.K X.mg X.base k x ps sp) (hr : Room j X.A) (hj : k + 3 ≤ j) (hx : Gl X x) (hg : Gl X "tuple") (hmt : X.mg "tuple" = none)
    (ha : PA X (e :: es) t) (hdb : (x == ("__debug__" : Str)) = false := by decide) (he : starEach (e :: es) X.env = (false, eval e X.env) :: starEach es X.env := by rfl) (hpl : (backTo pos (starEach es X.env)).any (·.1) = false := by rfl)
    (he2 : starEach [.Call (.Name x p) (e :: es) [] pos] X.env = (false, eval (.Call (.Name x p) (e :: es) [] pos) X.env) :: starEach [] X.env := by rfl) :
    PE X (.Call (.Name "tuple" p2) [.Call (.Name x p) (e :: es) [] pos] [] pos2) (tTupleG (tCallG sp [] L2.E0 t)) := by
  obtain ⟨f, fd, F, hm, hk, hb⟩ := D.ex
  exact pe_tupleG (pgen_call F (hr.mono (by omega)) hx hm hk hb .nil ha hdb he hpl) (hr.mono hj) hg hmt he2
end
end Gk
namespace Pf
open PySem PySem.Spec PyProof.Rows L2 Gk Fold RZ
/-! ### _law_tables: all tables of a few cells -/
theorem op_catUK {X : Cx} (K : PySem.W.Frag) (h : X.K = K := by rfl) : OpR X (binaryOp .Add) (rCatU K) := by
  subst h
  exact op_catU
abbrev nTabs : List Str := ["_law_box_here", "_law_cells", "_law_spots", "_law_found", "_law_spot", "_law_some", "_law_turn"]
/-- tables of outcomes 0 and 1 for these cells -/
structure Tabs (K : PySem.W.Frag) (H : Hp) (pes : List (Addr × List V)) (cs : List CK) : Prop where
  sq : ∀ q ∈ pes, SqT K H q.1 q.2
  tab : ∀ q ∈ pes, ∃ ts, TabAt H q.2 ts ∧ ts.map (·.1) = cs ∧ ∀ e ∈ ts, Bit e.2
/-- .. and all that there are -/
def AllT (H : Hp) (pes : List (Addr × List V)) (cs : List CK) : Prop := ∀ g : CK → Int, (∀ c, Bit (g c)) → ∃ q ∈ pes, TabAt H q.2 (cs.map fun c => (c, g c))
theorem Tabs.keep {K : PySem.W.Frag} {H H' : Hp} {pes : List (Addr × List V)} {cs : List CK} (h : Tabs K H pes cs) (kp : Keep K H H') (s : ∀ b ts, H b = some (.tup ts) → H' b = some (.tup ts)) : Tabs K H' pes cs :=
  ⟨fun q hq => kp _ _ (h.sq q hq), fun q hq => (h.tab q hq).imp fun ts t => ⟨t.1.same s, t.2⟩⟩
theorem AllT.keep {H H' : Hp} {pes : List (Addr × List V)} {cs : List CK} (h : AllT H pes cs) (s : ∀ b ts, H b = some (.tup ts) → H' b = some (.tup ts)) : AllT H' pes cs := fun g bg => (h g bg).imp fun q hq => ⟨hq.1, hq.2.same s⟩
theorem tup_but {m : Nat} {H H' : Hp} {b : Addr} (bx : Box m H b) (bt : But b H H') : ∀ a ts, H a = some (.tup ts) → H' a = some (.tup ts) := fun a ts h => by
  obtain ⟨x, y, z, e, _⟩ := bx
  exact bt _ _ (ne_of h e (fun q => HO.noConfusion q)) h
/-- tables made longer by an entry -/
structure Longer (K : PySem.W.Frag) (H : Hp) (v : V) (o : Int) (pes qs : List (Addr × List V)) : Prop where
  len : qs.length ≤ pes.length
  sq : ∀ q ∈ qs, SqT K H q.1 q.2
  at_ : ∀ (i : Nat) (q : Addr × List V), qs[i]? = some q → ∃ p T, pes[i]? = some p ∧ q.2 = p.2 ++ [.ref T] ∧ H T = some (.tup [v, .int o])
theorem Longer.keep {K : PySem.W.Frag} {H H' : Hp} {v : V} {o : Int} {pes qs : List (Addr × List V)} (h : Longer K H v o pes qs) (kp : Keep K H H') (s : ∀ b ts, H b = some (.tup ts) → H' b = some (.tup ts)) : Longer K H' v o pes qs :=
  ⟨h.len, fun q hq => kp _ _ (h.sq q hq), fun i q e => by
    obtain ⟨p, T, h1, h2, h3⟩ := h.at_ i q e
    exact ⟨p, T, h1, h2, s _ _ h3⟩⟩
theorem Longer.nil {K : PySem.W.Frag} {H : Hp} {v : V} {o : Int} {pes : List (Addr × List V)} : Longer K H v o pes [] := ⟨Nat.zero_le _, fun q h => (nomatch h), fun i q e => by simp at e⟩
theorem Longer.snoc {K : PySem.W.Frag} {H : Hp} {v : V} {o : Int} {pes qs : List (Addr × List V)} {p : Addr × List V} {T r : Addr} (h : Longer K H v o pes qs) (e : pes[qs.length]? = some p) (hr : SqT K H r (p.2 ++ [.ref T])) (hT : H T = some (.tup [v, .int o])) : Longer K H v o pes (qs ++ [(r, p.2 ++ [.ref T])]) := by
  refine ⟨?_, fun q hq => ?_, fun i q hq => ?_⟩
  · have := (List.getElem?_eq_some_iff.mp e).1
    rw [List.length_append]
    exact this
  · rcases List.mem_append.mp hq with hq | hq
    · exact h.sq q hq
    · rw [List.mem_singleton.mp hq]
      exact hr
  · rcases Nat.lt_trichotomy i qs.length with g | g | g
    · rw [List.getElem?_append_left g] at hq
      exact h.at_ i q hq
    · rw [List.getElem?_append_right (by omega), show i - qs.length = 0 by omega] at hq
      obtain rfl := Option.some.inj hq
      exact ⟨p, T, by rw [g]; exact e, rfl, hT⟩
    · rw [List.getElem?_eq_none (by rw [List.length_append]; show qs.length + 1 ≤ i; omega)] at hq
      cases hq
theorem longer_tabs {K : PySem.W.Frag} {H : Hp} {v : V} {c : CK} {pes q0 q1 : List (Addr × List V)} {cs : List CK} (nc : c ∉ cs) (kv : KeyV H v c) (t : Tabs K H pes cs) (l0 : Longer K H v 0 pes q0) (l1 : Longer K H v 1 pes q1) : Tabs K H (q0 ++ q1) (cs ++ [c]) := by
  have one : ∀ {o : Int} {qs : List (Addr × List V)}, Bit o → Longer K H v o pes qs → ∀ q ∈ qs, ∃ ts, TabAt H q.2 ts ∧ ts.map (·.1) = cs ++ [c] ∧ ∀ e ∈ ts, Bit e.2 := fun {o qs} bo l q hq => by
    obtain ⟨i, hi⟩ := List.mem_iff_getElem?.mp hq
    obtain ⟨p, T, h1, h2, h3⟩ := l.at_ i q hi
    obtain ⟨ts, g1, g2, g3⟩ := t.tab p (List.mem_of_getElem? h1)
    refine ⟨ts ++ [(c, o)], ?_, by rw [List.map_append, g2]; rfl, fun e he => ?_⟩
    · rw [h2]
      exact g1.snoc ⟨T, v, rfl, h3, kv⟩
    · rcases List.mem_append.mp he with he | he
      · exact g3 e he
      · rw [List.mem_singleton.mp he]
        exact bo
  refine ⟨fun q hq => ?_, fun q hq => ?_⟩
  · rcases List.mem_append.mp hq with hq | hq
    · exact l0.sq q hq
    · exact l1.sq q hq
  · rcases List.mem_append.mp hq with hq | hq
    · exact one (.inl rfl) l0 q hq
    · exact one (.inr rfl) l1 q hq
theorem longer_all {K : PySem.W.Frag} {H : Hp} {v : V} {c : CK} {pes q0 q1 : List (Addr × List V)} {cs : List CK} (kv : KeyV H v c) (a : AllT H pes cs) (e0 : q0.length = pes.length) (e1 : q1.length = pes.length) (l0 : Longer K H v 0 pes q0) (l1 : Longer K H v 1 pes q1) : AllT H (q0 ++ q1) (cs ++ [c]) := fun g bg => by
  obtain ⟨p, hp, tp⟩ := a g bg
  obtain ⟨i, hi⟩ := List.mem_iff_getElem?.mp hp
  have il := (List.getElem?_eq_some_iff.mp hi).1
  have one : ∀ {o : Int} {qs : List (Addr × List V)}, qs.length = pes.length → Longer K H v o pes qs → g c = o → ∃ q ∈ qs, TabAt H q.2 ((cs ++ [c]).map fun c => (c, g c)) := fun {o qs} el l eg => by
    have hq : qs[i]? = some (qs[i]'(by omega)) := List.getElem?_eq_getElem (by omega)
    obtain ⟨p', T, h1, h2, h3⟩ := l.at_ i _ hq
    rw [hi] at h1
    obtain rfl := Option.some.inj h1
    refine ⟨_, List.mem_of_getElem? hq, ?_⟩
    rw [h2, List.map_append]
    exact tp.snoc ⟨T, v, rfl, by rw [eg]; exact h3, kv⟩
  rcases bg c with z | z
  · obtain ⟨q, hq, t⟩ := one e0 l0 z
    exact ⟨q, List.mem_append_left _ hq, t⟩
  · obtain ⟨q, hq, t⟩ := one e1 l1 z
    exact ⟨q, List.mem_append_right _ hq, t⟩
section
variable {P : Program} {w : World} {K : PySem.W.Frag} {mg : Str → Option Value} {base : Heap}
def spTabs (K : PySem.W.Frag) : Sp := fun vs H Q _ => ∃ (b A : Addr) (xs : List V) (all : List CK) (k : Str) (m : Nat), vs = [.ref b, .ref A] ∧ Box m H b ∧ m ≤ 900000 ∧ H A = some (.lst xs) ∧ A ≠ b ∧ KeysAt H xs all ∧ (∀ c ∈ all, CellIs k c) ∧ all.length ≤ 16 ∧
  ∀ H' T tabs (cs : List CK), But b H H' → Box (m + 2000) H' b → T ≠ b → H' T = some (.lst (tabs.map fun q => V.ref q.1)) → cs.Pairwise ckLt → (∀ c, c ∈ cs ↔ c ∈ all) → cs.length ≤ 16 → tabs.length ≤ 128 → 1 ≤ tabs.length → Tabs K H' tabs cs → (cs.length ≤ 7 → AllT H' tabs cs) → Q (.ref T) H'
end
end Pf
namespace Pf
open PySem PySem.Spec PyProof.Rows L2 Gk Fold RZ
/-! ### _law_table_right -/
theorem merge_val : ∀ (es acc : List (L2.Key × V)) (k : L2.Key), valV (mergeK acc es) k = es.foldl (fun o e => if k = e.1 then some e.2 else o) (valV acc k)
  | [], _, _ => rfl
  | e :: es, acc, k => by
    show valV (mergeK (putK acc e.1 e.2) es) k = _
    rw [merge_val es, List.foldl_cons, valV_put]
theorem TabAt.head {H : Hp} {e : V} {p : CK × Int} {es : List V} {ts : List (CK × Int)} (h : TabAt H (e :: es) (p :: ts)) : EntI H e p.1 p.2 ∧ TabAt H es ts :=
  ⟨h.2 0 e p rfl rfl, Nat.succ.inj h.1, fun i e' p' h1 h2 => h.2 (i + 1) e' p' h1 h2⟩
theorem tab_keys {K : PySem.W.Frag} {H : Hp} : ∀ {es : List V} {ts : List (CK × Int)}, TabAt H es ts → (∀ e ∈ ts, ∃ q, e.1 = .inl q) →
    ∃ (ps : List Addr) (kvs : List (L2.Key × V)), es = ps.map V.ref ∧ Paired (fun p kv => SqT K H p [kV kv.1, kv.2]) ps kvs ∧ ∀ (q : L2.Key) (acc : Option Int), kvs.foldl (fun o e => if q = e.1 then some e.2 else o) (acc.map V.int) = (ts.foldl (fun o e => if (.inl q : CK) = e.1 then some e.2 else o) acc).map V.int
  | [], [], _, _ => ⟨[], [], rfl, .nil, fun _ _ => rfl⟩
  | [], _ :: _, h, _ => by cases h.1
  | _ :: _, [], h, _ => by cases h.1
  | e :: es, p :: ts, h, kin => by
    obtain ⟨h1, h2⟩ := h.head
    obtain ⟨ps, kvs, rfl, pr, f⟩ := tab_keys h2 fun e he => kin e (List.mem_cons_of_mem _ he)
    obtain ⟨q0, e0⟩ := kin p List.mem_cons_self
    obtain ⟨a, v, rfl, ha, kv⟩ := h1
    rw [e0] at kv
    cases (show v = kV q0 from kv)
    refine ⟨a :: ps, (q0, .int p.2) :: kvs, rfl, .cons (.inl (.inl ha)) pr, fun q acc => ?_⟩
    rw [List.foldl_cons, List.foldl_cons, ← f]
    refine congrArg (fun z => List.foldl _ z kvs) ?_
    dsimp only
    rw [e0]
    by_cases c : q = q0
    · rw [if_pos c, if_pos (by rw [c])]
      rfl
    · rw [if_neg c, if_neg (fun z => c (Sum.inl.inj z))]
theorem tab_keysT {K : PySem.W.Frag} {H : Hp} : ∀ {es : List V} {ts : List (CK × Int)}, TabAt H es ts → (∀ e ∈ ts, ∃ q, e.1 = .inr q) →
    ∃ (ps : List Addr) (kvs : List EntT), es = ps.map V.ref ∧ Paired (fun p e => SqT K H p [.ref e.2.1, e.2.2] ∧ H e.2.1 = some (.tup (e.1.map kV))) ps kvs ∧ kvs.length = ts.length ∧ ∀ (q : List L2.Key) (acc : Option Int), kvs.foldl (fun o e => if q = e.1 then some e.2.2 else o) (acc.map V.int) = (ts.foldl (fun o e => if (.inr q : CK) = e.1 then some e.2 else o) acc).map V.int
  | [], [], _, _ => ⟨[], [], rfl, .nil, rfl, fun _ _ => rfl⟩
  | [], _ :: _, h, _ => by cases h.1
  | _ :: _, [], h, _ => by cases h.1
  | e :: es, p :: ts, h, kin => by
    obtain ⟨h1, h2⟩ := h.head
    obtain ⟨ps, kvs, rfl, pr, lk, f⟩ := tab_keysT h2 fun e he => kin e (List.mem_cons_of_mem _ he)
    obtain ⟨q0, e0⟩ := kin p List.mem_cons_self
    obtain ⟨a, v, rfl, ha, kv⟩ := h1
    rw [e0] at kv
    obtain ⟨r, rfl, hr⟩ := kv
    refine ⟨a :: ps, (q0, r, .int p.2) :: kvs, rfl, .cons ⟨.inl (.inl ha), hr⟩ pr, by rw [List.length_cons, List.length_cons, lk], fun q acc => ?_⟩
    rw [List.foldl_cons, List.foldl_cons, ← f]
    refine congrArg (fun z => List.foldl _ z kvs) ?_
    dsimp only
    rw [e0]
    by_cases c : q = q0
    · rw [if_pos c, if_pos (by rw [c])]
      rfl
    · rw [if_neg c, if_neg (fun z => c (Sum.inr.inj z))]
/-- a dict that says what a table says -/
def Knows (H : Hp) (a : Addr) (k : Str) (ts : List (CK × Int)) : Prop :=
  (tupK k = false ∧ ∃ kvs, H a = some (.dK kvs) ∧ ∀ q, valV kvs q = (valT ts (.inl q)).map V.int) ∨ (tupK k = true ∧ ∃ kvs, H a = some (.dT kvs) ∧ ∀ q, valV kvs q = (valT ts (.inr q)).map V.int)
theorem Knows.get {H : Hp} {a : Addr} {k : Str} {ts : List (CK × Int)} {v : V} {c : CK} (d : Knows H a k ts) (kv : KeyV H v c) (kin : Kin k c) : DGet H a v ((valT ts c).map V.int) := by
  rcases d with ⟨t, kvs, e, l⟩ | ⟨t, kvs, e, l⟩
  · rcases kin with ⟨_, q, rfl⟩ | ⟨t', _⟩
    · exact .inl ⟨kvs, q, .inl e, kv, (l q).symm⟩
    · rw [t] at t'
      cases t'
  · rcases kin with ⟨t', _⟩ | ⟨_, q, rfl⟩
    · rw [t] at t'
      cases t'
    · obtain ⟨p, rfl, hp⟩ := kv
      exact .inr ⟨kvs, q, p, .inl e, rfl, hp, (l q).symm⟩
theorem Knows.isD {H : Hp} {a : Addr} {k : Str} {ts : List (CK × Int)} (d : Knows H a k ts) : IsD H a := by
  rcases d with ⟨t, kvs, e, l⟩ | ⟨t, kvs, e, l⟩
  · exact .inl ⟨kvs, .inl e⟩
  · exact .inr ⟨kvs, .inl e⟩
theorem Knows.same {H H' : Hp} {a : Addr} {k : Str} {ts : List (CK × Int)} (d : Knows H a k ts) (s : ∀ o, H a = some o → H' a = some o) : Knows H' a k ts := by
  rcases d with ⟨t, kvs, e, r⟩ | ⟨t, kvs, e, r⟩
  · exact .inl ⟨t, kvs, s _ e, r⟩
  · exact .inr ⟨t, kvs, s _ e, r⟩
theorem know_dict {K : PySem.W.Frag} {H : Hp} {a : Addr} {k : Str} {es : List V} {ts : List (CK × Int)} {Q : VK} (hS : SqL K H a es) (tab : TabAt H es ts) (kin : ∀ e ∈ ts, Kin k e.1) (few : ts.length ≤ 64) (q : ∀ p H', Same H H' → Knows H' p k ts → Q (.ref p) H') : rDictP K [.ref a] H Q ∨ rDictT K [.ref a] H Q := by
  cases t : tupK k with
  | false =>
    obtain ⟨ps, kvs, rfl, pr, f⟩ := tab_keys (K := K) tab fun e he => by
      rcases kin e he with ⟨_, h⟩ | ⟨h, _⟩
      · exact h
      · rw [t] at h
        cases h
    exact .inl ⟨a, ps, kvs, rfl, hS, pr, fun p np => q p _ (same_new np) (.inl ⟨t, _, upd_same, fun y => by rw [merge_val]; exact f y none⟩)⟩
  | true =>
    obtain ⟨ps, kvs, rfl, pr, lk, f⟩ := tab_keysT (K := K) tab fun e he => by
      rcases kin e he with ⟨h, _⟩ | ⟨_, h⟩
      · rw [t] at h
        cases h
      · exact h
    exact .inr ⟨a, ps, kvs, rfl, hS, pr, by omega, fun p np => q p _ (same_new np) (.inr ⟨t, _, upd_same, fun y => by rw [mergeT_val]; exact f y none⟩)⟩
/-! ### how many errors a table has -/
theorem Bit.cases {o : Int} (h : Bit o) : o = 0 ∨ o = 1 := h
/-- the wrong ones of a cell -/
def wrongC (l : List (Int × Int)) (k : Str) (x : Option Int) (L : Nat) (ts : List (CK × Int)) (c : CK) (n : Nat) : Nat := ((posL l k x L c n).filter fun i => decide (predT ts c ≠ outAt l i)).length
theorem wrongC_succ (l : List (Int × Int)) (k : Str) (x : Option Int) (L : Nat) (ts : List (CK × Int)) (c : CK) (n : Nat) : wrongC l k x L ts c (n + 1) = wrongC l k x L ts c n + if sK l k x L n = c then (if predT ts (sK l k x L n) ≠ outAt l n then 1 else 0) else 0 := by
  unfold wrongC
  rw [posL_succ]
  by_cases e : sK l k x L n = c
  · rw [if_pos e, if_pos e, List.filter_append, List.length_append, e]
    by_cases d : predT ts c ≠ outAt l n
    · rw [if_pos d]
      simp [d]
    · rw [if_neg d]
      simp only [ne_eq, Decidable.not_not] at d
      simp [d]
  · rw [if_neg e, if_neg e, List.append_nil]
    rfl
theorem wrong_sum {l : List (Int × Int)} {k : Str} {x : Option Int} {L : Nat} (ts : List (CK × Int)) {cs : List CK} (nd : cs.Nodup) (all : ∀ j, j < l.length → sK l k x L j ∈ cs) : ∀ n, n ≤ l.length → (wrongT l k x L ts n).length = sumC (fun c => wrongC l k x L ts c n) cs
  | 0, _ => (sumC_zero (cs := cs)).symm
  | n + 1, h => by
    have ih := wrong_sum ts nd all n (by omega)
    rw [wrongT_succ, List.length_append, ih, sumC_eq (g := fun c => wrongC l k x L ts c n + if sK l k x L n = c then (if predT ts (sK l k x L n) ≠ outAt l n then 1 else 0) else 0) fun c _ => wrongC_succ l k x L ts c n, sumC_in nd (all n (by omega))]
    congr 1
    split <;> rfl
theorem filter_bits {l : List (Int × Int)} (fair : Fair l) (l1 : 1 ≤ l.length) {ns : List Nat} (less : ∀ n ∈ ns, n < l.length) (o : Int) : (partL l 0 ns).length + (partL l 1 ns).length = ns.length := by
  induction ns with
  | nil => rfl
  | cons n ns ih =>
    have ih := ih fun m hm => less m (List.mem_cons_of_mem _ hm)
    have bo := outM_bit fair l1 n
    have eo : outM l n = outAt l n := by
      unfold outM outAt
      rw [Nat.mod_eq_of_lt (less n List.mem_cons_self)]
    rw [eo] at bo
    unfold partL at ih ⊢
    rcases bo with e | e
    · rw [List.filter_cons_of_pos (by rw [e]; rfl), List.filter_cons_of_neg (by rw [e]; decide), List.length_cons, List.length_cons]
      omega
    · rw [List.filter_cons_of_neg (by rw [e]; decide), List.filter_cons_of_pos (by rw [e]; rfl), List.length_cons, List.length_cons]
      omega
theorem wrongC_count {l : List (Int × Int)} (fair : Fair l) (l1 : 1 ≤ l.length) (k : Str) (x : Option Int) (L : Nat) (ts : List (CK × Int)) (c : CK) : pairsC l k x L c ≤ wrongC l k x L ts c l.length ∧ (predT ts c = bestO l k x L c → wrongC l k x L ts c l.length = pairsC l k x L c) := by
  have less : ∀ n ∈ posL l k x L c l.length, n < l.length := fun n hn => (posL_mem.mp hn).1
  unfold wrongC pairsC bestO moreOf
  generalize posL l k x L c l.length = ns at less ⊢
  have tot := filter_bits fair l1 less 0
  have bit : ∀ n ∈ ns, outAt l n = 0 ∨ outAt l n = 1 := fun n hn => by
    have bo := outM_bit fair l1 n
    have eo : outM l n = outAt l n := by
      unfold outM outAt
      rw [Nat.mod_eq_of_lt (less n hn)]
    rwa [eo] at bo
  have h0 : predT ts c = 0 → (ns.filter fun i => decide (predT ts c ≠ outAt l i)) = partL l 1 ns := fun e => by
    unfold partL
    refine List.filter_congr fun n hn => ?_
    rw [e]
    rcases bit n hn with z | z <;> rw [z] <;> rfl
  have h1 : predT ts c = 1 → (ns.filter fun i => decide (predT ts c ≠ outAt l i)) = partL l 0 ns := fun e => by
    unfold partL
    refine List.filter_congr fun n hn => ?_
    rw [e]
    rcases bit n hn with z | z <;> rw [z] <;> rfl
  by_cases c0 : predT ts c = 0
  · rw [h0 c0]
    refine ⟨Nat.min_le_right _ _, fun e => ?_⟩
    rw [c0] at e
    have : ¬ (partL l 0 ns).length < (partL l 1 ns).length := fun z => by rw [if_pos z] at e; cases e
    rw [Nat.min_eq_right (by omega)]
  · by_cases c1 : predT ts c = 1
    · rw [h1 c1]
      refine ⟨Nat.min_le_left _ _, fun e => ?_⟩
      rw [c1] at e
      have : (partL l 0 ns).length < (partL l 1 ns).length := by
        by_cases z : (partL l 0 ns).length < (partL l 1 ns).length
        · exact z
        · rw [if_neg z] at e
          cases e
      rw [Nat.min_eq_left (by omega)]
    · have all : (ns.filter fun i => decide (predT ts c ≠ outAt l i)) = ns := by
        refine List.filter_eq_self.mpr fun n hn => decide_eq_true fun z => ?_
        rcases bit n hn with y | y
        · exact c0 (z.trans y)
        · exact c1 (z.trans y)
      rw [all]
      refine ⟨?_, fun e => ?_⟩
      · have := Nat.min_le_left (partL l 0 ns).length (partL l 1 ns).length
        omega
      · exfalso
        by_cases z : (partL l 0 ns).length < (partL l 1 ns).length
        · rw [if_pos z] at e
          exact c1 e
        · rw [if_neg z] at e
          exact c0 e
theorem wrong_least {l : List (Int × Int)} (fair : Fair l) (l1 : 1 ≤ l.length) {k : Str} {x : Option Int} {L : Nat} (ts : List (CK × Int)) {cs : List CK} (nd : cs.Nodup) (all : ∀ j, j < l.length → sK l k x L j ∈ cs) :
    sumC (pairsC l k x L) cs ≤ (wrongT l k x L ts l.length).length ∧ ((∀ c ∈ cs, predT ts c = bestO l k x L c) → (wrongT l k x L ts l.length).length = sumC (pairsC l k x L) cs) := by
  rw [wrong_sum ts nd all _ (Nat.le_refl _)]
  exact ⟨sumC_le fun c _ => (wrongC_count fair l1 k x L ts c).1, fun h => sumC_eq fun c hc => (wrongC_count fair l1 k x L ts c).2 (h c hc)⟩
/-- what a table made cell by cell says -/
theorem valT_map (g : CK → Int) {c : CK} : ∀ {cs : List CK} {acc : Option Int}, (c ∈ cs ∨ acc = some (g c)) → (cs.map fun c => (c, g c)).foldl (fun o e => if c = e.1 then some e.2 else o) acc = some (g c)
  | [], acc, h => by
    rcases h with h | h
    · exact (nomatch h)
    · exact h
  | d :: cs, acc, h => by
    rw [List.map_cons, List.foldl_cons]
    refine valT_map g ?_
    by_cases e : c = d
    · exact .inr (by rw [if_pos e, e])
    · rw [if_neg e]
      rcases h with h | h
      · exact .inl ((List.mem_cons.mp h).resolve_left e)
      · exact .inr h
theorem predT_map (g : CK → Int) {cs : List CK} {c : CK} (h : c ∈ cs) : predT (cs.map fun c => (c, g c)) c = g c := by
  unfold predT valT
  rw [valT_map g (.inl h)]
  rfl
end Pf
namespace Pf
open PySem PySem.Spec PyProof.Rows L2 Gk Fold
/-! ### dicts of cells, their keys in their order -/
theorem DK.isD {H : Hp} {a : Addr} {k : Str} {f : CK → Option V} {ks : List CK} (d : DK H a k f ks) : IsD H a := by
  rcases d with ⟨t, kvs, h, r⟩ | ⟨t, kvs, h, r⟩
  · exact .inl ⟨kvs, .inl h⟩
  · exact .inr ⟨kvs, .inl h⟩
theorem putK_keys {κ : Type} [DecidableEq κ] {kvs : List (κ × V)} {q : κ} {y : V} : (putK kvs q y).map (·.1) = if valV kvs q = none then kvs.map (·.1) ++ [q] else kvs.map (·.1) := by
  by_cases e : valV kvs q = none
  · rw [if_pos e, putK_new e, List.map_append]
    rfl
  · rw [if_neg e]
    unfold putK
    rw [valV_any, if_pos (by cases h : valV kvs q with
      | none => exact absurd h e
      | some _ => rfl), List.map_map]
    refine List.map_congr_left fun z _ => ?_
    show (if _ then _ else _ : κ × V).1 = z.1
    split <;> rfl
/-- d[c] = v -/
theorem DK.put {k : Str} {x : Option Int} {b : Nat} {h : List Bool} {H : Hp} {K : PySem.W.Frag} {v y : V} {a : Addr} {f : CK → Option V} {ks : List CK} (d : DK H a k f ks) (c : Ck K H v (cellD k x b h)) (hn : ks.length < sizeLine) :
    ∃ H', DPut H a v y H' ∧ DK H' a k (fun q => if q = cK k x b h then some y else f q) (if f (cK k x b h) = none then ks ++ [cK k x b h] else ks) ∧ ∀ z, z ≠ a → H' z = H z := by
  rcases d with ⟨t, kvs, e, ek, l⟩ | ⟨t, kvs, e, ek, l⟩
  · obtain ⟨q, eq, rfl⟩ := cK_inl c t
    rw [eq]
    have lk : kvs.length = ks.length := by rw [← ek, List.length_map]
    refine ⟨_, .inl ⟨kvs, q, e, rfl, by omega, rfl⟩, .inl ⟨t, _, upd_same, ?_, fun r => ?_⟩, fun z hz => upd_ne hz⟩
    · have := putK_keys (kvs := kvs) (q := q) (y := y)
      have m : (putK kvs q y).map (fun e => (Sum.inl e.1 : CK)) = ((putK kvs q y).map (·.1)).map Sum.inl := by rw [List.map_map]; rfl
      rw [m, this, ← l q, ← ek]
      split
      · rw [List.map_append, List.map_map]; rfl
      · rw [List.map_map]; rfl
    · rw [valV_put, l]
      dsimp only
      by_cases er : r = q
      · rw [if_pos er, if_pos (by rw [er])]
      · rw [if_neg er, if_neg (fun z => er (Sum.inl.inj z))]
  · obtain ⟨q, p, eq, rfl, hp⟩ := cK_inr c t
    rw [eq]
    have lk : kvs.length = ks.length := by rw [← ek, List.length_map]
    refine ⟨_, .inr ⟨kvs, q, p, e, rfl, hp, by omega, rfl⟩, .inr ⟨t, _, upd_same, ?_, fun r => ?_⟩, fun z hz => upd_ne hz⟩
    · have := putK_keys (kvs := kvs) (q := q) (y := y)
      have m : (putK kvs q y).map (fun e => (Sum.inr e.1 : CK)) = ((putK kvs q y).map (·.1)).map Sum.inr := by rw [List.map_map]; rfl
      rw [m, this, ← l q, ← ek]
      split
      · rw [List.map_append, List.map_map]; rfl
      · rw [List.map_map]; rfl
    · rw [valV_put, l]
      dsimp only
      by_cases er : r = q
      · rw [if_pos er, if_pos (by rw [er])]
      · rw [if_neg er, if_neg (fun z => er (Sum.inr.inj z))]
end Pf
namespace Gk
open PySem PySem.Spec PySem.Calls PyProof.Rows L2
/-! ### zip over two iterators of any kind, whose pairs stay with the one who asked -/
section
variable {prog : Program} {w : World} {A : Around} {E : Value → Shared → Prop} {s : Shared} {z TI TO i1 i2 T : Addr} {f : Bool} {oT : Obj} {fp1 fp2 : List Addr} {n1 n2 i : Nat} {P1 P2 : Nat → Value → Prop} {St1 St2 : Nat → Heap → Prop}
theorem zipH_next {Q : Value → Shared → Prop} (S : ZipSep2 z TI TO i1 i2 fp1 fp2) (D1 : Draws prog w A i1 fp1 n1 P1 St1) (D2 : Draws prog w A i2 fp2 n2 P2 St2) (hz : IsZipHeld s.heap z TI TO T f) (hT : s.heap.get? T = some oT)
    (hTI : IsTupOf2 s.heap TI (.ref i1) (.ref i2)) (st1 : St1 i s.heap) (st2 : St2 i s.heap) (lt1 : i < n1) (lt2 : i < n2)
    (hQ : ∀ x1 x2 h' tk, P1 i x1 → P2 i x2 → IsZipHeld h' z TI TO T true → St1 (i + 1) h' → St2 (i + 1) h' → IsTupOf2 h' s.heap.objs.size x1 x2 → h'.objs.size = s.heap.objs.size + 1 →
      (∀ c o, c ≠ z → c ≠ i1 → c ≠ i2 → s.heap.get? c = some o → h'.get? c = some o) → Q (.ref s.heap.objs.size) { s with heap := h', toks := tk }) :
    wpAny (model prog w) A (Builtin.«zip.__next__» ⟨[.ref z], []⟩) (fun fin s' => ∃ v, fin = .done (.ret v) ∧ Q v s') E s := by
  obtain ⟨hp, g, d, tk0, os⟩ := s
  show wpAny _ _ (field (.ref z) 2 >>= _) _ _ _; refine wpAny_bind (wpAny_field hz rfl (x := .bool false) rfl ?_)
  show wpAny _ _ (field (.ref z) 3 >>= _) _ _ _; refine wpAny_bind (wpAny_field hz rfl (x := .ref TI) rfl ?_)
  refine wpAny_bind (wpAny_seqItems hTI rfl ?_); show wpAny _ _ (Builtin.SmallTypes.ownedTupleIsFree (.ref z) >>= _) _ _ _
  refine wpAny_bind (wpAny_tupleHeld_zip hz hT fun g0 hz0 hs0 => ?_); simp only [Bool.false_eq_true, if_false]
  replace hs0 : Heap.SameBut z hp g0 := hs0
  refine wpAny_bind ?_; rw [← Array.forIn_toList]; simp only [List.forIn_cons, List.forIn_nil]
  refine wpAny_bind (wpAny_bind (wpAny_holding ?_)); show wpAny _ _ (Builtin.SmallTypes.nextOf (.ref i1) >>= _) _ _ ⟨g0, g, d, tk0, os⟩
  refine wpAny_bind (D1.item i _ _ _ lt1 (D1.over st1 hs0 S.zf1) fun x1 p1 tk1 hx1 sn1 hp1 => wpAny_pure ?_); refine wpAny_pure ?_
  replace hp1 : Heap.SameBut i1 g0 p1 := hp1; refine wpAny_bind (wpAny_bind (wpAny_holding ?_)); show wpAny _ _ (Builtin.SmallTypes.nextOf (.ref i2) >>= _) _ _ ⟨p1, g, d, tk1, os⟩
  refine wpAny_bind (D2.item i _ _ _ lt2 (D2.over (D2.over st2 hs0 S.zf2) hp1 S.sep1_2) fun x2 p2 tk2 hx2 sn2 hp2 => wpAny_pure ?_); refine wpAny_pure (wpAny_pure ?_)
  replace hp2 : Heap.SameBut i2 p1 p2 := hp2; show wpAny _ _ (newTuple [x1, x2] >>= _) _ _ ⟨p2, g, d, tk2, os⟩; refine wpAny_bind (wpAny_newTuple ?_)
  have same : p2.objs.size = hp.objs.size := by rw [hp2.1, hp1.1, hs0.1]
  have held2 : IsZipHeld p2 z TI TO T true := hp2.extBut _ _ S.zi2 (hp1.extBut _ _ S.zi1 hz0)
  have stay2 : ∀ c o, c ≠ z → c ≠ i1 → c ≠ i2 → hp.get? c = some o → p2.get? c = some o := fun c o a b e q => hp2.extBut _ _ e (hp1.extBut _ _ b (hs0.extBut _ _ a q))
  refine wpAny_pure ⟨_, rfl, ?_⟩; show Q (.ref p2.objs.size) _
  have pair2 : IsTupOf2 (p2.push { cls := .type "tuple", data := .seq #[x1, x2] }) p2.objs.size x1 x2 := Heap.get?_push_size _ rfl
  have size2 : (p2.push { cls := .type "tuple", data := .seq #[x1, x2] }).objs.size = p2.objs.size + 1 := Heap.size_push ..
  rw [same] at pair2 size2 ⊢
  exact hQ x1 x2 _ tk2 hx1 hx2 (Heap.get?_push_of_some _ held2) (D1.frame _ _ _ (D1.over sn1 hp2 S.sep2_1) fun b _ o e => Heap.get?_push_of_some _ e) (D2.frame _ _ _ sn2 fun b _ o e => Heap.get?_push_of_some _ e) pair2 size2
    fun c o a b e q => Heap.get?_push_of_some _ (stay2 c o a b e q)
theorem zipH_over {Q : Fin → Shared → Prop} (S : ZipSep2 z TI TO i1 i2 fp1 fp2) (D1 : Draws prog w A i1 fp1 n1 P1 St1) (hz : IsZipHeld s.heap z TI TO T f) (hT : s.heap.get? T = some oT)
    (hTI : IsTupOf2 s.heap TI (.ref i1) (.ref i2)) (st1 : St1 n1 s.heap)
    (hE : ∀ h' e, (∀ c o, c ≠ z → c ≠ i1 → s.heap.get? c = some o → h'.get? c = some o) → (∃ o, h'.get? e = some o ∧ o.cls = .type "StopIteration") → E (.ref e) { s with heap := h' }) :
    wpAny (model prog w) A (Builtin.«zip.__next__» ⟨[.ref z], []⟩) Q E s := by
  obtain ⟨hp, g, d, tk0, os⟩ := s
  show wpAny _ _ (field (.ref z) 2 >>= _) _ _ _; refine wpAny_bind (wpAny_field hz rfl (x := .bool false) rfl ?_)
  show wpAny _ _ (field (.ref z) 3 >>= _) _ _ _; refine wpAny_bind (wpAny_field hz rfl (x := .ref TI) rfl ?_)
  refine wpAny_bind (wpAny_seqItems hTI rfl ?_); show wpAny _ _ (Builtin.SmallTypes.ownedTupleIsFree (.ref z) >>= _) _ _ _
  refine wpAny_bind (wpAny_tupleHeld_zip hz hT fun g0 hz0 hs0 => ?_); simp only [Bool.false_eq_true, if_false]
  replace hs0 : Heap.SameBut z hp g0 := hs0
  refine wpAny_bind ?_; rw [← Array.forIn_toList]; simp only [List.forIn_cons, List.forIn_nil]
  refine wpAny_bind (wpAny_bind (wpAny_holding ?_)); show wpAny _ _ (Builtin.SmallTypes.nextOf (.ref i1) >>= _) _ _ ⟨g0, g, d, tk0, os⟩
  refine wpAny_bind (D1.done ⟨g0, g, d, tk0, os⟩ _ _ (D1.over st1 hs0 S.zf1) fun q e hq he => ?_); exact hE q e (fun c o a b x => hq _ _ b (hs0.extBut _ _ a x)) he
end
/-- a zip that gave out no pair yet, or whose pair T stands -/
def ZOn (z TI TO M : Addr) (h : Heap) : Prop := (IsZip h z TI TO .none ∧ ∃ a b, IsTupOf2 h TO a b) ∨ ∃ (T : Addr) (f : Bool) (o : Obj), IsZipHeld h z TI TO T f ∧ h.get? T = some o ∧ M ≤ T
section
variable {prog : Program} {w : World} {A : Around} {E : Value → Shared → Prop} {s : Shared} {z TI TO i1 i2 M : Addr} {fp1 fp2 : List Addr} {n i : Nat} {P1 P2 : Nat → Value → Prop} {St1 St2 : Nat → Heap → Prop}
theorem zl_next {Q : Option Value → Shared → Prop} (S : ZipSep2 z TI TO i1 i2 fp1 fp2) (D1 : Draws prog w A.in1 i1 fp1 n P1 St1) (D2 : Draws prog w A.in1 i2 fp2 n P2 St2) (on : ZOn z TI TO M s.heap) (hM : M ≤ s.heap.objs.size) (zM : z < M) (aM : i1 < M) (bM : i2 < M)
    (hTI : IsTupOf2 s.heap TI (.ref i1) (.ref i2)) (st1 : St1 i s.heap) (st2 : St2 i s.heap) (lt : i < n)
    (hQ : ∀ x1 x2 h' tk, P1 i x1 → P2 i x2 → ZOn z TI TO M h' → St1 (i + 1) h' → St2 (i + 1) h' → IsTupOf2 h' s.heap.objs.size x1 x2 → h'.objs.size = s.heap.objs.size + 1 →
      (∀ c o, c ≠ z → c ≠ TO → c ≠ i1 → c ≠ i2 → s.heap.get? c = some o → h'.get? c = some o) → Q (some (.ref s.heap.objs.size)) { s with heap := h', toks := tk }) :
    wpAny (model prog w) A (pyNext (.ref z)) Q E s := by
  rcases on with ⟨hz, a, b, hTO⟩ | ⟨T, f, o, hz, hT, mT⟩
  · refine wpAny_pyNext_zipD2_item S D1 D2 hz hTI hTO st1 st2 lt lt fun x1 x2 h' tk y1 y2 b1 b2 d1 d2 b5 b6 hk => ?_
    exact hQ x1 x2 h' tk y1 y2 (.inr ⟨s.heap.objs.size, false, _, b1, b5, hM⟩) d1 d2 b5 b6 hk
  · have hTy : s.TypeIs (.ref z) "zip" := ⟨_, hz, rfl⟩
    unfold pyNext
    refine wpAny_bind (wpAny_attempt (wpAny_callSpecial?_slot (name := Str.ofString "__next__") hTy F.slot_zip_next (wpAny_call_entry F.slot_zip_next hTy F.entry_zip_next (zipH_next S D1 D2 hz hT hTI st1 st2 lt lt fun x1 x2 h' tk y1 y2 b1 d1 d2 b5 b6 hk => wpAny_pure ?_) (F.args_zip_next_1 _))))
    exact hQ x1 x2 h' tk y1 y2 (.inr ⟨T, true, o, b1, hk T o (Nat.ne_of_gt (Nat.lt_of_lt_of_le zM mT)) (Nat.ne_of_gt (Nat.lt_of_lt_of_le aM mT)) (Nat.ne_of_gt (Nat.lt_of_lt_of_le bM mT)) hT, mT⟩) d1 d2 b5 b6 fun c o a _ b e q => hk c o a b e q
theorem zl_over {Q : Option Value → Shared → Prop} (S : ZipSep2 z TI TO i1 i2 fp1 fp2) (D1 : Draws prog w A.in1 i1 fp1 n P1 St1) (D2 : Draws prog w A.in1 i2 fp2 n P2 St2) (on : ZOn z TI TO M s.heap) (hTI : IsTupOf2 s.heap TI (.ref i1) (.ref i2)) (st1 : St1 n s.heap) (st2 : St2 n s.heap)
    (hQ : ∀ h' tk, (∀ c o, c ≠ z → c ≠ TO → c ≠ i1 → c ≠ i2 → s.heap.get? c = some o → h'.get? c = some o) → Q none { s with heap := h', toks := tk }) :
    wpAny (model prog w) A (pyNext (.ref z)) Q E s := by
  rcases on with ⟨hz, a, b, hTO⟩ | ⟨T, f, o, hz, hT, mT⟩
  · exact wpAny_pyNext_zipD2_end S D1 D2 hz hTI hTO st1 st2 (Nat.le_refl _) (Nat.le_refl _) (.inl rfl) hQ
  · have hTy : s.TypeIs (.ref z) "zip" := ⟨_, hz, rfl⟩
    unfold pyNext
    refine wpAny_bind (wpAny_attempt (wpAny_callSpecial?_slot (name := Str.ofString "__next__") hTy F.slot_zip_next (wpAny_call_entry F.slot_zip_next hTy F.entry_zip_next (zipH_over S D1 hz hT hTI st1 fun h' e hk he => ?_) (F.args_zip_next_1 _))))
    obtain ⟨x, hx, hc⟩ := he
    refine wpAny_bind (wpAny_isInstance (T := "StopIteration") (b := true) ⟨x, hx, hc⟩ isSubtype_stop ?_); exact wpAny_pure (hQ h' s.toks fun c o a _ b _ q => hk c o a b q)
end
/-- the pairs that were given out -/
structure ZG (P1 P2 : Nat → Value → Prop) (M : Addr) (h : Heap) (as : List Addr) : Prop where
  rise : as.Pairwise (· < ·)
  up : ∀ a ∈ as, M ≤ a
  two : ∀ (j : Nat) (a : Addr), as[j]? = some a → ∃ x y, P1 j x ∧ P2 j y ∧ IsTupOf2 h a x y
theorem ZG.lt {P1 P2 : Nat → Value → Prop} {M : Addr} {h : Heap} {as : List Addr} (g : ZG P1 P2 M h as) {a : Addr} (ha : a ∈ as) : a < h.objs.size := by
  obtain ⟨j, hj⟩ := List.mem_iff_getElem?.mp ha
  obtain ⟨_, _, _, _, e⟩ := g.two j a hj
  exact Heap.lt_size e
abbrev lstO (acc : Array Value) (c : Nat) : Obj := { cls := .type "list", dict := none, data := .seq acc c, slots := #[] }
section
variable {prog : Program} {w : World} {A : Around} {s : Shared} {R : Result → Shared → Prop} {z TI TO i1 i2 M S : Addr} {fp1 fp2 : List Addr} {n : Nat} {P1 P2 : Nat → Value → Prop} {St1 St2 : Nat → Heap → Prop}
theorem zl_loop (Zs : ZipSep2 z TI TO i1 i2 fp1 fp2) (D1 : Draws prog w A.in1.in1 i1 fp1 n P1 St1) (D2 : Draws prog w A.in1.in1 i2 fp2 n P2 St2) (o1 : S ∉ fp1) (o2 : S ∉ fp2) (oz : S ≠ z) (oI : S ≠ TI) (oO : S ≠ TO)
    (zM : z < M) (TM : TO < M) (aM : i1 < M) (bM : i2 < M) (SM : S < M) (hn : n ≤ 1000) (res : Value) {h₁ : Heap}
    (hR : ∀ h' tk acc c as, (∀ b o, b ≠ S → b ≠ z → b ≠ TO → b ≠ i1 → b ≠ i2 → h₁.get? b = some o → h'.get? b = some o) → h'.get? S = some (lstO acc c) → as.length = n → ZG P1 P2 M h' as → acc.toList = as.map Value.ref → R (.ok (.ret res)) { s with heap := h', toks := tk }) :
    ∀ (k i : Nat) (h : Heap) (tk c : Nat) (acc : Array Value) (as : List Addr), n - i = k → i ≤ n → ZOn z TI TO M h → IsTupOf2 h TI (.ref i1) (.ref i2) → St1 i h → St2 i h → (∀ b o, b ≠ S → b ≠ z → b ≠ TO → b ≠ i1 → b ≠ i2 → h₁.get? b = some o → h.get? b = some o) →
      h.get? S = some (lstO acc c) → acc.toList = as.map Value.ref → as.length = i → ZG P1 P2 M h as → M ≤ h.objs.size →
      codeAny (model prog w) A (.builtin "list.extend.loop" ⟨[.ref S, .ref z, res], []⟩) R { s with heap := h, toks := tk } := by
  have i1S : S ≠ i1 := fun e => o1 (e ▸ Zs.mem1)
  have i2S : S ≠ i2 := fun e => o2 (e ▸ Zs.mem2)
  have far : ∀ {a b : Addr}, b < M → M ≤ a → a ≠ b := fun h1 h2 => Nat.ne_of_gt (Nat.lt_of_lt_of_le h1 h2)
  intro k
  induction k with
  | zero =>
    intro i h tk c acc as hk hi on tI s1 s2 keep hS hacc hal hG hM
    obtain rfl : i = n := by omega
    refine codeAny_builtin PySem.F.entry_extend_loop ?_; rw [Around.under_plainId PySem.F.plain_extend_loop _]; show wpAny _ A.in1 (pyNext (.ref z) >>= _) _ _ _
    refine wpAny_bind (zl_over (s := { s with heap := h, toks := tk }) (A := A.in1) Zs D1 D2 on tI s1 s2 fun h' tk' hk' => ?_)
    refine wpAny_pure (hR h' tk' acc c as (fun b o b1 b2 b3 b4 b5 e => hk' b o b2 b3 b4 b5 (keep b o b1 b2 b3 b4 b5 e)) (hk' S _ oz oO i1S i2S hS) hal ⟨hG.rise, hG.up, fun j a hj => ?_⟩ hacc)
    obtain ⟨x, y, e1, e2, e3⟩ := hG.two j a hj
    have ma := hG.up a (List.mem_of_getElem? hj)
    exact ⟨x, y, e1, e2, hk' a _ (far zM ma) (far TM ma) (far aM ma) (far bM ma) e3⟩
  | succ k ih =>
    intro i h tk c acc as hk hi on tI s1 s2 keep hS hacc hal hG hM
    have lt : i < n := by omega
    have hsz : acc.size = i := by rw [← Array.length_toList, hacc, List.length_map, hal]
    refine codeAny_builtin PySem.F.entry_extend_loop ?_; rw [Around.under_plainId PySem.F.plain_extend_loop _]; show wpAny _ A.in1 (pyNext (.ref z) >>= _) _ _ _
    refine wpAny_bind (zl_next (s := { s with heap := h, toks := tk }) (A := A.in1) Zs D1 D2 on hM zM aM bM tI s1 s2 lt fun x1 x2 h' tk' hx1 hx2 on' s1' s2' pr sz hk' => ?_)
    dsimp only at pr sz hk' ⊢
    have hS' : h'.get? S = some (lstO acc c) := hk' S _ oz oO i1S i2S hS
    have new : h'.get? S = some (lstO acc c) → Heap.SameBut S h' (h'.update S (Obj.mapSeq (·.push (Value.ref h.objs.size)))) := fun _ => Heap.SameBut.update ..
    have upd' := new hS'
    have st : ∀ b o, b ≠ S → h'.get? b = some o → (h'.update S (Obj.mapSeq (·.push (Value.ref h.objs.size)))).get? b = some o := fun b o hb e => upd'.extBut _ _ hb e
    have SN : S < h.objs.size := Nat.lt_of_lt_of_le SM hM
    show wpAny _ A.in1 (updateSeq S (·.push (Value.ref h.objs.size)) >>= _) _ _ _
    have l1 : acc.size + 1 ≤ sizeLine := by rw [hsz, sizeLine_eq]; omega
    have on2 : ZOn z TI TO M (h'.update S (Obj.mapSeq (·.push (Value.ref h.objs.size)))) := by
      rcases on' with ⟨hz, a, b, hO⟩ | ⟨T, f, o, hz, hT, mT⟩
      · exact .inl ⟨st _ _ oz.symm hz, a, b, st _ _ oO.symm hO⟩
      · exact .inr ⟨T, f, o, st _ _ oz.symm hz, st _ _ (far SM mT) hT, mT⟩
    have tI' : IsTupOf2 h' TI (.ref i1) (.ref i2) := hk' _ _ Zs.TIz Zs.TITO Zs.TIi1 Zs.TIi2 tI
    refine wpAny_bind (wpAny_updateSeq hS' rfl (wpAny_pure ⟨plainId_quiet PySem.F.plain_extend_loop _, ih (i + 1) _ tk' _ (acc.push (Value.ref h.objs.size)) (as ++ [h.objs.size]) (by omega) lt on2 (st _ _ oI.symm tI')
      (D1.over s1' upd' o1) (D2.over s2' upd' o2) (fun b o b1 b2 b3 b4 b5 e => st b o b1 (hk' b o b2 b3 b4 b5 (keep b o b1 b2 b3 b4 b5 e))) (Heap.get?_update_self _ hS' rfl) (by rw [Array.toList_push, hacc, List.map_append]; rfl) (by rw [List.length_append, hal]; rfl) ⟨?_, ?_, ?_⟩ ?_⟩)
      (by omega) (by show (acc.push (Value.ref h.objs.size)).size ≤ _; rw [Array.size_push]; omega))
    · refine List.pairwise_append.mpr ⟨hG.rise, List.pairwise_singleton _ _, fun a ha b hb => ?_⟩; rw [List.mem_singleton.mp hb]; exact hG.lt ha
    · intro a ha
      rcases List.mem_append.mp ha with ha | ha
      · exact hG.up a ha
      · rw [List.mem_singleton.mp ha]; exact hM
    · intro j b hj
      rcases Nat.lt_or_ge j as.length with h1 | h1
      · rw [List.getElem?_append_left h1] at hj
        obtain ⟨x, y, e1, e2, e3⟩ := hG.two j b hj
        have mb := hG.up b (List.mem_of_getElem? hj)
        exact ⟨x, y, e1, e2, st b _ (far SM mb) (hk' b _ (far zM mb) (far TM mb) (far aM mb) (far bM mb) e3)⟩
      · rw [List.getElem?_append_right h1] at hj
        obtain ⟨j0, eb⟩ : j - as.length = 0 ∧ h.objs.size = b := by
          cases hd : j - as.length with
          | zero => rw [hd] at hj; exact ⟨rfl, Option.some.inj hj⟩
          | succ m => rw [hd] at hj; exact absurd hj (by simp)
        have ej : j = i := by omega
        subst ej
        subst eb
        exact ⟨x1, x2, hx1, hx2, st _ _ (Nat.ne_of_gt SN) pr⟩
    · have e : (h'.update S (Obj.mapSeq (·.push (Value.ref h.objs.size)))).get? h.objs.size = _ := st _ _ (Nat.ne_of_gt SN) pr
      exact Nat.le_of_lt (Nat.lt_of_le_of_lt hM (Heap.lt_size e))
end
theorem zip_no_len : typeLookup (.type "zip") "__len__" = pure none := by rw [typeLookup_type, builtinLookup_eq_fast]; kernel_rfl
theorem zip_no_hint : typeLookup (.type "zip") "__length_hint__" = pure none := by rw [typeLookup_type, builtinLookup_eq_fast]; kernel_rfl
section
variable {prog : Program} {w : World} {A : Around} {s : Shared} {R : Result → Shared → Prop} {z TI TO i1 i2 M S : Addr} {fp1 fp2 : List Addr} {n : Nat} {P1 P2 : Nat → Value → Prop} {St1 St2 : Nat → Heap → Prop}
theorem zl_extend (Zs : ZipSep2 z TI TO i1 i2 fp1 fp2) (D1 : Draws prog w A.in1.in1 i1 fp1 n P1 St1) (D2 : Draws prog w A.in1.in1 i2 fp2 n P2 St2) (o1 : S ∉ fp1) (o2 : S ∉ fp2) (oz : S ≠ z) (oI : S ≠ TI) (oO : S ≠ TO)
    (zM : z < M) (TM : TO < M) (aM : i1 < M) (bM : i2 < M) (SM : S < M) (hn : n ≤ 1000) (res : Value) (c₀ : Nat) (hz : IsZip s.heap z TI TO .none) (hO : ∃ a b, IsTupOf2 s.heap TO a b) (tI : IsTupOf2 s.heap TI (.ref i1) (.ref i2)) (s1 : St1 0 s.heap) (s2 : St2 0 s.heap)
    (hS : s.heap.get? S = some (lstO #[] c₀)) (hM : M ≤ s.heap.objs.size)
    (hR : ∀ h' tk acc c as, (∀ b o, b ≠ S → b ≠ z → b ≠ TO → b ≠ i1 → b ≠ i2 → s.heap.get? b = some o → h'.get? b = some o) → h'.get? S = some (lstO acc c) → as.length = n → ZG P1 P2 M h' as → acc.toList = as.map Value.ref → R (.ok (.ret res)) { s with heap := h', toks := tk }) :
    wpAny (model prog w) A.in1 (Builtin.List.listExtendWith (.ref S) (.ref z) res) (fun fin s' => match fin with | .done f => R (.ok f) s' | .again c' => c'.quiet = true ∧ codeAny (model prog w) A c' R s') (fun e s' => R (.error e) s') s := by
  have hT : s.TypeIs (.ref z) "zip" := ⟨_, hz, rfl⟩
  unfold Builtin.List.listExtendWith; refine wpAny_bind (wpAny_typeOf hT ?_)
  have g1 : Builtin.List.listSameRef (.ref S) (.ref z) = false := by simp [Builtin.List.listSameRef, oz]
  have g2 : (Value.type "zip" == Value.type "list") = false := by decide
  have g3 : (Value.type "zip" == Value.type "tuple") = false := by decide
  simp only [g1, g2, g3, Bool.or_false, Bool.false_eq_true, if_false]; refine wpAny_bind (wpAny_pyIter_zip hz ?_)
  refine wpAny_bind (wpAny_holding ?_); unfold Builtin.List.listLengthHint; refine wpAny_bind (wpAny_specialOf hT zip_no_len ?_)
  show wpAny _ A.in1 (specialOf (Value.ref z) (Str.ofString "__length_hint__") >>= _) _ _ _; refine wpAny_bind (wpAny_specialOf hT zip_no_hint ?_); refine wpAny_pure ?_
  show wpAny _ A.in1 (rule "list.extend.makes-room" >>= fun _ => Builtin.List.listTouch (.ref S) >>= fun _ => again (.builtin "list.extend.loop" ⟨[.ref S, .ref z, res], []⟩)) _ _ _
  refine wpAny_bind (wpAny_rule ?_); refine wpAny_bind ?_; show wpAny _ A.in1 (updateSeq S (·.push .none) >>= fun _ => updateSeq S (·.pop)) _ _ _
  refine wpAny_bind (wpAny_updateSeq hS rfl ?_)
  have hS₂ := Heap.get?_update_self (Obj.mapSeq (·.push Value.none)) hS rfl; refine wpAny_updateSeq (hz := by seq_fits) hS₂ rfl ?_
  have hS₃ := Heap.get?_update_self (Obj.mapSeq (·.pop)) hS₂ rfl
  have b1 : Heap.SameBut S s.heap (s.heap.update S (Obj.mapSeq (·.push .none))) := Heap.SameBut.update ..
  have b2 : Heap.SameBut S (s.heap.update S (Obj.mapSeq (·.push .none))) ((s.heap.update S (Obj.mapSeq (·.push .none))).update S (Obj.mapSeq (·.pop))) := Heap.SameBut.update ..
  have st : ∀ b o, b ≠ S → s.heap.get? b = some o → ((s.heap.update S (Obj.mapSeq (·.push .none))).update S (Obj.mapSeq (·.pop))).get? b = some o := fun b o hb e => b2.extBut _ _ hb (b1.extBut _ _ hb e)
  obtain ⟨a, b, hO⟩ := hO
  exact wpAny_pure ⟨plainId_quiet PySem.F.plain_extend_loop _, zl_loop (s := s) (h₁ := s.heap) Zs D1 D2 o1 o2 oz oI oO zM TM aM bM SM hn res hR n 0 _ s.toks _ #[] [] (Nat.sub_zero _) (Nat.zero_le _) (.inl ⟨st _ _ oz.symm hz, a, b, st _ _ oO.symm hO⟩) (st _ _ oI.symm tI)
    (D1.over (D1.over s1 b1 o1) b2 o1) (D2.over (D2.over s2 b1 o2) b2 o2) (fun b o hb _ _ _ _ e => st b o hb e) hS₃ rfl rfl ⟨List.Pairwise.nil, (fun _ h => nomatch h), fun j a h => by simp at h⟩ (by rw [b2.1, b1.1]; exact hM)⟩
end
section
variable {prog : Program} {w : World} {A : Around} {E : Value → Shared → Prop} {s : Shared} {z TI TO i1 i2 : Addr} {fp1 fp2 : List Addr} {n : Nat} {P1 P2 : Nat → Value → Prop} {St1 St2 : Nat → Heap → Prop}
/-- list(z), z a zip that gave out nothing yet -/
theorem call_list_zip {Q : Value → Shared → Prop} (Zs : ZipSep2 z TI TO i1 i2 fp1 fp2) (D1 : Draws prog w A.in1.in1.in1 i1 fp1 n P1 St1) (D2 : Draws prog w A.in1.in1.in1 i2 fp2 n P2 St2) (l1 : ∀ b ∈ fp1, b < s.heap.objs.size) (l2 : ∀ b ∈ fp2, b < s.heap.objs.size)
    (hn : n ≤ 1000) (hz : IsZip s.heap z TI TO .none) (hO : ∃ a b, IsTupOf2 s.heap TO a b) (tI : IsTupOf2 s.heap TI (.ref i1) (.ref i2)) (s1 : St1 0 s.heap) (s2 : St2 0 s.heap)
    (hQ : ∀ h' tk acc c as, (∀ b o, b ≠ z → b ≠ TO → b ≠ i1 → b ≠ i2 → s.heap.get? b = some o → h'.get? b = some o) → h'.get? s.heap.objs.size = some (lstO acc c) → as.length = n → ZG P1 P2 (s.heap.objs.size + 1) h' as → acc.toList = as.map Value.ref → Q (.ref s.heap.objs.size) { s with heap := h', toks := tk }) :
    wpAny (model prog w) A (call (.type "list") [.ref z]) Q E s := by
  have new : (s.heap.push { cls := .type "list", data := .seq #[] }).get? s.heap.objs.size = some { cls := .type "list", data := .seq #[] } := Heap.get?_push_size _ rfl
  have kp : ∀ b o, s.heap.get? b = some o → (s.heap.push { cls := .type "list", data := .seq #[] }).get? b = some o := fun b o e => Heap.get?_push_of_some _ e
  have sz : (s.heap.push { cls := .type "list", data := .seq #[] }).objs.size = s.heap.objs.size + 1 := Heap.size_push ..
  have zl : z < s.heap.objs.size := Heap.lt_size hz
  have Il : TI < s.heap.objs.size := Heap.lt_size tI
  obtain ⟨a, b, hO⟩ := hO
  have Ol : TO < s.heap.objs.size := Heap.lt_size hO
  have al := l1 _ Zs.mem1
  have bl := l2 _ Zs.mem2
  have n1 : s.heap.objs.size ∉ fp1 := fun h => Nat.lt_irrefl _ (l1 _ h)
  have n2 : s.heap.objs.size ∉ fp2 := fun h => Nat.lt_irrefl _ (l2 _ h)
  refine callType_codes (Q₁ := fun x t => x = .ref s.heap.objs.size ∧ t = { s with heap := s.heap.push { cls := .type "list", data := .seq #[] } }) PySem.F.called_list (PySem.F.typeCall_list_1 _) PySem.F.entry_list_init (code_list_new _ ⟨rfl, rfl⟩) fun x t hx => ?_
  obtain ⟨rfl, rfl⟩ := hx
  refine ⟨⟨_, new, rfl⟩, PySem.F.args_list_init_2 _ _, ?_⟩
  show wpAny _ _ (do let old ← Builtin.List.listItems (.ref s.heap.objs.size); Builtin.List.listUpdate (.ref s.heap.objs.size) (fun _ => #[]); letGo old.toList.reverse; Builtin.List.listExtendWith (.ref s.heap.objs.size) (.ref z) .none) _ _ _
  refine wpAny_bind ?_; unfold Builtin.List.listItems; refine wpAny_bind (wpAny_seqItems new rfl (wpAny_pure ?_))
  show wpAny _ _ (updateSeq s.heap.objs.size (fun _ => #[]) >>= fun _ => letGo (#[] : Array Value).toList.reverse >>= fun _ => Builtin.List.listExtendWith (.ref s.heap.objs.size) (.ref z) .none) _ _ _
  refine wpAny_bind (wpAny_updateSeq new rfl ?_)
  have new2 := Heap.get?_update_self (Obj.mapSeq (fun _ => (#[] : Array Value))) new rfl
  have b1 : Heap.SameBut s.heap.objs.size (s.heap.push { cls := .type "list", data := .seq #[] }) ((s.heap.push { cls := .type "list", data := .seq #[] }).update s.heap.objs.size (Obj.mapSeq (fun _ => (#[] : Array Value)))) := Heap.SameBut.update ..
  have st : ∀ b o, s.heap.get? b = some o → ((s.heap.push { cls := .type "list", data := .seq #[] }).update s.heap.objs.size (Obj.mapSeq (fun _ => (#[] : Array Value)))).get? b = some o := fun b o e => b1.extBut _ _ (Nat.ne_of_lt (Heap.lt_size e)) (kp b o e)
  refine wpAny_bind (wpAny_letGo ?_)
  refine zl_extend (A := A.in1) (M := s.heap.objs.size + 1) Zs D1 D2 n1 n2 (Nat.ne_of_gt zl) (Nat.ne_of_gt Il) (Nat.ne_of_gt Ol) (Nat.lt_succ_of_lt zl) (Nat.lt_succ_of_lt Ol) (Nat.lt_succ_of_lt al) (Nat.lt_succ_of_lt bl) (Nat.lt_succ_self _) hn .none _
    (st _ _ hz) ⟨a, b, st _ _ hO⟩ (st _ _ tI) (D1.frame _ _ _ s1 fun b _ o e => st b o e) (D2.frame _ _ _ s2 fun b _ o e => st b o e) new2 (by rw [b1.1, sz]; exact Nat.le_refl _) fun h' tk acc c as k e1 e2 g e3 => ?_
  exact ⟨rfl, hQ h' tk acc c as (fun b o b1 b2 b3 b4 e => k b o (Nat.ne_of_lt (Heap.lt_size e)) b1 b2 b3 b4 (st b o e)) e1 e2 g e3⟩
end
end Gk
namespace Gk
open PySem PySem.Spec PySem.Calls PyProof.Rows L2
/-! ### list(zip(t, l)), a tuple and a list -/
theorem laid_many {X : Cx} {pins : List (Addr × Obj)} {σ : L2.St} {H H' : Hp} {s : Shared} {h' : Heap} {t' : Nat} (I : Inv X pins σ H s) (k : ∀ b u, s.heap.get? b = some u → h'.get? b = some u) (old : ∀ b o, H b = some o → H' b = some o)
    (new : ∀ b o, H' b = some o → H b = some o ∨ (s.heap.objs.size ≤ b ∧ ObjOk X.prog X.w H' h' b o)) : Inv X pins σ H' { s with heap := h', toks := t' } := by
  refine I.un (t' := t') (h' := h') ⟨fun b u q _ _ _ => k b u q, fun b u q _ _ _ => ⟨u.slots, k b u q⟩, fun b u q n _ => ?_, fun b u q _ => ⟨u, k b u q⟩, fun b xs q => old b _ q, fun b o u q => old b _ q, fun b ps q => ⟨#[], by rw [old b _ q]; simp⟩⟩ fun b o q => ?_
  · cases e : H' b with
    | none => rfl
    | some o =>
      rcases new b o e with h | ⟨h, _⟩
      · rw [n] at h
        cases h
      · exact absurd (Heap.lt_size q) (Nat.not_lt.mpr h)
  · rcases new b o q with h | ⟨_, h⟩
    · exact (I.hok b o h).stay (fun c v _ z => k c v z) (fun c z => old c _ z) fun c xs z => old c _ z
    · exact h
/-- new pairs -/
def layP : List (Addr × V × V) → Hp → Hp
  | [], H => H
  | p :: r, H => upd (layP r H) p.1 (.tup [p.2.1, p.2.2])
theorem layP_inv : ∀ {ps : List (Addr × V × V)} {H : Hp} {b : Addr} {o : HO}, layP ps H b = some o → H b = some o ∨ ∃ p ∈ ps, p.1 = b ∧ o = .tup [p.2.1, p.2.2]
  | [], _, _, _, h => .inl h
  | p :: r, H, b, o, h => by
    unfold layP at h
    by_cases e : b = p.1
    · rw [e, upd_same] at h
      exact .inr ⟨p, List.mem_cons_self, e.symm, (Option.some.inj h).symm⟩
    · rw [upd_ne e] at h
      rcases layP_inv h with h | ⟨q, hq, e1, e2⟩
      · exact .inl h
      · exact .inr ⟨q, List.mem_cons_of_mem _ hq, e1, e2⟩
theorem layP_old : ∀ {ps : List (Addr × V × V)} {H : Hp} {b : Addr} {o : HO}, (∀ p ∈ ps, p.1 ≠ b) → H b = some o → layP ps H b = some o
  | [], _, _, _, _, h => h
  | p :: r, H, b, o, n, h => by
    unfold layP
    rw [upd_ne (Ne.symm (n p List.mem_cons_self))]
    exact layP_old (fun q hq => n q (List.mem_cons_of_mem _ hq)) h
theorem layP_at : ∀ {ps : List (Addr × V × V)} {H : Hp} {p : Addr × V × V}, ps.Pairwise (fun p q => p.1 ≠ q.1) → p ∈ ps → layP ps H p.1 = some (.tup [p.2.1, p.2.2])
  | [], _, _, _, h => absurd h List.not_mem_nil
  | q :: r, H, p, w, h => by
    unfold layP
    obtain ⟨w1, w2⟩ := List.pairwise_cons.mp w
    rcases List.mem_cons.mp h with rfl | h
    · exact upd_same
    · rw [upd_ne (Ne.symm (w1 p h))]
      exact layP_at w2 h
theorem ad_ne {b N k : Nat} (h : b < N) : b ≠ N + k := by omega
theorem ad_lt {b N m : Nat} (e : m = N + 5) (h : b ≤ N + 1) : b < m := by omega
theorem ad_le {N m : Nat} (e : m = N + 5) : N ≤ m := by omega
theorem ad_up {a N m : Nat} (e : m = N + 5) (h : m + 1 ≤ a) : N ≤ a := by omega
section
variable {X : Cx}
def tLstZip (K : PySem.W.Frag) (ta : TA) : TE := fun σ H Q => ta σ H fun vs H1 => ∃ (t l : Addr) (xs ys : List V), vs = [.ref t, .ref l] ∧ SqT K H1 t xs ∧ SqL K H1 l ys ∧ xs.length = ys.length ∧ xs.length ≤ 1000 ∧
  ∀ H2 q zs, Same H1 H2 → H1 q = none → H2 q = some (.lst zs) → zs.length = xs.length → (∀ (j : Nat) (u : V), zs[j]? = some u → ∃ (T : Addr) (x y : V), u = .ref T ∧ xs[j]? = some x ∧ ys[j]? = some y ∧ H2 T = some (.tup [x, y])) → Q (.ref q) H2
theorem pe_listZip {e e2 : Expr} {ta : TA} {p p2 pos pos2 : Pos} (hc : X.calm = true) (hg : Gl X "list") (hm : X.mg "list" = none) (gz : Gl X "zip") (mz : X.mg "zip" = none) (ha : PA X [e, e2] ta)
    (hs : starEach [e, e2] X.env = (false, eval e X.env) :: starEach [e2] X.env := by rfl) (hpl : (backTo pos (starEach [e2] X.env)).any (·.1) = false := by rfl)
    (na : starEach [.Call (.Name "zip" p2) [e, e2] [] pos] X.env = (false, eval (.Call (.Name "zip" p2) [e, e2] [] pos) X.env) :: starEach [] X.env := by rfl) :
    PE X (.Call (.Name "list" p) [.Call (.Name "zip" p2) [e, e2] [] pos] [] pos2) (tLstZip X.K ta) := by
  refine ⟨fun pins s σ H Q I h => ?_⟩
  have made : wpAny (model X.prog X.w) X.A (eval (.Call (.Name "zip" p2) [e, e2] [] pos) X.env) (fun v s' => ∃ (s1 : Shared) (H1 : Hp) (h' : Heap) (t l : Addr) (xs ys : List V), Inv X pins σ H1 s1 ∧ s' = { s1 with heap := h' } ∧ v = .ref (s1.heap.objs.size + 4) ∧
      IsZip h' (s1.heap.objs.size + 4) (s1.heap.objs.size + 2) (s1.heap.objs.size + 3) .none ∧ IsTupOf2 h' (s1.heap.objs.size + 2) (.ref s1.heap.objs.size) (.ref (s1.heap.objs.size + 1)) ∧ IsTupOf2 h' (s1.heap.objs.size + 3) .none .none ∧
      h'.get? s1.heap.objs.size = some { cls := .type "tuple_iterator", data := .fields #[.ref t, .int 0 0] } ∧ h'.get? (s1.heap.objs.size + 1) = some { cls := .type "list_iterator", data := .fields #[.ref l, .int 0 0] } ∧ h'.objs.size = s1.heap.objs.size + 5 ∧
      (∀ c o, s1.heap.get? c = some o → h'.get? c = some o) ∧ SqT X.K H1 t xs ∧ SqL X.K H1 l ys ∧ xs.length = ys.length ∧ xs.length ≤ 1000 ∧
      ∀ H2 q zs, Same H1 H2 → H1 q = none → H2 q = some (.lst zs) → zs.length = xs.length → (∀ (j : Nat) (u : V), zs[j]? = some u → ∃ (T : Addr) (x y : V), u = .ref T ∧ xs[j]? = some x ∧ ys[j]? = some y ∧ H2 T = some (.tup [x, y])) → Q (.ref q) H2) X.xe s := by
    refine Call_ (ld_blt I gz mz PyProof.Rows.boot_zip (PyProof.Rows.callWith_type1 (thn (ha.run pos pins s σ H _ I h) fun us s1 ⟨vs, H1, I1, r1, q1⟩ => ?_) hs hpl))
    obtain ⟨t, l, xs, ys, ex, ht, hl, el, l1, q⟩ := q1
    subst ex
    cases r1 with
    | cons r rr =>
      cases rr with
      | cons r' rr =>
        cases rr
        cases r
        cases r'
        obtain ⟨its, rv, pt, _⟩ := I1.tuple ht
        obtain ⟨its2, rv2, pl, _⟩ := I1.list hl
        refine zip_begins2 (begins_tuple t its.toArray) (begins_list l its2.toArray) (show s1.heap.IsTuple t its.toArray from pt) pl.isList fun h' hz tI tO g1 g2 sz k => ?_
        exact ⟨s1, H1, h', t, l, xs, ys, I1, rfl, rfl, hz, tI, tO, g1, g2, sz, k, ht, hl, el, l1, q⟩
  refine Call_ (ld_blt I hg hm boot_list (PyProof.Rows.callWith_type1 (args_cons (thn made fun v s' hv => args_nil ?_) na) na))
  obtain ⟨s1, H1, h', t, l, xs, ys, I1, rfl, rfl, hz, tI, tO, g1, g2, sz, k, ht, hl, el, le, q⟩ := hv
  obtain ⟨its, rv, pt, _⟩ := I1.tuple ht
  obtain ⟨its2, rv2, pl, _⟩ := I1.list hl
  have tlt : t < s1.heap.objs.size := by
    obtain ⟨o, ho, _⟩ := id pt
    exact Heap.lt_size ho
  have llt : l < s1.heap.objs.size := pl.lt
  have e1 : its.toArray.size = xs.length := by rw [List.size_toArray]; exact (Paired.length rv).symm
  have e2 : its2.toArray.size = xs.length := by rw [List.size_toArray, el]; exact (Paired.length rv2).symm
  have D1 := Draws.tuple (prog := X.prog) (w := X.w) (A := X.A.in1.in1.in1) (show X.A.in1.in1.in1.handled = none from I1.ok.hd hc) s1.heap.objs.size t (Nat.ne_of_lt tlt) its.toArray
  have D2 := Draws.list (prog := X.prog) (w := X.w) (A := X.A.in1.in1.in1) (show X.A.in1.in1.in1.handled = none from I1.ok.hd hc) (s1.heap.objs.size + 1) l (ad_ne llt) its2.toArray
  rw [e1] at D1
  rw [e2] at D2
  have pt1 : h'.IsTuple t its.toArray := (show s1.heap.IsTuple t its.toArray from pt).at fun o e => k _ o e
  have pl1 : h'.IsList l its2.toArray := pl.isList.at fun o e => k _ o e
  have sep : ZipSep2 (s1.heap.objs.size + 4) (s1.heap.objs.size + 2) (s1.heap.objs.size + 3) s1.heap.objs.size (s1.heap.objs.size + 1) [s1.heap.objs.size, t] [s1.heap.objs.size + 1, l] :=
    zip_sep2 (fun b hb => by rw [List.mem_singleton.mp hb]; exact tlt) (fun b hb => by rw [List.mem_singleton.mp hb]; exact llt)
  refine call_list_zip (s := { s1 with heap := h' }) sep D1 D2 ?_ ?_ le hz ⟨_, _, tO⟩ tI ⟨⟨_, g1, rfl, rfl⟩, pt1⟩ ⟨⟨_, g2, rfl, rfl⟩, pl1⟩ fun h2 tk acc c as kp hS hal hG hacc => ?_
  · intro b hb
    simp only [List.mem_cons, List.not_mem_nil, or_false] at hb
    show b < h'.objs.size
    rcases hb with rfl | rfl
    · exact ad_lt sz (Nat.le_succ _)
    · exact ad_lt sz (Nat.le_of_lt (Nat.lt_succ_of_lt tlt))
  · intro b hb
    simp only [List.mem_cons, List.not_mem_nil, or_false] at hb
    show b < h'.objs.size
    rcases hb with rfl | rfl
    · exact ad_lt sz (Nat.le_refl _)
    · exact ad_lt sz (Nat.le_of_lt (Nat.lt_succ_of_lt llt))
  · dsimp only at kp hS hG ⊢
    have kept : ∀ b u, s1.heap.get? b = some u → h2.get? b = some u := fun b u e => by
      have := Heap.lt_size e
      exact kp b u (ad_ne this) (ad_ne this) (Nat.ne_of_lt this) (ad_ne this) (k b u e)
    have free : ∀ b, s1.heap.objs.size ≤ b → H1 b = none := fun b hb => I1.hok.fresh hb
    have hS1 : H1 h'.objs.size = none := free _ (ad_le sz)
    have lz : (xs.zip ys).length = as.length := by rw [List.length_zip, ← el, Nat.min_self, hal]
    have fst : (as.zip (xs.zip ys)).map (·.1) = as := List.map_fst_zip (by omega)
    have dist : (as.zip (xs.zip ys)).Pairwise (fun p q => p.1 ≠ q.1) := by
      have := hG.rise.imp (fun {a b} (h : a < b) => Nat.ne_of_lt h)
      rw [← fst] at this
      exact List.pairwise_map.mp this
    have memA : ∀ p ∈ as.zip (xs.zip ys), p.1 ∈ as := fun p hp => by
      rw [← fst]
      exact List.mem_map_of_mem hp
    have aS : ∀ a ∈ as, a ≠ h'.objs.size := fun a ha => Nat.ne_of_gt (hG.up a ha)
    have aFree : ∀ a ∈ as, H1 a = none := fun a ha => free a (ad_up sz (hG.up a ha))
    have zat : ∀ (j : Nat) (a : Addr), as[j]? = some a → ∃ x y, xs[j]? = some x ∧ ys[j]? = some y ∧ (as.zip (xs.zip ys))[j]? = some (a, x, y) := fun j a hj => by
      have hlt : j < as.length := (List.getElem?_eq_some_iff.mp hj).1
      have hx : xs[j]? = some (xs[j]'(by omega)) := List.getElem?_eq_getElem _
      have hy : ys[j]? = some (ys[j]'(by omega)) := List.getElem?_eq_getElem _
      exact ⟨_, _, hx, hy, List.getElem?_zip_eq_some.mpr ⟨hj, List.getElem?_zip_eq_some.mpr ⟨hx, hy⟩⟩⟩
    refine ⟨.ref h'.objs.size, upd (layP (as.zip (xs.zip ys)) H1) h'.objs.size (.lst (as.map V.ref)), laid_many (h' := h2) (t' := tk) I1 kept (fun b o e => ?_) (fun b o e => ?_), rfl, q _ _ (as.map V.ref) (fun b o e => ?_) hS1 upd_same (by rw [List.length_map, hal]) fun j u hu => ?_⟩
    · rw [upd_ne (ne_of_none e hS1)]
      exact layP_old (fun p hp z => by rw [← z, aFree _ (memA p hp)] at e; cases e) e
    · by_cases hb : b = h'.objs.size
      · rw [hb, upd_same] at e
        cases e
        refine .inr ⟨by rw [hb]; exact ad_le sz, show ObjOk X.prog X.w _ _ _ (.lst (as.map V.ref)) from ⟨by rw [List.length_map, hal, sizeLine_eq]; omega, acc.toList, c, by rw [hacc]; exact vals_refs as, by rw [hb, Array.toArray_toList]; exact hS⟩⟩
      · rw [upd_ne hb] at e
        rcases layP_inv e with e | ⟨p, hp, rfl, rfl⟩
        · exact .inl e
        · have pa := memA p hp
          obtain ⟨j, hj⟩ := List.mem_iff_getElem?.mp hp
          obtain ⟨hj1, hj2⟩ := List.getElem?_zip_eq_some.mp hj
          obtain ⟨hj3, hj4⟩ := List.getElem?_zip_eq_some.mp hj2
          obtain ⟨v1, v2, h1, h2', tp⟩ := hG.two j p.1 hj1
          obtain ⟨w1, hw1, r1⟩ := rv.get hj3
          obtain ⟨w2, hw2, r2⟩ := rv2.get hj4
          have ew1 : w1 = v1 := by
            have : its.toArray[j]? = some w1 := by rw [List.getElem?_toArray]; exact hw1
            exact Option.some.inj (this.symm.trans h1)
          have ew2 : w2 = v2 := by
            have : its2.toArray[j]? = some w2 := by rw [List.getElem?_toArray]; exact hw2
            exact Option.some.inj (this.symm.trans h2')
          subst ew1
          subst ew2
          refine .inr ⟨ad_up sz (hG.up _ pa), show ObjOk X.prog X.w _ _ _ (.tup [p.2.1, p.2.2]) from ⟨by show 2 ≤ sizeLine; decide, [w1, w2], .cons r1 (.cons r2 .nil), ⟨_, tp, rfl, _, rfl⟩⟩⟩
    · rw [upd_ne (ne_of_none e hS1)]
      exact layP_old (fun p hp z => by rw [← z, aFree _ (memA p hp)] at e; cases e) e
    · rw [List.getElem?_map] at hu
      cases ha : as[j]? with
      | none => rw [ha] at hu; cases hu
      | some a =>
        rw [ha] at hu
        obtain ⟨x, y, hx, hy, hz2⟩ := zat j a ha
        refine ⟨a, x, y, (Option.some.inj hu).symm, hx, hy, ?_⟩
        rw [upd_ne (aS a (List.mem_of_getElem? ha))]
        exact layP_at dist (List.mem_of_getElem? hz2)
end
end Gk
/-! for (x, y) in zip(l, t), a list and a tuple -/
namespace Gk
open PySem PySem.Spec PySem.Calls PyProof.Rows L2
/-- the list at a and the tuple at b as they stand at each turn, what stands there in new pairs -/
def Izlt (K : PySem.W.Frag) (a b : Addr) : It where
  go := fun i H => ∃ (xs ys : List V) (x y : V), SqL K H a xs ∧ SqT K H b ys ∧ xs[i]? = some x ∧ ys[i]? = some y
  yld := fun i H v H' => ∃ T x y, v = .ref T ∧ H T = none ∧ H' = upd H T (.tup [x, y]) ∧ (∀ xs, SqL K H a xs → xs[i]? = some x) ∧ ∀ ys, SqT K H b ys → ys[i]? = some y
  stop := fun i H => ∃ xs ys : List V, SqL K H a xs ∧ SqT K H b ys ∧ xs.length = i ∧ ys.length = i
/-- the objects of a zip over two things -/
structure ZipAt (h : Heap) (z TI TO i1 i2 a b : Addr) (i : Nat) : Prop where
  zip : IsZip h z TI TO .none
  its : IsTupOf2 h TI (.ref i1) (.ref i2)
  out : ∃ x y, IsTupOf2 h TO x y
  one : h.IsListIter i1 a i
  two : h.IsTupleIter i2 b i
theorem five {z TI TO i1 i2 c : Addr} (h : c ∈ [z, TI, TO, i1, i2]) : c = z ∨ c = TI ∨ c = TO ∨ c = i1 ∨ c = i2 := by simpa using h
theorem ZipAt.there {h : Heap} {z TI TO i1 i2 a b : Addr} {i : Nat} (st : ZipAt h z TI TO i1 i2 a b i) {c : Addr} (hc : c ∈ [z, TI, TO, i1, i2]) : ∃ o, h.get? c = some o ∧ ∀ v, o.data ≠ .cell v := by
  obtain ⟨o1, e1, _, d1⟩ := st.one
  obtain ⟨o2, e2, _, d2⟩ := st.two
  obtain ⟨x, y, e3⟩ := st.out
  rcases five hc with rfl | rfl | rfl | rfl | rfl
  · exact ⟨_, st.zip, fun v q => nomatch q⟩
  · exact ⟨_, st.its, fun v q => nomatch q⟩
  · exact ⟨_, e3, fun v q => nomatch q⟩
  · exact ⟨o1, e1, fun v q => by rw [d1] at q; cases q⟩
  · exact ⟨o2, e2, fun v q => by rw [d2] at q; cases q⟩
theorem ZipAt.at {h h' : Heap} {z TI TO i1 i2 a b : Addr} {i : Nat} (st : ZipAt h z TI TO i1 i2 a b i) (k : ∀ c, c ∈ [z, TI, TO, i1, i2] → ∀ o, h.get? c = some o → h'.get? c = some o) : ZipAt h' z TI TO i1 i2 a b i := by
  obtain ⟨x, y, e3⟩ := st.out
  exact ⟨k z (by simp) _ st.zip, k TI (by simp) _ st.its, ⟨x, y, k TO (by simp) _ e3⟩, st.one.at fun o => k i1 (by simp) o, st.two.at fun o => k i2 (by simp) o⟩
theorem turn_zlt {P : Program} {w : World} {K : PySem.W.Frag} {elts : List Expr} {kk : Nat} {tpos : Pos} {z TI TO i1 i2 a b : Addr} (S : ZipSep2 z TI TO i1 i2 [i1, a] [i2, b]) (na : a ≠ i1) (nb : b ≠ i2) :
    Turn P w K (.Tuple elts kk tpos) (Izlt K a b) [z, TI, TO, i1, i2] z (fun i h => ZipAt h z TI TO i1 i2 a b i) where
  mem := by simp
  obj := fun i h st c hc => st.there hc
  keep := fun i h h' st k => st.at k
  item := by
    intro X hP hw hK hc i pins s σ H E I hf st hg
    subst hP hw hK
    obtain ⟨xs, ys, x, y, hqx, hqy, hx, hy⟩ := hg
    obtain ⟨us, ru, pl, _⟩ := I.list hqx
    obtain ⟨vs, rv, pt, _⟩ := I.tuple hqy
    obtain ⟨u, hu, r1⟩ := ru.get hx
    obtain ⟨v, hv, r2⟩ := rv.get hy
    have la : i < us.toArray.size := by rw [List.size_toArray]; exact (List.getElem?_eq_some_iff.mp hu).1
    have lb : i < vs.toArray.size := by rw [List.size_toArray]; exact (List.getElem?_eq_some_iff.mp hv).1
    have D1 := Draws.list (prog := X.prog) (w := X.w) (A := X.A.in1) (show X.A.in1.handled = none from I.ok.hd hc) i1 a na us.toArray
    have D2 := Draws.tuple (prog := X.prog) (w := X.w) (A := X.A.in1) (show X.A.in1.handled = none from I.ok.hd hc) i2 b nb vs.toArray
    obtain ⟨x0, y0, hTO⟩ := st.out
    refine wpAny_pyNext_zipD2_item S D1 D2 st.zip st.its hTO ⟨st.one, pl.isList⟩ ⟨st.two, pt⟩ la lb fun x1 x2 h1 tk e1 e2 z1 o1 g1 g2 t1 sz kp => ?_
    have e1 : x1 = u := by
      have : us[i]? = some x1 := by simpa using e1
      exact Option.some.inj (this.symm.trans hu)
    have e2 : x2 = v := by
      have : vs[i]? = some x2 := by simpa using e2
      exact Option.some.inj (this.symm.trans hv)
    subst e1 e2
    refine ⟨_, rfl, wpAny_letOwnedTupleGo_zip (s := { s with heap := h1, toks := tk }) z1 fun h2 z2 sb => ?_⟩
    have zlt : z < s.heap.objs.size := Heap.lt_size st.zip
    have t2 : h2.get? s.heap.objs.size = some { cls := .type "tuple", data := .seq #[x1, x2] } := (sb.2 _ (Nat.ne_of_gt zlt)).trans t1
    have new : ObjOk X.prog X.w (upd H s.heap.objs.size (.tup [x, y])) h2 s.heap.objs.size (.tup [x, y]) := ⟨by show 2 ≤ sizeLine; decide, [x1, x2], .cons r1 (.cons r2 .nil), ⟨_, t2, rfl, _, rfl⟩⟩
    have kept : ∀ c o, c ∉ [z, TI, TO, i1, i2] → s.heap.get? c = some o → h2.get? c = some o := fun c o hb q => by
      have n1 : c ≠ z := fun e => hb (by simp [e])
      exact (sb.2 c n1).trans (kp c o n1 (fun e => hb (by simp [e])) (fun e => hb (by simp [e])) (fun e => hb (by simp [e])) q)
    have I1 : Inv X pins σ (upd H s.heap.objs.size (.tup [x, y])) { s with heap := h2, toks := tk } := I.turnedNew (t' := tk) (ch := [z, TI, TO, i1, i2]) kept hf (Nat.le_refl _) new
    refine ⟨.ref s.heap.objs.size, _, I1, rfl, ⟨_, x, y, rfl, I.hok.fresh (Nat.le_refl _), rfl, fun l hl => by rw [I.list_inj hl hqx]; exact hx, fun l hl => by rw [I.tuple_inj hl hqy]; exact hy⟩, ⟨z2, ?_, ⟨x1, x2, ?_⟩, ?_, ?_⟩, fun c hcm => ?_⟩
    · exact (sb.2 _ S.TIz).trans (kp _ _ S.TIz S.TITO S.TIi1 S.TIi2 st.its)
    · exact (sb.2 _ S.TOz).trans o1
    · exact g1.1.at fun o q => (sb.2 _ S.zi1.symm).trans q
    · exact g2.1.at fun o q => (sb.2 _ S.zi2.symm).trans q
    · obtain ⟨o, ho, _⟩ := st.there hcm
      rw [upd_ne (Nat.ne_of_lt (Heap.lt_size ho))]
      exact (hf c hcm).1
  done := by
    intro X hP hw hK hc i pins s σ H E I hf st hg
    subst hP hw hK
    obtain ⟨xs, ys, hqx, hqy, ex, ey⟩ := hg
    obtain ⟨us, ru, pl, _⟩ := I.list hqx
    obtain ⟨vs, rv, pt, _⟩ := I.tuple hqy
    have l1 := ru.length
    have l2 := rv.length
    have D1 := Draws.list (prog := X.prog) (w := X.w) (A := X.A.in1) (show X.A.in1.handled = none from I.ok.hd hc) i1 a na us.toArray
    have D2 := Draws.tuple (prog := X.prog) (w := X.w) (A := X.A.in1) (show X.A.in1.handled = none from I.ok.hd hc) i2 b nb vs.toArray
    obtain ⟨x0, y0, hTO⟩ := st.out
    exact wpAny_pyNext_zipD2_end S D1 D2 st.zip st.its hTO ⟨st.one, pl.isList⟩ ⟨st.two, pt⟩ (by rw [List.size_toArray]; omega) (by rw [List.size_toArray]; omega) (.inl (by rw [List.size_toArray]; omega)) fun h' tk hk => ⟨rfl, I.turnedL (t' := tk) (ch := [z, TI, TO, i1, i2]) (fun c o hb q =>
      hk c o (fun e => hb (by simp [e])) (fun e => hb (by simp [e])) (fun e => hb (by simp [e])) (fun e => hb (by simp [e])) q) hf⟩
  self := fun A i s Q E st h => wpAny_pyIter_zip st.zip h
def iZlt (K : PySem.W.Frag) (ta : TA) : TI := fun σ H R => ta σ H fun vs H1 => ∃ a b xs ys, vs = [.ref a, .ref b] ∧ SqL K H1 a xs ∧ SqT K H1 b ys ∧ R (Izlt K a b) H1
theorem pi_zlt {X : Cx} {e e2 : Expr} {ta : TA} {p pos tpos : Pos} {elts : List Expr} {kk : Nat} (K : PySem.W.Frag) (hg : Gl X "zip") (hm : X.mg "zip" = none) (ha : PA X [e, e2] ta) (hK : X.K = K := by rfl)
    (hs : starEach [e, e2] X.env = (false, eval e X.env) :: starEach [e2] X.env := by rfl) (hpl : (backTo pos (starEach [e2] X.env)).any (·.1) = false := by rfl) :
    PI X (.Tuple elts kk tpos) (.Call (.Name "zip" p) [e, e2] [] pos) (iZlt K ta) := by
  subst hK
  refine ⟨fun pins s σ H R I h => ?_⟩
  refine Call_ (ld_blt I hg hm PyProof.Rows.boot_zip (PyProof.Rows.callWith_type1 (thn (ha.run pos pins s σ H _ I h) fun us s1 ⟨vs, H1, I1, r1, q1⟩ => ?_) hs hpl))
  obtain ⟨a, b, xs, ys, ex, hqx, hqy, q⟩ := q1
  subst ex
  cases r1 with
  | cons r rr =>
    cases rr with
    | cons r' rr =>
      cases rr
      cases r
      cases r'
      obtain ⟨its, rv, pl, _⟩ := I1.list hqx
      obtain ⟨its2, rv2, pt, _⟩ := I1.tuple hqy
      have lt2 : b < s1.heap.objs.size := by
        obtain ⟨o, ho, _⟩ := id pt
        exact Heap.lt_size ho
      have lt1 : a < s1.heap.objs.size := pl.lt
      refine zip_begins2 (begins_list a its.toArray) (begins_tuple b its2.toArray) pl.isList (show s1.heap.IsTuple b its2.toArray from pt) fun h' hz tI tO g1 g2 sz k => wpAny_pyIter_zip hz ?_
      have I2 : Inv X pins σ H1 { s1 with heap := h' } := I1.kept (t' := s1.toks) k
      refine ⟨s1.heap.objs.size + 4, [s1.heap.objs.size + 4, s1.heap.objs.size + 2, s1.heap.objs.size + 3, s1.heap.objs.size, s1.heap.objs.size + 1], _, _, H1, rfl, I2,
        turn_zlt (zip_sep2 (fun c hb => by rw [List.mem_singleton.mp hb]; exact lt1) (fun c hb => by rw [List.mem_singleton.mp hb]; exact lt2)) (Nat.ne_of_lt lt1) (ad_ne lt2), ⟨hz, tI, ⟨_, _, tO⟩, ⟨_, g1, rfl, rfl⟩, ⟨_, g2, rfl, rfl⟩⟩, fun c hcm => ?_, q⟩
      have hle : s1.heap.objs.size ≤ c := by
        rcases five hcm with z | z | z | z | z <;> rw [z]
        · exact Nat.le_add_right _ _
        · exact Nat.le_add_right _ _
        · exact Nat.le_add_right _ _
        · exact Nat.le_refl _
        · exact Nat.le_add_right _ _
      exact I1.fpOk hle (I1.hok.fresh hle)
theorem walk_zlt {K : PySem.W.Frag} {a b : Addr} {xs ys : List V} (hl : xs.length = ys.length) : Walk (Izlt K a b) xs.length (fun H => SqL K H a xs ∧ SqT K H b ys) (fun i H v H' => ∃ T x y, v = .ref T ∧ H T = none ∧ xs[i]? = some x ∧ ys[i]? = some y ∧ H' = upd H T (.tup [x, y])) :=
  ⟨fun i _ hi q => ⟨xs, ys, xs[i], ys[i]'(by omega), q.1, q.2, List.getElem?_eq_getElem hi, List.getElem?_eq_getElem (by omega)⟩, fun _ q => ⟨xs, ys, q.1, q.2, rfl, hl.symm⟩, fun i H v H' _ q y => by
    obtain ⟨T, x, z, h1, h2, h3, h4, h5⟩ := y
    exact ⟨T, x, z, h1, h2, h4 xs q.1, h5 ys q.2, h3⟩⟩
end Gk
/-! for v in f(..).values(): the dict, whatever its keys are, is locked where its values begin and stays so -/
namespace Gk
open PySem PySem.Spec PyProof.Rows L2
/-- what a dict keeps, in the order of its entries -/
inductive Holds : HO → List V → Prop
  | k (kvs : List (L2.Key × V)) : Holds (.dK kvs) (kvs.map (·.2))
  | t (kvs : List (List L2.Key × V)) : Holds (.dT kvs) (kvs.map (·.2))
theorem Holds.mut {u : HO} {xs : List V} (k : Holds u xs) : Mut (some u) := by
  cases k <;> exact True.intro
section
variable {X : Cx} {pins : List (Addr × Obj)} {σ : L2.St} {H : Hp} {s : Shared} {d : Addr} {o : Obj} {u : HO} {xs : List V}
theorem Holds.raw (k : Holds u xs) (I : Inv X pins σ H s) (h : H d = some (.frz o u)) :
    (d == sysModules) = false ∧ s.heap.get? d = some o ∧ o.ExactDict ∧ ∃ (es : Array DictEntry) (ep : Nat), o.data = .dict es ep ∧ es.size = xs.length ∧ ∀ (i : Nat) (x : V) (hi : i < es.size), xs[i]? = some x → RelV x es[i].val := by
  cases k with
  | k kvs =>
    obtain ⟨hd, z, hs, vs, kv, dof⟩ := I.hok d _ h
    obtain ⟨es, ep, ⟨o', ho, hx, hdt⟩, sz, val⟩ := Heap.DictOf.raw dof
    rw [hd] at ho
    cases ho
    refine ⟨hs, hd, hx, es, ep, hdt, by rw [sz, List.length_map]; exact (Paired.length kv).symm, fun i x hi e => ?_⟩
    rw [List.getElem?_map] at e
    cases e2 : kvs[i]? with
    | none => rw [e2] at e; cases e
    | some p =>
      rw [e2] at e
      obtain rfl := Option.some.inj e
      obtain ⟨q, hq, _, r⟩ := L2.paired_get kv e2
      rw [(val i hi q.1 q.2 hq).2]
      exact r
  | t kvs =>
    obtain ⟨hd, z, hs, ys, pr, o', es, ep, ho, hx, hdt, he, _⟩ := I.hok d _ h
    rw [hd] at ho
    cases ho
    refine ⟨hs, hd, hx, es, ep, hdt, ?_, fun i x hi e => ?_⟩
    · rw [size_of_entries he, List.length_map]
      exact (Paired.length pr).symm
    · rw [List.getElem?_map] at e
      cases e2 : kvs[i]? with
      | none => rw [e2] at e; cases e
      | some p =>
        rw [e2] at e
        obtain rfl := Option.some.inj e
        obtain ⟨b, hb, _, _, r⟩ := L2.paired_get pr e2
        have e3 := entry_at he i
        rw [Array.getElem?_eq_getElem hi, hb] at e3
        rw [Option.some.inj e3]
        exact r
end
/-- the values of the locked dict at d -/
def Ivs (d : Addr) (o : Obj) (u : HO) (xs : List V) : It where
  go := fun i H => H d = some (.frz o u) ∧ i < xs.length
  yld := fun i H v H' => H' = H ∧ xs[i]? = some v
  stop := fun i H => H d = some (.frz o u) ∧ xs.length ≤ i
theorem walk_vs {d : Addr} {o : Obj} {u : HO} {xs : List V} : Walk (Ivs d o u xs) xs.length (fun H => H d = some (.frz o u)) (fun i H v H' => H' = H ∧ xs[i]? = some v) :=
  ⟨fun _ _ hi q => ⟨q, hi⟩, fun _ q => ⟨q, Nat.le_refl _⟩, fun _ _ _ _ _ _ y => y⟩
section
variable {P : Program} {w : World} {K : PySem.W.Frag} {tg : Expr} {d : Addr} {o : Obj} {u : HO} {xs : List V} {es : Array DictEntry} {ep : Nat}
theorem turn_vs (k : Holds u xs) (it : Addr) (hod : o.data = .dict es ep) : Turn P w K tg (Ivs d o u xs) [it] it (fun i h => h.IsValIter it d i es.size ep) where
  mem := List.mem_singleton.mpr rfl
  obj := fun i h st b hb => by
    obtain rfl := List.mem_singleton.mp hb
    obtain ⟨oi, e, c, dd⟩ := st
    exact ⟨oi, e, fun v z => by rw [dd] at z; cases z⟩
  keep := fun i h h' st kp => st.at fun oi e => kp it (List.mem_singleton.mpr rfl) oi e
  item := by
    intro X hP hw hK hc i pins s σ H E I hf st hg
    subst hP hw hK
    obtain ⟨hd, hi⟩ := hg
    obtain ⟨f0, f1, f2, f3, f4, f5⟩ := hf it (List.mem_singleton.mpr rfl)
    obtain ⟨hs, hgd, hx, es', ep', hdt, hsz, val⟩ := k.raw I hd
    obtain ⟨rfl, rfl⟩ := dict_ep hod hdt
    have hie : i < es'.size := by omega
    refine wpAny_pyNext_values_item_raw st ⟨o, hgd, hx, hdt⟩ hie fun h' st' sb => ?_
    have I1 : Inv X pins σ H { s with heap := h' } := I.turned (t' := s.toks) (fun b ob hb e => (sb.2 b hb).trans e) f0 f1 f3 f4 f5
    obtain ⟨oi, e, c, dd⟩ := id st'
    exact ⟨es'[i].val, rfl, go_of (s := { s with heap := h' }) e c dd (by decide) ⟨xs[i], H, I1, val i xs[i] hie (List.getElem?_eq_getElem hi), ⟨rfl, List.getElem?_eq_getElem hi⟩, st', fun b hb => (hf b hb).1⟩⟩
  done := by
    intro X hP hw hK hc i pins s σ H E I hf st hg
    subst hP hw hK
    obtain ⟨hd, hi⟩ := hg
    obtain ⟨f0, f1, f2, f3, f4, f5⟩ := hf it (List.mem_singleton.mpr rfl)
    obtain ⟨hs, hgd, hx, es', ep', hdt, hsz, val⟩ := k.raw I hd
    obtain ⟨rfl, rfl⟩ := dict_ep hod hdt
    exact wpAny_pyNext_values_end_raw (I.ok.hd hc) st ⟨o, hgd, hx, hdt⟩ (by omega) fun h' eb => ⟨rfl, I.turned (t' := s.toks) (fun b ob hb e => eb b ob hb e) f0 f1 f3 f4 f5⟩
  self := fun A i s Q E st h => wpAny_pyIter_valiter st h
end
/-- e.values(), e's dict locked from here on -/
def iVs (td : TE) : TI := fun σ H R => td σ H fun x H1 => ∃ d u xs, x = .ref d ∧ H1 d = some u ∧ Holds u xs ∧ ∀ od, R (Ivs d od u xs) (upd H1 d (.frz od u))
theorem pi_vs {X : Cx} {tg e : Expr} {td : TE} {apos cpos : Pos} (he : PE X e td) (hbase : attributeBase e "values" X.env (eval e X.env) = eval e X.env := by rfl) (hline : (apos.endLine == cpos.line) = true := by rfl) : PI X tg (.Call (.Attribute e "values" apos) [] [] cpos) (iVs td) := by
  refine ⟨fun pins s σ H R I h => ?_⟩
  refine wpAny_Call_method (T := "dict") (id := "dict.values") hbase rfl hline F.plainAttrs_dict F.slot_dict_values F.type_dict_values (thn (he.run pins s σ H _ I h) fun v s1 ⟨x, H1, I1, rx, d, u, xs, ex, hu, k, q⟩ => ?_)
  subst ex
  obtain rfl : v = Value.ref d := rx
  obtain ⟨od, I2⟩ := I1.lock hu k.mut
  have hd : (upd H1 d (.frz od u)) d = some (.frz od u) := upd_same
  obtain ⟨hs, hgd, hx, es, ep, hdt, hsz, val⟩ := k.raw I2 hd
  have raw : s1.heap.DictRaw d es ep := ⟨od, hgd, hx, hdt⟩
  refine ⟨raw.typeIs, fun a e => ⟨od, by cases e; exact hgd, hx.2.1⟩, ?_⟩
  have I3 : Inv X pins σ (upd H1 d (.frz od u)) { s1 with heap := s1.heap.push { cls := .type "dict_values", data := .fields #[.ref d] } } := I2.kept (t' := s1.toks) fun b ob q => Heap.get?_push_of_some _ q
  have fin : wpAny (model X.prog X.w) X.A (pyIter (.ref s1.heap.objs.size)) (PIE X pins σ tg R) X.xe { s1 with heap := s1.heap.push { cls := .type "dict_values", data := .fields #[.ref d] } } :=
    wpAny_pyIter_values_raw (d := d) ⟨_, Heap.get?_push_size _ rfl, rfl, rfl⟩ (raw.at fun o e => Heap.get?_push_of_some _ e) (pi_one (tk := s1.toks) I3 _ (turn_vs k _ hdt) ⟨_, Heap.get?_push_size _ rfl, rfl, rfl⟩ (q od))
  show wpAny _ _ (callWith cpos (.builtin "dict.values") [.ref d] [] []) _ X.xe s1
  exact method_meetsIn F.slot_dict_values F.entry_dict_values rfl (PySem.evalArgs_none ⟨rfl, raw.typeIs, F.args_dict_values_1 _, _, meets_dict_values_raw d hs, ⟨es, ep, raw⟩, fin⟩)
end Gk
/-! min(t), t a tuple of two numbers -/
namespace Gk
open PySem PySem.W PySem.Spec PyProof.Rows L2
def rMinP (K : PySem.W.Frag) : List V → Hp → VK → Prop := fun vs H Q => ∃ (a : Addr) (x y : Int), vs = [.ref a] ∧ SqT K H a [.int x, .int y] ∧ Q (.int (if y < x then y else x)) H
theorem cr_minP {X : Cx} (K : PySem.W.Frag) (hc : X.calm = true) (hu : X.A.units + 2 < cLine) (h : X.K = K := by rfl) : CallR X (.builtin "min") (rMinP K) := by
  subst h
  intro pins s σ H vs us Q I r h
  obtain ⟨a, x, y, rfl, ht, q⟩ := h
  rw [Vals.ref1 r]
  obtain ⟨its, rv, pt, _⟩ := I.tuple ht
  obtain ⟨t1, t2, rfl⟩ := Vals.int2 rv
  have hr : ReadsAll s.heap [Value.int x t1, Value.int y t2] [.int x, .int y] ([] ++ ([] ++ [])) := .cons (.int x t1) (.cons (.int y t2) .nil)
  have ha : AlikeAll [PyData.int x, .int y] := by
    constructor
    · intro u hu v hv
      simp only [List.mem_cons, List.not_mem_nil, or_false] at hu hv
      rcases hu with rfl | rfl <;> rcases hv with rfl | rfl <;> rfl
    · intro u hu
      simp only [List.mem_cons, List.not_mem_nil, or_false] at hu
      rcases hu with rfl | rfl <;> exact fun z => nomatch z
  refine min_tuple_data (I.ok.hd hc) pt hr ha ?_ fun i v h' tk bs _ rd hk => ?_
  · simp only [PyData.depthAll, PyData.depth]
    exact Nat.lt_of_le_of_lt (by omega) hu
  · have e : minD (.int x) [.int y] = .int (if y < x then y else x) := by
      have := minD_ints x [y]
      rw [List.map_cons, List.map_nil] at this
      rw [this]
      show PyData.int (min x y) = _
      congr 1
      omega
    rw [e] at rd
    cases rd
    exact ⟨.int _, H, I.kept hk, ⟨_, rfl⟩, q⟩
end Gk
namespace Pf
open PySem PySem.Spec PyProof.Rows L2 Gk Fold RZ
/-! ### the outcomes of each cell, counted in a dict by the law's own steps -/
abbrev sRows : Stmt := topS 37
abbrev nRows : List Str := ["_law_loop_here", "_law_cells", "_law_found", "_law_spot", "_law_home", "_law_deed", "_law_row_here"]
theorem scRows : FnScope nRows ["_law_loop_here", "_law_cells"] (defScope sRows) := ⟨rfl, rfl, rfl, by decide +kernel, rfl, by decide +kernel, by decide +kernel⟩
abbrev sLeast : Stmt := topS 38
abbrev nLeast : List Str := ["_law_loop_here", "_law_plan", "_law_row_here"]
theorem scLeast : FnScope nLeast ["_law_loop_here", "_law_plan"] (defScope sLeast) := ⟨rfl, rfl, rfl, by decide +kernel, rfl, by decide +kernel, by decide +kernel⟩
def cntO (l : List (Int × Int)) (k : Str) (x : Option Int) (L : Nat) (o : Int) (c : CK) (i : Nat) : Nat := (partL l o (posL l k x L c i)).length
theorem cntO_succ (l : List (Int × Int)) (k : Str) (x : Option Int) (L : Nat) (o : Int) (c : CK) (i : Nat) : cntO l k x L o c (i + 1) = cntO l k x L o c i + if sK l k x L i = c then (if outAt l i = o then 1 else 0) else 0 := by
  unfold cntO partL
  rw [posL_succ, List.filter_append, List.length_append]
  congr 1
  by_cases e : sK l k x L i = c
  · rw [if_pos e, if_pos e]
    by_cases d : outAt l i = o
    · rw [if_pos d]
      simp [d]
    · rw [if_neg d]
      simp [d]
  · rw [if_neg e, if_neg e]
    rfl
theorem cntO_nil {l : List (Int × Int)} {k : Str} {x : Option Int} {L : Nat} {o : Int} {c : CK} {i : Nat} (h : posL l k x L c i = []) : cntO l k x L o c i = 0 := by
  unfold cntO partL
  rw [h]
  rfl
theorem valV_nthU {κ : Type} [DecidableEq κ] : ∀ {kvs : List (κ × V)}, (kvs.map (·.1)).Nodup → ∀ {n : Nat} {p : κ × V}, kvs[n]? = some p → valV kvs p.1 = some p.2
  | [], _, n, p, e => by cases e
  | q :: kvs, nd, 0, p, e => by
    obtain rfl := Option.some.inj e
    unfold valV
    rw [List.find?_cons, decide_eq_true rfl]
    rfl
  | q :: kvs, nd, n + 1, p, e => by
    have e : kvs[n]? = some p := e
    have ne : ¬ q.1 = p.1 := fun z => (List.nodup_cons.mp nd).1 (by
      show q.1 ∈ _
      rw [z]
      exact List.mem_map.mpr ⟨_, List.mem_of_getElem? e, rfl⟩)
    have ih := valV_nthU (List.nodup_cons.mp nd).2 e
    unfold valV at ih ⊢
    rw [List.find?_cons, decide_eq_false ne]
    exact ih
theorem DK.holds {H : Hp} {a : Addr} {k : Str} {f : CK → Option V} {ks : List CK} (d : DK H a k f ks) (nd : ks.Nodup) : ∃ u vals, H a = some u ∧ Holds u vals ∧ vals.length = ks.length ∧ ∀ (i : Nat) (v : V) (c : CK), vals[i]? = some v → ks[i]? = some c → f c = some v := by
  have key : ∀ {κ : Type} [DecidableEq κ] (g : κ → CK) (kvs : List (κ × V)), (∀ a b, g a = g b → a = b) → kvs.map (fun e => g e.1) = ks → (∀ q, valV kvs q = f (g q)) → (kvs.map (·.2)).length = ks.length ∧ ∀ (i : Nat) (v : V) (c : CK), (kvs.map (·.2))[i]? = some v → ks[i]? = some c → f c = some v := fun {κ} _ g kvs inj ek lk => by
    refine ⟨by rw [← ek, List.length_map, List.length_map], fun i v c hv hc => ?_⟩
    rw [List.getElem?_map] at hv
    rw [← ek, List.getElem?_map] at hc
    cases e : kvs[i]? with
    | none => rw [e] at hv; cases hv
    | some p =>
      rw [e] at hv hc
      obtain rfl := Option.some.inj hv
      obtain rfl := Option.some.inj hc
      rw [← lk]
      refine valV_nthU ?_ e
      have m : (kvs.map (·.1)).map g = ks := by rw [List.map_map]; exact ek
      rw [← m] at nd
      exact List.Pairwise.of_map _ (fun a b h z => h (by rw [z])) nd
  rcases d with ⟨t, kvs, h, ek, lk⟩ | ⟨t, kvs, h, ek, lk⟩
  · obtain ⟨h1, h2⟩ := key Sum.inl kvs (fun a b z => Sum.inl.inj z) ek lk
    exact ⟨_, _, h, .k kvs, h1, h2⟩
  · obtain ⟨h1, h2⟩ := key Sum.inr kvs (fun a b z => Sum.inr.inj z) ek lk
    exact ⟨_, _, h, .t kvs, h1, h2⟩
/-- a pair of numbers for each cell -/
def RowsAt (H : Hp) (vals : List V) (l : List (Int × Int)) (k : Str) (x : Option Int) (L : Nat) (cs : List CK) : Prop :=
  vals.length = cs.length ∧ ∀ (i : Nat) (v : V) (c : CK), vals[i]? = some v → cs[i]? = some c → ∃ a, v = .ref a ∧ H a = some (.tup [.int (cntO l k x L 0 c l.length : Nat), .int (cntO l k x L 1 c l.length : Nat)])
section
variable {P : Program} {w : World} {K : PySem.W.Frag} {mg : Str → Option Value} {base : Heap}
def spRows (K : PySem.W.Frag) : Sp := fun vs H Q _ => ∃ (t A : Addr) (l : List (Int × Int)) (k : Str) (x : Option Int) (L : Nat) (xs : List V), vs = [.ref t, .ref A] ∧ PairsAt K H t l ∧ Fair l ∧ 1 ≤ l.length ∧ l.length ≤ 62 ∧ H A = some (.lst xs) ∧ KeysAt H xs (sKs l k x L) ∧
  ∀ H' D u vals cs, Same H H' → H D = none → H' D = some u → Holds u vals → RowsAt H' vals l k x L cs → cs.Nodup → (∀ c, c ∈ cs ↔ c ∈ sKs l k x L) → Q (.ref D) H'
theorem ok_rows {f : Addr} {fd : FuncData} {kk : Nat} (mz : mg "zip" = none) (F : L2.Fun K "_law_rows" "_law_rows" sRows f fd) : FnOk P w K mg base L2.CX0 (kk + 1) f fd ["_law_loop_here", "_law_cells"] (spRows K) := by
  refine F.ok scRows (fun vs H Q E h => ?_) (fun cdv A0 outer s H vs Q E hr h => ?_)
  · obtain ⟨t, A, l, k, x, L, xs, rfl, _⟩ := h
    rfl
  · obtain ⟨t, A, l, k, x, L, xs, rfl, hl, fair, l1, l62, hA, kat, q⟩ := h
    have hu : (A0.deeper (envOfC "_law_rows" (defScope sRows) s.heap.objs.size f cdv)).units + 1 < cLine := Nat.lt_of_le_of_lt (Nat.add_le_add_left (by decide : 1 ≤ 64) _) hr.units
    obtain ⟨xst, sqt, hAt, lt⟩ := PairsAt.out hl
    have lxs : xs.length = l.length := by rw [kat.1, sKs_len]
    refine ⟨_, pss_cons (ps_set (i := 2) scRows.nd rfl (.inl rfl) pe_dnewC)
      (pss_cons (ps_for PassesOwn.never rfl (pi_zlt K rfl mz (pa_cons (pv 1) (pa_cons (pv 0) pa_nil))) (pg_tup (by rfl) (pgs_cons (pg_name (i := 3) scRows.nd rfl (.inl rfl)) (pgs_cons (pg_tup (by rfl) (pgs_cons (pg_name (i := 4) scRows.nd rfl (.inl rfl)) (pgs_cons (pg_name (i := 5) scRows.nd rfl (.inl rfl)) pgs_nil))) pgs_nil)))
        (pss_cons (ps_set (i := 6) scRows.nd rfl (.inl rfl) (pe_dget2 hu (pv 2) (pv 3) (pe_tup (pa_cons pe_int (pa_cons pe_int pa_nil))) ⟨by rfl, by rfl, by rfl, by rfl⟩))
        (pss_one (ps_asg (pe_tup (pa_cons (pe_op op_sub (pe_op op_add (pe_ix (ix_tupK K) (pv 6) pe_int (fun _ _ => rfl)) pe_int) (pv 5)) (pa_cons (pe_op op_add (pe_ix (ix_tupK K) (pv 6) pe_int (fun _ _ => rfl)) (pv 5)) pa_nil))) (pg_sub (pv 2) (pv 3) (set_dict hu))))))
      (pss_one (ps_ret (pv 2)))), ?_⟩
    refine new_dk (k := k) fun D nD H1 ke dk1 => ?_
    have s01 : Same H H1 := fun b o e => by rw [ke b (ne_of_none e nD)]; exact e
    refine ⟨.ref A, rfl, .ref t, rfl, A, t, xs, xst, rfl, SqL.of (s01 _ _ hA), Same.seqT s01 sqt, ?_⟩
    refine for_it (walk_zlt (lxs.trans lt.symm)) (fun i σ H' => (∃ y3 y4 y5 y6, σ = [some (.ref t), some (.ref A), some (.ref D), y3, y4, y5, y6]) ∧ Same H H' ∧ ∃ (ad : CK → Addr) (ks : List CK), DK H' D k (fun c => if posL l k x L c i = [] then none else some (.ref (ad c))) ks ∧ ks.Nodup ∧ (∀ c, c ∈ ks ↔ ∃ j, j < i ∧ c = sK l k x L j) ∧ ks.length ≤ i ∧
        ∀ c, posL l k x L c i ≠ [] → H' (ad c) = some (.tup [.int (cntO l k x L 0 c i : Nat), .int (cntO l k x L 1 c i : Nat)]))
      ⟨⟨_, _, _, _, rfl⟩, s01, fun _ => 0, [], dk1, List.nodup_nil, fun c => ⟨fun h => (nomatch h), fun h => (by obtain ⟨j, hj, _⟩ := h; omega)⟩, Nat.le_refl _, fun c h => absurd rfl h⟩ (fun i σ H' _ hp => ⟨SqL.of (hp.2.1 _ _ hA), Same.seqT hp.2.1 sqt⟩) (fun i v σ H3 H4 hi hp hy => ?_) (fun σ H3 hp => ?_)
    · obtain ⟨⟨y3, y4, y5, y6, rfl⟩, s03, ad, ks, dk3, knd, kmem, klen, rows⟩ := hp
      obtain ⟨T, v, u, rfl, nT, hv, hu2, rfl⟩ := hy
      obtain ⟨pr, a, hpr, rfl, sa⟩ := pd_at hAt hu2
      obtain ⟨c, hc, kv⟩ := kat.at_ hv
      obtain ⟨hil, rfl⟩ := sKs_at hc
      have s34 : Same H3 (upd H3 T (.tup [v, .ref a])) := same_new nT
      have hT : SqT K (upd H3 T (.tup [v, .ref a])) T [v, .ref a] := .inl (.inl upd_same)
      generalize upd H3 T (.tup [v, .ref a]) = H4 at s34 hT
      have dk4 := dk3.same fun o e => s34 _ _ e
      have s04 := s03.trans s34
      refine ⟨T, _, rfl, hT, rfl, _, _, rfl, _, _, rfl, a, _, rfl, Same.seqT s04 sa, rfl, _, _, rfl, _, _, rfl, rfl, rfl, ?_⟩
      refine ⟨.ref D, rfl, D, rfl, dk4.isD, v, rfl, by show 2 ≤ sizeLine; decide, fun N nN => ?_⟩
      have s45 := same_new (o := HO.tup [.int 0, .int 0]) nN
      have hN : (upd H4 N (.tup [.int 0, .int 0])) N = some (.tup [.int 0, .int 0]) := upd_same
      generalize upd H4 N (.tup [.int 0, .int 0]) = H5 at s45 hN
      have s05 := s04.trans s45
      have s35 := s34.trans s45
      have dk5 := dk4.same fun o e => s45 _ _ e
      have ck5 : Ck K H5 v (cellD k x (brAt l i).toNat (hR l k L L i)) := keyV_ck (kv.same fun b ts e => s05 _ _ e)
      have eo : pr.2 = outAt l i := by
        unfold outAt
        rw [List.getD_eq_getElem?_getD, hpr]
        rfl
      have bit : outAt l i = 0 ∨ outAt l i = 1 := by
        have bo := outM_bit fair l1 i
        have e : outM l i = outAt l i := by
          unfold outM outAt
          rw [Nat.mod_eq_of_lt hil]
        rwa [e] at bo
      refine ⟨_, dk5.get ck5, ?_⟩
      have hsk : cK k x (brAt l i).toNat (hR l k L L i) = sK l k x L i := rfl
      rw [hsk]
      have row : ∃ R, (if posL l k x L (sK l k x L i) i = [] then none else some (V.ref (ad (sK l k x L i)))).getD (.ref N) = .ref R ∧ H5 R = some (.tup [.int (cntO l k x L 0 (sK l k x L i) i : Nat), .int (cntO l k x L 1 (sK l k x L i) i : Nat)]) := by
        by_cases e : posL l k x L (sK l k x L i) i = []
        · rw [if_pos e, cntO_nil e, cntO_nil e]
          exact ⟨N, rfl, hN⟩
        · rw [if_neg e]
          exact ⟨_, rfl, s35 _ _ (rows _ e)⟩
      obtain ⟨R, eR, hR5⟩ := row
      rw [eR]
      refine ⟨.ref R, rfl, R, _, 0, _, rfl, rfl, .inl (.inl hR5), rfl, _, _, rfl, rfl, .int pr.2, rfl, _, _, rfl, rfl, .ref R, rfl, R, _, 1, _, rfl, rfl, .inl (.inl hR5), rfl, .int pr.2, rfl, _, _, rfl, rfl, by show 2 ≤ sizeLine; decide, fun N2 nN2 => ?_⟩
      have e0 : ((cntO l k x L 0 (sK l k x L i) i : Nat) : Int) + 1 - pr.2 = (cntO l k x L 0 (sK l k x L i) (i + 1) : Nat) := by
        rw [cntO_succ, if_pos rfl, eo]
        rcases bit with z | z <;> rw [z]
        · rw [if_pos rfl]; omega
        · rw [if_neg (by decide)]; omega
      have e1 : ((cntO l k x L 1 (sK l k x L i) i : Nat) : Int) + pr.2 = (cntO l k x L 1 (sK l k x L i) (i + 1) : Nat) := by
        rw [cntO_succ, if_pos rfl, eo]
        rcases bit with z | z <;> rw [z]
        · rw [if_neg (by decide)]; omega
        · rw [if_pos rfl]; omega
      dsimp only at nN2 ⊢
      rw [e0, e1]
      have s56 := same_new (o := HO.tup [.int (cntO l k x L 0 (sK l k x L i) (i + 1) : Nat), .int (cntO l k x L 1 (sK l k x L i) (i + 1) : Nat)]) nN2
      have hN2 : (upd H5 N2 (.tup [.int (cntO l k x L 0 (sK l k x L i) (i + 1) : Nat), .int (cntO l k x L 1 (sK l k x L i) (i + 1) : Nat)])) N2 = some (.tup [.int (cntO l k x L 0 (sK l k x L i) (i + 1) : Nat), .int (cntO l k x L 1 (sK l k x L i) (i + 1) : Nat)]) := upd_same
      generalize upd H5 N2 (.tup [.int (cntO l k x L 0 (sK l k x L i) (i + 1) : Nat), .int (cntO l k x L 1 (sK l k x L i) (i + 1) : Nat)]) = H6 at s56 hN2
      have s06 := s05.trans s56
      have dk6 := dk5.same fun o e => s56 _ _ e
      have ck6 : Ck K H6 v (cellD k x (brAt l i).toNat (hR l k L L i)) := keyV_ck (kv.same fun b ts e => s06 _ _ e)
      obtain ⟨oD, eD, notT, _, _⟩ := dk6.there
      obtain ⟨H7, put, dk7, ne7⟩ := dk6.put (y := .ref N2) ck6 (Nat.lt_of_le_of_lt (show ks.length ≤ 64 by omega) (by decide))
      rw [hsk] at dk7
      have ek : (if (if posL l k x L (sK l k x L i) i = [] then none else some (V.ref (ad (sK l k x L i)))) = none then ks ++ [sK l k x L i] else ks) = if posL l k x L (sK l k x L i) i = [] then ks ++ [sK l k x L i] else ks := by
        by_cases z : posL l k x L (sK l k x L i) i = []
        · rw [if_pos z, if_pos rfl, if_pos z]
        · rw [if_neg z, if_neg (fun y => nomatch y), if_neg z]
      rw [ek] at dk7
      have tup7 : ∀ b ts, H6 b = some (.tup ts) → H7 b = some (.tup ts) := fun b ts e => by
        rw [ne7 b fun z => by rw [z, eD] at e; exact notT ts (Option.some.inj e)]
        exact e
      refine ⟨.ref D, rfl, v, rfl, D, H7, rfl, put, ⟨_, _, _, _, rfl⟩, fun b o e => by rw [ne7 b (ne_of_none e nD)]; exact s06 _ _ e, fun c => if c = sK l k x L i then N2 else ad c, (if posL l k x L (sK l k x L i) i = [] then ks ++ [sK l k x L i] else ks), ?_, ?_, fun c => ?_, ?_, fun c hne => ?_⟩
      · have ef : (fun c => if posL l k x L c (i + 1) = [] then none else some (V.ref ((fun c => if c = sK l k x L i then N2 else ad c) c))) = fun q => if q = sK l k x L i then some (V.ref N2) else if posL l k x L q i = [] then none else some (.ref (ad q)) := by
          funext c
          dsimp only
          rw [posL_succ]
          by_cases e : c = sK l k x L i
          · rw [if_pos e.symm, if_neg (by simp), if_pos e, if_pos e]
          · rw [if_neg (show ¬ sK l k x L i = c from fun z => e z.symm), List.append_nil, if_neg e, if_neg e]
        rw [ef]
        exact dk7
      · by_cases z : posL l k x L (sK l k x L i) i = []
        · rw [if_pos z]
          have n : sK l k x L i ∉ ks := fun m => by
            obtain ⟨j, hj, ej⟩ := (kmem _).mp m
            have : j ∈ posL l k x L (sK l k x L i) i := posL_mem.mpr ⟨hj, ej.symm⟩
            rw [z] at this
            exact (nomatch this)
          exact List.nodup_append.mpr ⟨knd, List.nodup_cons.mpr ⟨fun h => (nomatch h), List.nodup_nil⟩, fun a ha b hb => by rw [List.mem_singleton.mp hb]; exact fun z => n (z ▸ ha)⟩
        · rw [if_neg z]
          exact knd
      · have m : c ∈ (if posL l k x L (sK l k x L i) i = [] then ks ++ [sK l k x L i] else ks) ↔ c ∈ ks ∨ c = sK l k x L i := by
          by_cases z : posL l k x L (sK l k x L i) i = []
          · rw [if_pos z, List.mem_append, List.mem_singleton]
          · rw [if_neg z]
            constructor
            · exact .inl
            · rintro (h | rfl)
              · exact h
              · obtain ⟨j, hj⟩ := List.exists_mem_of_ne_nil _ z
                obtain ⟨h1, h2⟩ := posL_mem.mp hj
                exact (kmem _).mpr ⟨j, h1, h2.symm⟩
        rw [m, kmem]
        constructor
        · rintro (⟨j, hj, e⟩ | e)
          · exact ⟨j, by omega, e⟩
          · exact ⟨i, by omega, e⟩
        · rintro ⟨j, hj, e⟩
          rcases Nat.lt_or_ge j i with g | g
          · exact .inl ⟨j, g, e⟩
          · obtain rfl : j = i := by omega
            exact .inr e
      · by_cases z : posL l k x L (sK l k x L i) i = []
        · rw [if_pos z, List.length_append]
          exact Nat.succ_le_succ klen
        · rw [if_neg z]
          exact Nat.le_succ_of_le klen
      · dsimp only
        by_cases e : c = sK l k x L i
        · rw [if_pos e, e]
          exact tup7 _ _ hN2
        · rw [posL_succ, if_neg (fun z => e z.symm), List.append_nil] at hne
          rw [if_neg e, cntO_succ, cntO_succ, if_neg (fun z => e z.symm), if_neg (fun z => e z.symm)]
          exact tup7 _ _ ((s35.trans s56) _ _ (rows c hne))
    · obtain ⟨⟨y3, y4, y5, y6, rfl⟩, s03, ad, ks, dk3, knd, kmem, klen, rows⟩ := hp
      obtain ⟨u, vals, hD, hu3, lv, at3⟩ := dk3.holds knd
      refine ⟨.ref D, rfl, ?_⟩
      rw [lxs] at kmem rows at3
      refine q H3 D u vals ks s03 nD hD hu3 ⟨lv, fun i v c hv hc => ?_⟩ knd fun c => (kmem c).trans sKs_mem.symm
      have e := at3 i v c hv hc
      by_cases z : posL l k x L c l.length = []
      · rw [if_pos z] at e
        cases e
      · rw [if_neg z] at e
        obtain rfl := Option.some.inj e
        exact ⟨_, rfl, rows c z⟩
end
end Pf
namespace Pf
open PySem PySem.Spec PyProof.Rows L2 Gk Fold RZ
theorem holds_notTup {u : HO} {xs : List V} (k : Holds u xs) : ∀ ts, u ≠ .tup ts := by
  cases k <;> exact fun ts z => nomatch z
theorem sum_ints {α : Type} (f : α → Nat) : ∀ cs : List α, (cs.map fun c => ((f c : Nat) : Int)).sum = ((sumC f cs : Nat) : Int)
  | [] => rfl
  | c :: cs => by
    rw [List.map_cons, List.sum_cons, sum_ints f cs]
    show _ = (((f c + sumC f cs : Nat)) : Int)
    omega
theorem min_nat (a b : Nat) : (if ((b : Nat) : Int) < ((a : Nat) : Int) then ((b : Nat) : Int) else ((a : Nat) : Int)) = ((min a b : Nat) : Int) := by
  by_cases h : ((b : Nat) : Int) < (a : Nat)
  · rw [if_pos h]
    omega
  · rw [if_neg h]
    omega
section
variable {P : Program} {w : World} {K : PySem.W.Frag} {mg : Str → Option Value} {base : Heap}
def spLeast (K : PySem.W.Frag) : Sp := fun vs H Q _ => ∃ (t c : Addr) (l : List (Int × Int)) (k : Str) (z : Int) (x : Option Int), vs = [.ref t, .ref c] ∧ PairsAt K H t l ∧ Fair l ∧ 1 ≤ l.length ∧ l.length ≤ 62 ∧ SqT K H c (planV k z x) ∧ PlanOk k z x ∧
  ∀ H' (cs : List CK), Same H H' → cs.Nodup → (∀ c, c ∈ cs ↔ c ∈ sKs l k x z.toNat) → Q (.int ((sumC (pairsC l k x z.toNat) cs : Nat) : Int)) H'
theorem ok_least {f : Addr} {fd : FuncData} (DR : Dfn P w K mg base 1 "_law_rows" ["_law_loop_here", "_law_cells"] (spRows K)) (DS : Dfn P w K mg base 3 "_law_steady" ["_law_loop_here", "_law_plan"] (spSteadyC K)) (ms : mg "sum" = none) (mn : mg "min" = none)
    (F : L2.Fun K "_law_least" "_law_least" sLeast f fd) : FnOk P w K mg base L2.CX0 4 f fd ["_law_loop_here", "_law_plan"] (spLeast K) := by
  refine F.ok scLeast (fun vs H Q E h => ?_) (fun cdv A0 outer s H vs Q E hr h => ?_)
  · obtain ⟨t, c, l, k, z, x, rfl, _⟩ := h
    rfl
  · obtain ⟨t, c, l, k, z, x, rfl, hl, fair, l1, l62, hc, ok, q⟩ := h
    have hu2 : (A0.deeper (envOfC "_law_least" (defScope sLeast) s.heap.objs.size f cdv)).units + 2 < cLine := Nat.lt_of_le_of_lt (Nat.add_le_add_left (by decide : 2 ≤ 64) _) hr.units
    refine ⟨_, pss_one (ps_ret (pe_callB (cr_sum rfl) (by rfl) ms (by decide +kernel) (pa_cons (pe_lc (own := [("_law_row_here", 2)]) (g := gName 2) (by rfl) scLeast.nd (pi_vs (pe_d DR hr (by decide) (by rfl) (pa_cons (pv 0) (pa_cons (pe_d DS hr (by decide) (by rfl) (pa_cons (pv 0) (pa_cons (pv 1) pa_nil))) pa_nil))))
        (blkOk_by (N := nLeast) (sc := defScope sLeast) (by decide +kernel)) (fun _ _ _ _ _ => pg_name (i := 2) scLeast.nd rfl (.inl rfl)) (fun _ _ _ _ _ => pts_nil) (fun _ _ _ _ _ => pe_callB (cr_minP K (by rfl) hu2) (by rfl) mn (by decide +kernel) (pa_cons (pv 2) pa_nil))) pa_nil))), ?_⟩
    refine ⟨.ref t, rfl, .ref t, rfl, .ref c, rfl, t, c, l, k, z, x, rfl, hl, fair, l1, by omega, hc, ok, fun H1 A as s1 nA hA dp ths => ?_⟩
    have kat := cells_keys dp ths
    generalize hL : z.toNat = L at kat q
    refine ⟨t, A, l, k, x, L, as, rfl, hl.keep (Same.keep s1), fair, l1, l62, hA, kat, fun H2 D u vals cs s12 nD hD hold rows nd mem => ⟨D, u, vals, rfl, hD, hold, fun od E nE => ?_⟩⟩
    have nDH : H D = none := by
      cases e : H D with
      | none => rfl
      | some o => rw [s1 _ _ e] at nD; cases nD
    have s0 : Same H (upd H2 D (.frz od u)) := fun b o e => by rw [upd_ne (ne_of_none e nDH)]; exact s12 _ _ (s1 _ _ e)
    have hF : (upd H2 D (.frz od u)) D = some (.frz od u) := upd_same
    have rows3 : ∀ (i : Nat) (v : V) (c : CK), vals[i]? = some v → cs[i]? = some c → ∃ a, v = .ref a ∧ (upd H2 D (.frz od u)) a = some (.tup [.int (cntO l k x L 0 c l.length : Nat), .int (cntO l k x L 1 c l.length : Nat)]) := fun i v c hv hc => by
      obtain ⟨a, e, ha⟩ := rows.2 i v c hv hc
      refine ⟨a, e, ?_⟩
      rw [upd_ne fun z => by rw [z, hD] at ha; exact holds_notTup hold _ (Option.some.inj ha)]
      exact ha
    have lv := rows.1
    generalize upd H2 D (.frz od u) = H3 at nE s0 hF rows3 ⊢
    have lcs : cs.length ≤ 62 := by
      have := nodup_few nd fun c hc => (mem c).mp hc
      rw [sKs_len] at this
      omega
    refine lc_it walk_vs (fun i H' => Same H3 H' ∧ H' E = some (.lst (((cs.take i).map fun c => ((pairsC l k x L c : Nat) : Int)).map V.int))) ⟨same_new nE, upd_same⟩ (fun i H' _ hp => hp.1 _ _ hF) (fun i v H4 H5 hi hp hy => ?_) (fun H4 hp => ?_)
    · obtain ⟨s34, hE⟩ := hp
      obtain ⟨rfl, hv⟩ := hy
      have hic : i < cs.length := by omega
      have hci : cs[i]? = some cs[i] := List.getElem?_eq_getElem hic
      obtain ⟨a, rfl, ha⟩ := rows3 i v _ hv hci
      refine ⟨rfl, .ref a, rfl, a, _, _, rfl, .inl (.inl (s34 _ _ ha)), ?_⟩
      rw [min_nat]
      refine ⟨_, hE, ?_, ?_, ?_⟩
      · rw [List.length_map, List.length_map, List.length_take]
        exact small1000 (by omega)
      · intro b o h
        rw [upd_ne (ne_of_none h nE)]
        exact s34 b o h
      · rw [upd_same, List.take_add_one, hci, List.map_append, List.map_append]
        rfl
    · obtain ⟨s34, hE⟩ := hp
      rw [lv, List.take_length] at hE
      refine ⟨E, _, rfl, SqL.of hE, ?_⟩
      rw [sum_ints]
      exact q H4 cs (s0.trans s34) nd mem
end
end Pf
namespace Pf
open PySem PySem.Spec PyProof.Rows L2 Gk Fold
/-! ### a short loop's branches by their own outcomes -/
def wsum (f : Nat → Bool) (p : Nat) : Nat → Nat
  | 0 => 0
  | t + 1 => wsum f p t + if f (p + t) then 1 else 0
theorem wsum_shift (f : Nat → Bool) (p : Nat) : ∀ t, wsum f p (t + 1) = (if f p then 1 else 0) + wsum f (p + 1) t
  | 0 => by
    show 0 + (if f (p + 0) then 1 else 0) = _ + 0
    rw [Nat.add_zero]
    omega
  | t + 1 => by
    rw [wsum, wsum_shift f p t, wsum, show p + 1 + t = p + (t + 1) by omega]
    omega
theorem wsum_const {f : Nat → Bool} {m : Nat} (per : ∀ q, f (q + m) = f q) : ∀ p, wsum f p m = wsum f 0 m
  | 0 => rfl
  | p + 1 => by
    rw [← wsum_const per p]
    have a := wsum_shift f p m
    rw [wsum, per p] at a
    omega
theorem wsum_ext {f : Nat → Bool} {p q : Nat} : ∀ {n}, (∀ t, t < n → f (p + t) = f (q + t)) → wsum f p n = wsum f q n
  | 0, _ => rfl
  | n + 1, h => by
    rw [wsum, wsum, wsum_ext fun t ht => h t (by omega), h n (by omega)]
theorem next_same {f : Nat → Bool} {m p q : Nat} (hm : 1 ≤ m) (per : ∀ q, f (q + m) = f q) (h : ∀ t, t < m - 1 → f (p + t) = f (q + t)) : f (p + (m - 1)) = f (q + (m - 1)) := by
  have a := wsum_const per p
  have b := wsum_const per q
  obtain ⟨n, rfl⟩ : ∃ n, m = n + 1 := ⟨m - 1, by omega⟩
  rw [wsum] at a b
  have c := wsum_ext h
  rw [show n + 1 - 1 = n by omega] at c ⊢
  cases e1 : f (p + n) <;> cases e2 : f (q + n) <;> simp [e1, e2] at a b ⊢ <;> omega
theorem own_same {l : List (Int × Int)} (fair : Fair l) (hl : 1 ≤ l.length) (h12 : l.length ≤ 12) {i j : Nat} (hi : i < l.length) (hj : j < l.length) (e : sK l "own" none 11 i = sK l "own" none 11 j) : outAt l i = outAt l j := by
  have h64 : l.length ≤ 64 := by omega
  unfold sK cK at e
  rw [if_neg (by decide +kernel), if_neg (by decide +kernel), if_neg (by decide +kernel), if_neg (by decide +kernel)] at e
  injection e with e
  injection e with e1 e
  injection e with e2 _
  injection e1 with e1
  injection e2 with e2
  have e2 := txt_inj e2
  have bi := brAt_small fair hl i
  have bj := brAt_small fair hl j
  have eb : brAt l i = brAt l j := by omega
  have pos := hB_pos fair hl h64 "own" j
  have per : ∀ q, (hB l "own" (brAt l j)).getD ((q + (hB l "own" (brAt l j)).length) % (hB l "own" (brAt l j)).length) false = (hB l "own" (brAt l j)).getD (q % (hB l "own" (brAt l j)).length) false := fun q => by rw [Nat.add_mod_right]
  have small : (hB l "own" (brAt l j)).length ≤ 12 := by
    unfold hB
    rw [if_pos rfl, bo_len]
    exact Nat.le_trans (outs_len _ _) h12
  rw [hR_past hl, hR_past hl, eb] at e2
  have d1 := cj_dig (l := l) hl (k := "own") (b := brAt l j) (j := i) (.inr eb)
  have d2 := cj_dig (l := l) hl (k := "own") (b := brAt l j) (j := j) (.inr rfl)
  generalize hbs : hB l "own" (brAt l j) = bs at *
  have at_ : ∀ (c t : Nat), t < 11 → (past bs (c + 11 * bs.length) 11)[t]? = some (bs.getD ((c + 11 * bs.length + t - 11) % bs.length) false) := fun c t ht => by
    rw [past_at ht]
    unfold dig
    have := Nat.le_mul_of_pos_right 11 pos
    rw [if_pos (by omega)]
  have m11 := Nat.le_mul_of_pos_right 11 pos
  have w := next_same (f := fun q => bs.getD (q % bs.length) false) (m := bs.length) (p := cj l "own" (brAt l j) i + 11 * bs.length - (bs.length - 1)) (q := cj l "own" (brAt l j) j + 11 * bs.length - (bs.length - 1)) pos per fun t ht => by
    have a := at_ (cj l "own" (brAt l j) i) (11 - (bs.length - 1) + t) (by omega)
    have b := at_ (cj l "own" (brAt l j) j) (11 - (bs.length - 1) + t) (by omega)
    rw [e2, b] at a
    have := Option.some.inj a
    show bs.getD _ false = bs.getD _ false
    rw [show cj l "own" (brAt l j) i + 11 * bs.length - (bs.length - 1) + t = cj l "own" (brAt l j) i + 11 * bs.length + (11 - (bs.length - 1) + t) - 11 by omega, ← this]
    congr 2
    omega
  rw [show cj l "own" (brAt l j) i + 11 * bs.length - (bs.length - 1) + (bs.length - 1) = cj l "own" (brAt l j) i + 11 * bs.length by omega, show cj l "own" (brAt l j) j + 11 * bs.length - (bs.length - 1) + (bs.length - 1) = cj l "own" (brAt l j) j + 11 * bs.length by omega, Nat.add_mul_mod_self_right, Nat.add_mul_mod_self_right, d1, d2] at w
  rw [Nat.mod_eq_of_lt hi, Nat.mod_eq_of_lt hj] at w
  have oi := outM_bit fair hl (0 * l.length + i)
  have oj := outM_bit fair hl (0 * l.length + j)
  rw [out_round 0 i hi] at oi
  rw [out_round 0 j hj] at oj
  have ei : outAt l i = (l.getD i (0, 0)).2 := rfl
  have ej : outAt l j = (l.getD j (0, 0)).2 := rfl
  rw [← ei, ← ej] at w
  rcases oi with a | a <;> rcases oj with b | b <;> rw [a, b] at w ⊢ <;> simp at w
theorem own_sure {l : List (Int × Int)} (fair : Fair l) (hl : 1 ≤ l.length) (h12 : l.length ≤ 12) : ¬ Clash l "own" none 11 := by
  rintro ⟨i, j, ij, jn, same, ne⟩
  exact ne (own_same fair hl h12 (by omega) jn same)
end Pf
namespace Pf
open PySem PySem.Spec PyProof.Rows L2 Gk Fold
/-! ### as much history as the pairs less one is enough -/
theorem plain_main {l : List (Int × Int)} (fair : Fair l) (hl : 1 ≤ l.length) (h64 : l.length ≤ 64) {k : Str} {L : Nat} (hL : l.length ≤ L + 1) {i j : Nat} (hi : i < l.length) (hj : j < l.length)
    (eb : hB l k (brAt l i) = hB l k (brAt l j)) (e2 : hR l k L L i = hR l k L L j) : outAt l i = outAt l j := by
  have pos := hB_pos fair hl h64 k j
  have small : (hB l k (brAt l j)).length ≤ L + 1 := by
    unfold hB
    rw [bo_len]
    split
    · exact Nat.le_trans (outs_len _ _) hL
    · rw [List.length_map]; exact hL
  rw [hR_past hl, hR_past hl, eb] at e2
  have d1 := cj_dig (l := l) hl (k := k) (b := brAt l i) (j := i) (.inr rfl)
  have d2 := cj_dig (l := l) hl (k := k) (b := brAt l j) (j := j) (.inr rfl)
  rw [eb] at d1
  generalize hbs : hB l k (brAt l j) = bs at *
  have per : ∀ q, bs.getD ((q + bs.length) % bs.length) false = bs.getD (q % bs.length) false := fun q => by rw [Nat.add_mod_right]
  have mL := Nat.le_mul_of_pos_right L pos
  have at_ : ∀ (c t : Nat), t < L → (past bs (c + L * bs.length) L)[t]? = some (bs.getD ((c + L * bs.length + t - L) % bs.length) false) := fun c t ht => by
    rw [past_at ht]
    unfold dig
    rw [if_pos (by omega)]
  generalize hci : cj l k (brAt l i) i = ci at *
  generalize hcj : cj l k (brAt l j) j = c2 at *
  have w := next_same (f := fun q => bs.getD (q % bs.length) false) (m := bs.length) (p := ci + L * bs.length - (bs.length - 1)) (q := c2 + L * bs.length - (bs.length - 1)) pos per fun t ht => by
    have a := at_ ci (L - (bs.length - 1) + t) (by omega)
    have b := at_ c2 (L - (bs.length - 1) + t) (by omega)
    rw [e2, b] at a
    have := Option.some.inj a
    show bs.getD _ false = bs.getD _ false
    rw [show ci + L * bs.length - (bs.length - 1) + t = ci + L * bs.length + (L - (bs.length - 1) + t) - L by omega, ← this]
    congr 2
    omega
  rw [show ci + L * bs.length - (bs.length - 1) + (bs.length - 1) = ci + L * bs.length by omega, show c2 + L * bs.length - (bs.length - 1) + (bs.length - 1) = c2 + L * bs.length by omega, Nat.add_mul_mod_self_right, Nat.add_mul_mod_self_right, d1, d2] at w
  rw [Nat.mod_eq_of_lt hi, Nat.mod_eq_of_lt hj] at w
  have oi := outM_bit fair hl (0 * l.length + i)
  have oj := outM_bit fair hl (0 * l.length + j)
  rw [out_round 0 i hi] at oi
  rw [out_round 0 j hj] at oj
  have ei : outAt l i = (l.getD i (0, 0)).2 := rfl
  have ej : outAt l j = (l.getD j (0, 0)).2 := rfl
  rw [← ei, ← ej] at w
  rcases oi with a | a <;> rcases oj with b | b <;> rw [a, b] at w ⊢ <;> simp at w
theorem plain_same {l : List (Int × Int)} (fair : Fair l) (hl : 1 ≤ l.length) (h64 : l.length ≤ 64) {k : Str} (hk : k = "own" ∨ k = "split" ∨ k = "shared") {L : Nat} (hL : l.length ≤ L + 1) {i j : Nat} (hi : i < l.length) (hj : j < l.length)
    (e : sK l k none L i = sK l k none L j) : outAt l i = outAt l j := by
  have bi := brAt_small fair hl i
  have bj := brAt_small fair hl j
  rcases hk with rfl | rfl | rfl
  · unfold sK cK at e
    rw [if_neg (by decide +kernel), if_neg (by decide +kernel), if_neg (by decide +kernel), if_neg (by decide +kernel)] at e
    injection e with e
    injection e with e1 e
    injection e with e2 _
    injection e1 with e1
    injection e2 with e2
    have e2 := txt_inj e2
    have eb : brAt l i = brAt l j := by omega
    exact plain_main fair hl h64 hL hi hj (by rw [eb]) e2
  · unfold sK cK at e
    rw [if_neg (by decide +kernel), if_neg (by decide +kernel), if_neg (by decide +kernel), if_neg (by decide +kernel)] at e
    injection e with e
    injection e with e1 e
    injection e with e2 _
    injection e2 with e2
    have e2 := txt_inj e2
    refine plain_main fair hl h64 hL hi hj ?_ e2
    unfold hB
    rw [if_neg (by decide +kernel), if_neg (by decide +kernel)]
  · unfold sK cK at e
    rw [if_neg (by decide +kernel), if_pos rfl, if_neg (by decide +kernel), if_pos rfl] at e
    injection e with e
    injection e with e
    have e2 := txt_inj e
    refine plain_main fair hl h64 hL hi hj ?_ e2
    unfold hB
    rw [if_neg (by decide +kernel), if_neg (by decide +kernel)]
theorem plain_sure {l : List (Int × Int)} (fair : Fair l) (hl : 1 ≤ l.length) (h64 : l.length ≤ 64) {k : Str} (hk : k = "own" ∨ k = "split" ∨ k = "shared") : ¬ Clash l k none (l.length - 1) := by
  rintro ⟨i, j, ij, jn, same, ne⟩
  exact ne (plain_same fair hl h64 hk (by omega) (by omega) jn same)
/-- the least length without a clash -/
structure LeastP (l : List (Int × Int)) (k : Str) (n : Nat) : Prop where
  ok : ¬ Clash l k none n
  no : ∀ m, m < n → Clash l k none m
theorem LeastP.one {l : List (Int × Int)} {k : Str} {n m : Nat} (a : LeastP l k n) (b : LeastP l k m) : n = m := by
  rcases Nat.lt_trichotomy n m with h | h | h
  · exact absurd (b.no n h) a.ok
  · exact h
  · exact absurd (a.no m h) b.ok
theorem LeastP.le {l : List (Int × Int)} {k : Str} {n m : Nat} (a : LeastP l k n) (h : ¬ Clash l k none m) : n ≤ m := by
  rcases Nat.lt_or_ge m n with g | g
  · exact absurd (a.no m g) h
  · exact g
end Pf
/-! a def with keyword-only defaults, called by position: f(e, ..) -/
namespace Gk
open PySem PySem.Spec PyProof.Rows L2
structure DfD (P : Program) (w : World) (K : PySem.W.Frag) (mg : Str → Option Value) (base : Heap) (k : Nat) (x : Str) (ps : List Str) (dvs : List V) (sp : Sp) : Prop where
  ex : ∃ (f : Addr) (fd : FuncData) (ds : List Value), FnOk P w K mg base L2.CX0 k f fd ps sp ∧ mg x = some (.ref f) ∧ PySem.W.keepIn K (.ref f) = true ∧ Binds K fd ps ds ∧ Vals dvs ds
section
variable {X : Cx} {k j : Nat} {x : Str} {ps : List Str} {dvs : List V} {sp : Sp} {p pos : Pos} {e : Expr} {es : List Expr} {t : TA}
theorem pe_dd (D : DfD X.prog X.w X.K X.mg X.base k x ps dvs sp) (hr : Room j X.A) (hk : k ≤ j) (hg : Gl X x) (ha : PA X (e :: es) t)
    (hdb : (x == ("__debug__" : Str)) = false := by decide) (he : starEach (e :: es) X.env = (false, eval e X.env) :: starEach es X.env := by rfl)
    (hpl : (backTo pos (starEach es X.env)).any (·.1) = false := by rfl) : PE X (.Call (.Name x p) (e :: es) [] pos) (tCall sp dvs L2.E0 t) := by
  obtain ⟨f, fd, ds, F, m, kp, b, r⟩ := D.ex
  exact L2.pe_call (F.mono hk) hr hg m kp b r L2.pass0 ha hdb he hpl
end
/-- what fills up: the keyword-only defaults, from what K holds of the def -/
theorem kw_binds {K : PySem.W.Frag} {x qual : Str} {params : Arguments} {body : List Stmt} {scope : Scope} {ps : List Str} {f D : Addr} {oc doc pm cdv ct : Value} {od an : Option Addr} {osl : Array (Option Value)} (n : Nat) (kws : List (Str × V))
    (lk : K.lookup f = some ⟨oc, od, .func (PySem.W.fnOf x qual params body scope .none (.ref D) doc pm an cdv ct), osl⟩) (hc : PySem.W.codeIn K cdv qual = true) (kp : PySem.W.keepIn K (.ref f) = true) (hk : kws ≠ []) (hn : n + kws.length = ps.length)
    (hq : ∀ q ∈ kws, ∃ u, PySem.W.nsIn K D q.1 = some (some u) ∧ RelV q.2 u)
    (h : ∀ (D : Addr) (doc pm : Value) (an : Option Addr) (cdv ct : Value) (us ks : List Value), us.length = n → ks.length = kws.length →
      KwChain D ((kws.map (·.1)).zip ks) (bindArgs (PySem.W.fnOf x qual params body scope .none (.ref D) doc pm an cdv ct) ⟨us, []⟩) (ps.zip (us ++ ks))) :
    ∃ ds, Vals (kws.map (·.2)) ds ∧ Binds K (PySem.W.fnOf x qual params body scope .none (.ref D) doc pm an cdv ct) ps ds := by
  have F : FunD K x qual params body scope [] kws f (PySem.W.fnOf x qual params body scope .none (.ref D) doc pm an cdv ct) := ⟨⟨oc, od, .none, .ref D, doc, pm, an, cdv, ct, osl, rfl, lk, hc, .inl ⟨rfl, rfl⟩, .inr ⟨D, rfl, hq⟩⟩, kp⟩
  exact F.binds0 n hk hn h
end Gk
namespace Gk
open PySem PySem.Spec PyProof.Rows L2
/-- the same called by names, some lacking -/
theorem kw_kbinds {K : PySem.W.Frag} {x qual : Str} {params : Arguments} {body : List Stmt} {scope : Scope} {ps : List Str} {f D : Addr} {oc doc pm cdv ct : Value} {od an : Option Addr} {osl : Array (Option Value)} (n : Nat) (ks : List Str) (kws ms : List (Str × V)) (g : {α : Type} → List α → List α → List α → List α)
    (lk : K.lookup f = some ⟨oc, od, .func (PySem.W.fnOf x qual params body scope .none (.ref D) doc pm an cdv ct), osl⟩) (hc : PySem.W.codeIn K cdv qual = true) (kp : PySem.W.keepIn K (.ref f) = true) (hk : kws ≠ []) (hq : ∀ q ∈ kws, ∃ u, PySem.W.nsIn K D q.1 = some (some u) ∧ RelV q.2 u) (hms : ∀ q ∈ ms, q ∈ kws)
    (hrel : ∀ {vs mz zs : List V} {us mv ws : List Value}, Vals vs us → Vals mz mv → Vals zs ws → Vals (g vs mz zs) (g us mv ws))
    (h : ∀ (D : Addr) (doc pm : Value) (an : Option Addr) (cdv ct : Value) (us mv ws : List Value), us.length = n → mv.length = ms.length → ws.length = ks.length →
      KwChain D ((ms.map (·.1)).zip mv) (bindArgs (PySem.W.fnOf x qual params body scope .none (.ref D) doc pm an cdv ct) ⟨us, ks.zip ws⟩) (ps.zip (g us mv ws))) :
    ∃ mv : List Value, KBn K (PySem.W.fnOf x qual params body scope .none (.ref D) doc pm an cdv ct) ps n ks (fun us ws => g us mv ws) (fun vs zs => g vs (ms.map (·.2)) zs) := by
  have F : FunD K x qual params body scope [] kws f (PySem.W.fnOf x qual params body scope .none (.ref D) doc pm an cdv ct) := ⟨⟨oc, od, .none, .ref D, doc, pm, an, cdv, ct, osl, rfl, lk, hc, .inl ⟨rfl, rfl⟩, .inr ⟨D, rfl, hq⟩⟩, kp⟩
  exact F.kbinds0 n ks ms g hk hms hrel h
/-- f(e, .., k = v, ..) of a def -/
structure DfN (P : Program) (w : World) (K : PySem.W.Frag) (mg : Str → Option Value) (base : Heap) (k : Nat) (x : Str) (ps : List Str) (n : Nat) (ks : List Str) (gV : List V → List V → List V) (sp : Sp) : Prop where
  ex : ∃ (f : Addr) (fd : FuncData) (g : List Value → List Value → List Value), FnOk P w K mg base L2.CX0 k f fd ps sp ∧ mg x = some (.ref f) ∧ PySem.W.keepIn K (.ref f) = true ∧ KBn K fd ps n ks g gV
section
variable {X : Cx} {k j n : Nat} {x : Str} {ps ks : List Str} {gV : List V → List V → List V} {sp : Sp} {p pos : Pos} {e : Expr} {es : List Expr} {kws : List Keyword} {t tk : TA}
theorem pe_dn (D : DfN X.prog X.w X.K X.mg X.base k x ps n ks gV sp) (hr : Room j X.A) (hk : k ≤ j) (hg : Gl X x) (ha : PA X (e :: es) t) (hkw : PK X kws tk)
    (hall : (backToKw pos (keywordEach kws X.env)).all (·.1.isSome) = true := by rfl) (hks : (backToKw pos (keywordEach kws X.env)).filterMap (·.1) = ks := by rfl)
    (hdb : (x == ("__debug__" : Str)) = false := by decide) (he : starEach (e :: es) X.env = (false, eval e X.env) :: starEach es X.env := by rfl)
    (hpl : ((backTo pos (starEach (e :: es) X.env)).any (·.1) || (backToKw pos (keywordEach kws X.env)).any (·.1.isNone)) = false := by rfl) :
    PE X (.Call (.Name x p) (e :: es) kws pos) (tCallN n ks.length sp gV L2.E0 t tk) := by
  obtain ⟨f, fd, g, F, m, kp, b⟩ := D.ex
  exact L2.pe_callN (F.mono hk) hr hg m kp b L2.pass0 ha hkw hall hks hdb he hpl
end
end Gk
namespace Pf
open PySem PySem.Spec PyProof.Rows L2 Gk Fold RZ
/-! ### the fewest errors as one number -/
theorem sumC_perm47 {α : Type} (f : α → Nat) {as bs : List α} (h : as.Perm bs) : sumC f as = sumC f bs := by
  induction h with
  | nil => rfl
  | cons x _ ih => show f x + _ = f x + _; rw [ih]
  | swap x y l => show f y + (f x + _) = f x + (f y + _); omega
  | trans _ _ h1 h2 => rw [h1, h2]
noncomputable def fewN (l : List (Int × Int)) (k : Str) (x : Option Int) (L : Nat) : Nat := open Classical in if h : ∃ cs : List CK, cs.Nodup ∧ ∀ c, c ∈ cs ↔ c ∈ sKs l k x L then sumC (pairsC l k x L) h.choose else 0
theorem fewN_is {l : List (Int × Int)} {k : Str} {x : Option Int} {L : Nat} {cs : List CK} (h1 : cs.Nodup) (h2 : ∀ c, c ∈ cs ↔ c ∈ sKs l k x L) : sumC (pairsC l k x L) cs = fewN l k x L := by
  have h : ∃ cs : List CK, cs.Nodup ∧ ∀ c, c ∈ cs ↔ c ∈ sKs l k x L := ⟨cs, h1, h2⟩
  unfold fewN
  rw [dif_pos h]
  obtain ⟨a, b⟩ := h.choose_spec
  generalize h.choose = ds at a b
  refine sumC_perm47 _ (perm_of_nodup a (fun c hc => (h2 c).mpr ((b c).mp hc)) ?_)
  exact nodup_few h1 fun c hc => (b c).mpr ((h2 c).mp hc)
theorem fewN_clash {l : List (Int × Int)} (fair : Fair l) (hl : 1 ≤ l.length) {k : Str} {x : Option Int} {L : Nat} {cs : List CK} (h1 : cs.Nodup) (h2 : ∀ c, c ∈ cs ↔ c ∈ sKs l k x L) : 0 < fewN l k x L ↔ Clash l k x L := by
  rw [← fewN_is h1 h2]
  exact forced_clash fair hl (fun c hc => sKs_mem.mp ((h2 c).mp hc)) fun j hj => (h2 _).mpr (sKs_mem.mpr ⟨j, hj, rfl⟩)
theorem fewN_plain {l : List (Int × Int)} (fair : Fair l) (hl : 1 ≤ l.length) (h64 : l.length ≤ 64) {k : Str} (hk : k = "own" ∨ k = "split" ∨ k = "shared") : fewN l k none (l.length - 1) = 0 := by
  by_cases h : ∃ cs : List CK, cs.Nodup ∧ ∀ c, c ∈ cs ↔ c ∈ sKs l k none (l.length - 1)
  · obtain ⟨cs, h1, h2⟩ := h
    have c := fewN_clash fair hl h1 h2
    have n := plain_sure fair hl h64 hk
    rcases Nat.eq_zero_or_pos (fewN l k none (l.length - 1)) with e | e
    · exact e
    · exact absurd (c.mp e) n
  · unfold fewN
    rw [dif_neg h]
def Plain (k : Str) : Prop := k = "own" ∨ k = "split" ∨ k = "shared"
/-- a word, the bits that go with it -/
def KindOk (k : Str) (b : Int) (x : Option Int) : Prop := (Plain k ∧ x = none) ∨ (k = "folded" ∧ x = some b ∧ 0 ≤ b ∧ b ≤ 16)
theorem kind_plan {k : Str} {b z : Int} {x : Option Int} (h : KindOk k b x) (h0 : 0 ≤ z) (h1 : z ≤ 64) : PlanOk k z x := by
  rcases h with ⟨hk, rfl⟩ | ⟨rfl, rfl, b0, b1⟩
  · exact ⟨h0, h1, .inr ⟨hk, rfl⟩⟩
  · exact ⟨h0, h1, .inl ⟨rfl, b, rfl, b0, b1⟩⟩
theorem plain_nf {k : Str} (hk : Plain k) : ¬ V.str k = V.str "folded" := by rcases hk with rfl | rfl | rfl <;> decide +kernel
abbrev sSchOf : Stmt := topS 5
theorem scSchOf : FnScope ["word", "length", "bits"] ["word", "length", "bits"] (defScope sSchOf) := ⟨rfl, rfl, rfl, by decide +kernel, rfl, by decide +kernel, by decide +kernel⟩
abbrev sKind : Stmt := topS 39
abbrev pKind : List Str := ["_law_kind", "_law_size", "_law_width"]
theorem scKind : FnScope pKind pKind (defScope sKind) := ⟨rfl, rfl, rfl, by decide +kernel, rfl, by decide +kernel, by decide +kernel⟩
abbrev sFewP : Stmt := topS 22
theorem scFewP : FnScope ["trace", "scheme"] ["trace", "scheme"] (defScope sFewP) := ⟨rfl, rfl, rfl, by decide +kernel, rfl, by decide +kernel, by decide +kernel⟩
abbrev sShort : Stmt := topS 26
abbrev pShort : List Str := ["trace", "word", "errors", "bits"]
abbrev nShort : List Str := ["trace", "word", "errors", "bits", "length"]
theorem scShort : FnScope nShort pShort (defScope sShort) := ⟨rfl, rfl, rfl, by decide +kernel, rfl, by decide +kernel, by decide +kernel⟩
section
variable {P : Program} {w : World} {K : PySem.W.Frag} {mg : Str → Option Value} {base : Heap}
def spKind (K : PySem.W.Frag) : Sp := fun vs H Q _ => ∃ (k : Str) (z b : Int) (x : Option Int), vs = [.str k, .int z, .int b] ∧ KindOk k b x ∧ ∀ H' p, Same H H' → SqT K H' p (planV k z x) → Q (.ref p) H'
theorem ok_schOf {f : Addr} {fd : FuncData} (F : L2.Fun K "scheme_of" "scheme_of" sSchOf f fd) : FnOk P w K mg base L2.CX0 1 f fd ["word", "length", "bits"] (spKind K) := by
  refine F.ok scSchOf (fun vs H Q E h => ?_) (fun cdv A outer s H vs Q E hr h => ?_)
  · obtain ⟨k, z, b, x, rfl, _⟩ := h
    rfl
  · obtain ⟨k, z, b, x, rfl, hk, q⟩ := h
    refine ⟨_, pss_cons (ps_if (pt_cmpR op_eq (pv 0) pe_str (nomark _)) (pss_one (ps_ret (pe_tup (pa_cons (pv 0) (pa_cons (pv 1) (pa_cons (pv 2) pa_nil)))))) pss_nil)
      (pss_one (ps_ret (pe_tup (pa_cons (pv 0) (pa_cons (pv 1) pa_nil))))), ?_⟩
    rcases hk with ⟨hk, rfl⟩ | ⟨rfl, rfl, b0, b1⟩
    · refine ⟨.str k, rfl, rfl, _, rfl, ite2 (fun e => absurd (of_decide_eq_true e) (plain_nf hk)) (fun _ => ?_)⟩
      exact ⟨.str k, rfl, .int z, rfl, by show 2 ≤ sizeLine; decide, fun p np => q _ p (same_new np) (.inl (.inl upd_same))⟩
    · refine ⟨.str "folded", rfl, rfl, _, rfl, ite2 (fun _ => ?_) (fun e => absurd (decide_eq_true rfl) e)⟩
      exact ⟨.str "folded", rfl, .int z, rfl, .int b, rfl, by show 3 ≤ sizeLine; decide, fun p np => q _ p (same_new np) (.inl (.inl upd_same))⟩
theorem ok_kind {f : Addr} {fd : FuncData} (F : L2.Fun K "_law_of_kind" "_law_of_kind" sKind f fd) : FnOk P w K mg base L2.CX0 1 f fd pKind (spKind K) := by
  refine F.ok scKind (fun vs H Q E h => ?_) (fun cdv A outer s H vs Q E hr h => ?_)
  · obtain ⟨k, z, b, x, rfl, _⟩ := h
    rfl
  · obtain ⟨k, z, b, x, rfl, hk, q⟩ := h
    refine ⟨_, pss_one (ps_ret (pe_ifExp (pt_cmpR op_eq (pv 0) pe_str (nomark _)) (pe_tup (pa_cons (pv 0) (pa_cons (pv 1) (pa_cons (pv 2) pa_nil)))) (pe_tup (pa_cons (pv 0) (pa_cons (pv 1) pa_nil))))), ?_⟩
    rcases hk with ⟨hk, rfl⟩ | ⟨rfl, rfl, b0, b1⟩
    · refine ⟨.str k, rfl, rfl, _, rfl, ite2 (fun e => absurd (of_decide_eq_true e) (plain_nf hk)) (fun _ => ?_)⟩
      exact ⟨.str k, rfl, .int z, rfl, by show 2 ≤ sizeLine; decide, fun p np => q _ p (same_new np) (.inl (.inl upd_same))⟩
    · refine ⟨.str "folded", rfl, rfl, _, rfl, ite2 (fun _ => ?_) (fun e => absurd (decide_eq_true rfl) e)⟩
      exact ⟨.str "folded", rfl, .int z, rfl, .int b, rfl, by show 3 ≤ sizeLine; decide, fun p np => q _ p (same_new np) (.inl (.inl upd_same))⟩
/-- the fewest errors of a trace and a scheme -/
def spFewN (K : PySem.W.Frag) : Sp := fun vs H Q _ => ∃ (t c : Addr) (l : List (Int × Int)) (k : Str) (z : Int) (x : Option Int), vs = [.ref t, .ref c] ∧ PairsAt K H t l ∧ Fair l ∧ 1 ≤ l.length ∧ l.length ≤ 62 ∧ SqT K H c (planV k z x) ∧ PlanOk k z x ∧
  ∀ H', Same H H' → Q (.int ((fewN l k x z.toNat : Nat) : Int)) H'
theorem ok_fewN {f : Addr} {fd : FuncData} (DF : Dfn P w K mg base 7 "forced" ["trace", "scheme"] (spForcedP K)) (ml : mg "len" = none) (F : L2.Fun K "fewest_errors" "fewest_errors" sFewP f fd) : FnOk P w K mg base L2.CX0 8 f fd ["trace", "scheme"] (spFewN K) := by
  refine F.ok scFewP (fun vs H Q E h => ?_) (fun cdv A outer s H vs Q E hr h => ?_)
  · obtain ⟨t, c, l, k, z, x, rfl, _⟩ := h
    rfl
  · obtain ⟨t, c, l, k, z, x, rfl, hl, fair, l1, l62, hc, ok, q⟩ := h
    refine ⟨_, pss_one (ps_ret (pe_callB call_len_seq (by rfl) ml PySem.boot_len (pa_cons (pe_d DF hr (by decide) (by rfl) (pa_cons (pv 0) (pa_cons (pv 1) pa_nil))) pa_nil))), ?_⟩
    refine ⟨.ref t, rfl, .ref c, rfl, t, c, l, k, z, x, rfl, hl, fair, l1, l62, hc, ok, fun H' p ys cs s hp ord mem ly _ => ⟨p, ys, rfl, .inr hp, ?_⟩⟩
    rw [ly, fewN_is (ord.imp fun h => h.2) mem]
    exact q H' s
theorem least_few {vs : List V} {H : Hp} {Q : VK} {E} (h : spFewN K vs H Q E) : spLeast K vs H Q E := by
  obtain ⟨t, c, l, k, z, x, e, hl, fair, l1, l62, hc, ok, q⟩ := h
  exact ⟨t, c, l, k, z, x, e, hl, fair, l1, l62, hc, ok, fun H' cs s nd mem => by rw [fewN_is nd mem]; exact q H' s⟩
/-- the least length within a budget -/
def spShort (K : PySem.W.Frag) : Sp := fun vs H Q _ => ∃ (t : Addr) (l : List (Int × Int)) (k : Str) (er b : Int) (x : Option Int), vs = [.ref t, .str k, .int er, .int b] ∧ KindOk k b x ∧ PairsAt K H t l ∧ Fair l ∧ 1 ≤ l.length ∧ l.length ≤ 62 ∧
  (∀ n : Nat, n ≤ 64 → (∀ m, m < n → er < (fewN l k x m : Nat)) → ((fewN l k x n : Nat) : Int) ≤ er → ∀ H', Same H H' → Q (.int (n : Int)) H') ∧ ((∀ m, m ≤ 64 → er < (fewN l k x m : Nat)) → ∀ H', Same H H' → Q .non H')
theorem ok_short {f : Addr} {fd : FuncData} (DF : Dfn P w K mg base 8 "fewest_errors" ["trace", "scheme"] (spFewN K)) (DC : Dfn P w K mg base 1 "scheme_of" ["word", "length", "bits"] (spKind K)) (cL : ∃ u, mg "MOST_LENGTH" = some u ∧ RelV (.int 64) u) (mr : mg "range" = none)
    (F : L2.Fun K "shortest_within" "shortest_within" sShort f fd) : FnOk P w K mg base L2.CX0 9 f fd pShort (spShort K) := by
  refine F.ok scShort (fun vs H Q E h => ?_) (fun cdv A outer s H vs Q E hr h => ?_)
  · obtain ⟨t, l, k, er, b, x, rfl, _⟩ := h
    rfl
  · obtain ⟨t, l, k, er, b, x, rfl, hk, hl, fair, l1, l62, q1, q2⟩ := h
    refine ⟨_, pss_cons (ps_for PassesOwn.never rfl (pi_range1 rfl mr (pa_cons (pe_op op_add (C8.pe_gc (by rfl) cL) pe_int) pa_nil)) (pg_name (i := 4) scShort.nd rfl (.inl rfl))
        (pss_one (ps_if (pt_cmpR op_le (pe_d DF hr (by decide) (by rfl) (pa_cons (pv 0) (pa_cons (pe_d DC hr (by decide) (by rfl) (pa_cons (pv 1) (pa_cons (pv 4) (pa_cons (pv 3) pa_nil)))) pa_nil))) (pv 2) (nomark _)) (pss_one (ps_ret (pv 4))) pss_nil)))
      (pss_one (ps_ret pe_non)), ?_⟩
    refine ⟨_, _, rfl, rfl, _, rfl, by decide, by decide, ?_⟩
    refine for_range (lo := 0) (n := (64 + 1 : Int).toNat) (fun i σ H' => (∃ y, σ = [some (.ref t), some (.str k), some (.int er), some (.int b), y]) ∧ Same H H' ∧ ∀ m, m < i → er < (fewN l k x m : Nat)) ⟨⟨_, rfl⟩, Same.refl H, fun j h => absurd h (by omega)⟩ (fun i σ H1 hi hp => ?_) (fun σ H1 hp => ?_)
    · obtain ⟨⟨y, rfl⟩, s1, no⟩ := hp
      have hi : i < 65 := hi
      have e0 : (0 + ((i : Nat) : Int)).toNat = i := by omega
      refine ⟨.ref t, rfl, .str k, rfl, .int (0 + (i : Nat)), rfl, .int b, rfl, k, 0 + (i : Nat), b, x, rfl, hk, fun H2 c s2 hc => ?_⟩
      refine ⟨t, c, l, k, 0 + (i : Nat), x, rfl, hl.keep (Same.keep (s1.trans s2)), fair, l1, l62, hc, kind_plan hk (by omega) (by omega), fun H3 s3 => ?_⟩
      rw [e0]
      have s03 := (s1.trans s2).trans s3
      refine ⟨.int er, rfl, _, _, rfl, rfl, _, rfl, ite2 (fun e => ?_) (fun e => ?_)⟩
      · refine ⟨.int (0 + (i : Nat)), rfl, ?_⟩
        rw [Int.zero_add]
        exact q1 i (by omega) no (of_decide_eq_true e) H3 s03
      · refine ⟨⟨_, rfl⟩, s03, fun j hj => ?_⟩
        by_cases z : j = i
        · rw [z]
          exact Int.not_le.mp fun h => e (decide_eq_true h)
        · exact no j (by omega)
    · obtain ⟨_, s1, no⟩ := hp
      exact q2 (fun m hm => no m (by show m < 65; omega)) H1 s1
end
end Pf
namespace Pf
open PySem PySem.Spec PyProof.Rows L2 Gk Fold RZ
abbrev sIsSh : Stmt := topS 40
abbrev pIsSh : List Str := ["_law_loop_here", "_law_kind", "_law_width", "_law_budget", "_law_told"]
abbrev nIsSh : List Str := ["_law_loop_here", "_law_kind", "_law_width", "_law_budget", "_law_told", "_law_plans", "_law_size", "_law_plan"]
theorem scIsSh : FnScope nIsSh pIsSh (defScope sIsSh) := ⟨rfl, rfl, rfl, by decide +kernel, rfl, by decide +kernel, by decide +kernel⟩
theorem boot_int47 : bootBuiltins "int" = some (.type "int") := by decide +kernel
theorem isiV47 {M : Addr → Prop} {K : PySem.W.Frag} {H : Hp} {x : V} {d : PyData} {σ : L2.St} {i : Nat} {n : String} {r : Bool} {Q : VK} (h : Dv M K H x d) (e : σ[i]? = some (some x)) (k : PySem.W.kitOne K (tyD d) (.type n) = some r) (q : Q (.bl r) H) :
    tCB (rIsi K) (tCons (tVar i) (tCons (tC (.ty n)) tNil)) σ H Q := ⟨x, e, x, .ty n, tyD d, .type n, r, rfl, .ty n, h.ty, k, q⟩
section
variable {P : Program} {w : World} {K : PySem.W.Frag} {mg : Str → Option Value} {base : Heap}
def spIsSh (K : PySem.W.Frag) : Sp := fun vs H Q _ => ∃ (t : Addr) (l : List (Int × Int)) (k : Str) (b bu : Int) (x : Option Int) (tv : V), vs = [.ref t, .str k, .int b, .int bu, tv] ∧ KindOk k b x ∧ PairsAt K H t l ∧ Fair l ∧ 1 ≤ l.length ∧ l.length ≤ 62 ∧
  ((tv = .non ∧ ∀ m, m ≤ 64 → bu < (fewN l k x m : Nat)) ∨ ∃ n : Nat, tv = .int (n : Int) ∧ n ≤ 64 ∧ (∀ m, m < n → bu < (fewN l k x m : Nat)) ∧ ((fewN l k x n : Nat) : Int) ≤ bu) ∧ ∀ H', Same H H' → Q (.bl true) H'
theorem ok_isSh {f : Addr} {fd : FuncData} (DL : Dfn P w K mg base 4 "_law_least" ["_law_loop_here", "_law_plan"] (spFewN K)) (DK : Dfn P w K mg base 1 "_law_of_kind" pKind (spKind K)) (mr : mg "range" = none) (ma : mg "all" = none) (my : mg "any" = none) (mi : mg "isinstance" = none) (mn : mg "int" = none) (mb : mg "bool" = none)
    (F : L2.Fun K "_law_is_shortest" "_law_is_shortest" sIsSh f fd) : FnOk P w K mg base L2.CX0 5 f fd pIsSh (spIsSh K) := by
  refine F.ok scIsSh (fun vs H Q E h => ?_) (fun cdv A outer s H vs Q E hr h => ?_)
  · obtain ⟨t, l, k, b, bu, x, tv, rfl, _⟩ := h
    rfl
  · obtain ⟨t, l, k, b, bu, x, tv, rfl, hk, hl, fair, l1, l62, cas, q⟩ := h
    refine ⟨_, pss_cons (ps_if (pt_cmpR op_isN (pv 4) pe_non (nomark _)) (pss_one (ps_ret (pe_callB (cr_all rfl) (by rfl) ma (by decide +kernel) (pa_cons (pe_lc (own := [("_law_size", 6)]) (g := gName 6) (by rfl) scIsSh.nd (pi_range1 rfl mr (pa_cons pe_int pa_nil)) (blkOk_by (N := nIsSh) (sc := defScope sIsSh) (by decide +kernel))
            (fun _ _ _ _ _ => pg_name (i := 6) scIsSh.nd rfl (.inl rfl)) (fun _ _ _ _ _ => pts_nil) (fun _ _ _ _ _ => pe_cmpR op_gt (pe_d DL hr (by decide) (by rfl) (pa_cons (pv 0) (pa_cons (pe_d DK hr (by decide) (by rfl) (pa_cons (pv 1) (pa_cons (pv 6) (pa_cons (pv 2) pa_nil)))) pa_nil))) (pv 3) (nomark _))) pa_nil)))) pss_nil)
      (pss_cons (ps_if (PW.pt (pw_or (pt_not (pt_val (pe_isi (by rfl) mi (pv 4) (by rfl) mn boot_int47))) (pw_or (pt_val (pe_isi (by rfl) mi (pv 4) (by rfl) mb bool_is)) (pw_or1 (pt_not (pt_chain op_le op_le pe_int (pv 4) pe_int)))))) (pss_one (ps_ret pe_bl)) pss_nil)
      (pss_cons (ps_setLc (i := 5) (own := [("_law_size", 6)]) (g := gName 6) (by rfl) scIsSh.nd rfl rfl (sw_true rfl rfl rfl (by decide +kernel)) (pi_range1 rfl mr (pa_cons (pv 4) pa_nil)) (blkOk_by (N := nIsSh) (sc := defScope sIsSh) (by decide +kernel))
            (fun _ _ _ _ _ => pg_name (i := 6) scIsSh.nd rfl (.inl rfl)) (fun _ _ _ _ _ => pts_nil) (fun _ _ _ _ _ => pe_d DK hr (by decide) (by rfl) (pa_cons (pv 1) (pa_cons (pv 6) (pa_cons (pv 2) pa_nil)))))
      (pss_cons (ps_if (pt_val (pe_callB (cr_any rfl) (by rfl) my (by decide +kernel) (pa_cons (pe_lc (own := [("_law_plan", 7)]) (g := gName 7) (by rfl) scIsSh.nd (pi_list (pv 5)) (blkOk_by (N := nIsSh) (sc := defScope sIsSh) (by decide +kernel))
            (fun _ _ _ _ _ => pg_name (i := 7) scIsSh.nd rfl (.inl rfl)) (fun _ _ _ _ _ => pts_nil) (fun _ _ _ _ _ => pe_cmpR op_le (pe_d DL hr (by decide) (by rfl) (pa_cons (pv 0) (pa_cons (pv 7) pa_nil))) (pv 3) (nomark _))) pa_nil))) (pss_one (ps_ret pe_bl)) pss_nil)
      (pss_one (ps_ret (pe_cmpR op_le (pe_d DL hr (by decide) (by rfl) (pa_cons (pv 0) (pa_cons (pe_d DK hr (by decide) (by rfl) (pa_cons (pv 1) (pa_cons (pv 4) (pa_cons (pv 2) pa_nil)))) pa_nil))) (pv 3) (nomark _))))))), ?_⟩
    rcases cas with ⟨rfl, no⟩ | ⟨n, rfl, n64, no, yes⟩
    · refine ⟨.non, rfl, rfl, _, rfl, iteT ?_⟩
      refine ⟨65, rfl, by decide, by decide, fun D nD => lc_range (lo := 0) (n := (65 : Int).toNat) (fun j H' => Same H H' ∧ H' D = some (.lst ((List.replicate j true).map V.bl))) ⟨same_new nD, upd_same⟩ (fun j H2 hj hp => ?_) (fun H2 hp => ?_)⟩
      · obtain ⟨s2, hD⟩ := hp
        have hj : j < 65 := hj
        have e0 : (0 : Int) + ((j : Nat) : Int) = ((j : Nat) : Int) := Int.zero_add _
        rw [e0]
        refine ⟨rfl, .ref t, rfl, .str k, rfl, .int (j : Nat), rfl, .int b, rfl, k, (j : Nat), b, x, rfl, hk, fun H3 c s3 hc => ?_⟩
        refine ⟨t, c, l, k, (j : Nat), x, rfl, hl.keep (Same.keep (s2.trans s3)), fair, l1, l62, hc, kind_plan hk (by omega) (by omega), fun H4 s4 => ?_⟩
        rw [Int.toNat_natCast]
        refine ⟨.int bu, rfl, _, _, rfl, rfl, ?_⟩
        dsimp only
        rw [decide_eq_true (no j (by omega))]
        have s04 := (s2.trans s3).trans s4
        refine ⟨_, (s3.trans s4) _ _ hD, ?_, ?_, ?_⟩
        · rw [List.length_map, List.length_replicate]
          exact small1000 (by omega)
        · intro b' o h
          rw [upd_ne (ne_of_none h nD)]
          exact s04 _ _ h
        · rw [upd_same, List.replicate_succ', List.map_append]
          rfl
      · obtain ⟨s2, hD⟩ := hp
        refine ⟨D, List.replicate 65 true, rfl, .inl (.inl hD), ?_⟩
        exact q H2 s2
    · refine ⟨.int (n : Int), rfl, rfl, _, rfl, iteF ?_⟩
      refine isiV47 (Dv.int (M := fun _ => False) (n : Int)) rfl (kit_int (.int (n : Int))) ⟨_, rfl, ?_⟩
      refine isiV47 (Dv.int (M := fun _ => False) (n : Int)) rfl (kit_bool (.int (n : Int))) ⟨_, rfl, ?_⟩
      refine ⟨.int (n : Int), rfl, 0, (n : Int), rfl, rfl, _, rfl, ite2 (fun _ => ?_) (fun e => absurd (decide_eq_true (by omega)) e)⟩
      refine ⟨(n : Int), 64, rfl, rfl, _, rfl, ?_⟩
      rw [decide_eq_true (show (n : Int) ≤ 64 by omega)]
      refine iteF ?_
      refine ⟨.int (n : Int), rfl, _, rfl, by omega, by omega, fun D nD => lc_range (lo := 0) (n := ((n : Nat) : Int).toNat) (fun j H' => Same H H' ∧ ∃ ps : List Addr, H' D = some (.lst (ps.map V.ref)) ∧ ps.length = j ∧ ∀ i a, ps[i]? = some a → SqT K H' a (planV k ((i : Nat) : Int) x)) ⟨same_new nD, [], upd_same, rfl, fun i a e => by simp at e⟩ (fun j H2 hj hp => ?_) (fun H2 hp => ?_)⟩
      · obtain ⟨s2, ps, hD, lps, hps⟩ := hp
        have hj : j < n := by omega
        rw [Int.zero_add]
        refine ⟨rfl, .str k, rfl, .int (j : Nat), rfl, .int b, rfl, k, (j : Nat), b, x, rfl, hk, fun H3 c s3 hc => ?_⟩
        have hD3 := s3 _ _ hD
        refine ⟨_, hD3, ?_, ?_, ps ++ [c], ?_, ?_, ?_⟩
        · rw [List.length_map, lps]
          exact small1000 (by omega)
        · intro b' o h
          rw [upd_ne (ne_of_none h nD)]
          exact (s2.trans s3) _ _ h
        · rw [upd_same, List.map_append]
          rfl
        · rw [List.length_append, lps]
          rfl
        · intro i a e
          have kD : Keep K H3 (upd H3 D (.lst (ps.map V.ref ++ [.ref c]))) := keep_lst hD3
          by_cases hi : i < ps.length
          · rw [List.getElem?_append_left hi] at e
            exact kD _ _ (Same.seqT s3 (hps i a e))
          · have il := (List.getElem?_eq_some_iff.mp e).1
            rw [List.length_append] at il
            have ei : i = ps.length := by
              have : i < ps.length + 1 := il
              omega
            subst ei
            rw [List.getElem?_append_right (Nat.le_refl _), Nat.sub_self] at e
            obtain rfl := Option.some.inj e
            rw [lps]
            exact kD _ _ hc
      obtain ⟨s2, ps, hD, lps, hps⟩ := hp
      rw [Int.toNat_natCast] at lps
      refine ⟨.ref D, rfl, D, rfl, ⟨_, SqL.of hD⟩, fun E nE => lc_list (K := K) (a := D) (xs := ps.map V.ref) (fun j H' => Same H2 H' ∧ H' E = some (.lst ((List.replicate j false).map V.bl))) ⟨same_new nE, upd_same⟩ (fun j H' _ hp => SqL.of (hp.1 _ _ hD)) (fun j v H3 hv hp => ?_) (fun H3 hp => ?_)⟩
      · obtain ⟨s3, hE⟩ := hp
        rw [List.getElem?_map] at hv
        obtain ⟨c, hc, rfl⟩ := Option.map_eq_some_iff.mp hv
        have hj := (List.getElem?_eq_some_iff.mp hc).1
        have hj : j < n := by omega
        refine ⟨rfl, .ref t, rfl, .ref c, rfl, t, c, l, k, (j : Nat), x, rfl, hl.keep (Same.keep (s2.trans s3)), fair, l1, l62, Same.seqT s3 (hps j c hc), kind_plan hk (by omega) (by omega), fun H4 s4 => ?_⟩
        rw [Int.toNat_natCast]
        refine ⟨.int bu, rfl, _, _, rfl, rfl, ?_⟩
        dsimp only
        rw [decide_eq_false (Int.not_le.mpr (no j hj))]
        have s24 := s3.trans s4
        refine ⟨_, s4 _ _ hE, ?_, ?_, ?_⟩
        · rw [List.length_map, List.length_replicate]
          exact small1000 (by omega)
        · intro b' o h
          rw [upd_ne (ne_of_none h nE)]
          exact s24 _ _ h
        · rw [upd_same, List.replicate_succ', List.map_append]
          rfl
      obtain ⟨s3, hE⟩ := hp
      have any0 : ∀ m : Nat, (List.replicate m false).any id = false := fun m => by simp
      refine ⟨E, List.replicate _ false, rfl, .inl (.inl hE), ?_⟩
      rw [any0]
      refine ⟨false, rfl, iteF ?_⟩
      refine ⟨.ref t, rfl, .str k, rfl, .int (n : Int), rfl, .int b, rfl, k, (n : Nat), b, x, rfl, hk, fun H4 c s4 hc => ?_⟩
      refine ⟨t, c, l, k, (n : Nat), x, rfl, hl.keep (Same.keep ((s2.trans s3).trans s4)), fair, l1, l62, hc, kind_plan hk (by omega) (by omega), fun H5 s5 => ?_⟩
      rw [Int.toNat_natCast]
      refine ⟨.int bu, rfl, _, _, rfl, rfl, ?_⟩
      dsimp only
      rw [decide_eq_true yes]
      exact q H5 (((s2.trans s3).trans s4).trans s5)
end
end Pf
namespace Pf
open PySem PySem.Spec PyProof.Rows L2 Gk Fold RZ
abbrev sRight : Stmt := topS 41
abbrev nRight : List Str := ["_law_box_here", "_law_loop_here", "_law_width", "_law_kind", "_law_budget", "_law_told"]
theorem scRight : FnScope nRight ["_law_box_here"] (defScope sRight) := ⟨rfl, rfl, rfl, by decide +kernel, rfl, by decide +kernel, by decide +kernel⟩
/-- what is told of a budget -/
def ToldS (l : List (Int × Int)) (k : Str) (x : Option Int) (bu : Int) (tv : V) : Prop := (tv = .non ∧ ∀ m, m ≤ 64 → bu < (fewN l k x m : Nat)) ∨ ∃ n : Nat, tv = .int (n : Int) ∧ n ≤ 64 ∧ (∀ m, m < n → bu < (fewN l k x m : Nat)) ∧ ((fewN l k x n : Nat) : Int) ≤ bu
section
variable {P : Program} {w : World} {K : PySem.W.Frag} {mg : Str → Option Value} {base : Heap}
def spRight : Sp := fun vs H Q _ => ∃ (b : Addr) (m : Nat), vs = [.ref b] ∧ Box m H b ∧ m ≤ 900000 ∧ ∀ H', But b H H' → Box (m + 300) H' b → Q (.bl true) H'
theorem ok_right {f : Addr} {fd : FuncData} (DT : Dfn P w K mg base 1 "_law_take" ["_law_box_here", "_law_many"] spTake) (DO : Dfn P w K mg base 2 "_law_of" ["_law_box_here", "_law_some"] (spOf K)) (DL : Dfn P w K mg base 3 "_law_loop" ["_law_box_here", "_law_most", "_law_homes"] (spLoop K))
    (DLe : Dfn P w K mg base 4 "_law_least" ["_law_loop_here", "_law_plan"] (spFewN K)) (DIs : Dfn P w K mg base 5 "_law_is_shortest" pIsSh (spIsSh K))
    (D0 : DfD P w K mg base 9 "shortest_within" pShort [.int 0] (spShort K)) (D2 : DfN P w K mg base 9 "shortest_within" pShort 3 ["bits"] (fun vs zs => vs ++ zs) (spShort K))
    (F : L2.Fun K "_law_right" "_law_right" sRight f fd) : FnG P w K mg base 10 f fd ["_law_box_here"] spRight := by
  refine fnG F scRight (fun vs H Q E h => ?_) (fun cdv A outer s H vs Q hr hg h => ?_)
  · obtain ⟨b, m, rfl, _⟩ := h
    rfl
  · obtain ⟨b, m, rfl, hb, hm, q⟩ := h
    refine ⟨_, C8.pss_cut (ps_par (i := 1) (j := 2) (by rfl) scRight.nd rfl rfl (by decide) rfl rfl (pa_cons (pe_d DL hr (by decide) (by rfl) (pa_cons (pv 0) (pa_cons pe_int (pa_cons pe_int pa_nil)))) (pa_cons (pe_d DT hr (by decide) (by rfl) (pa_cons (pv 0) (pa_cons pe_int pa_nil))) pa_nil)) (by rfl))
      (C8.pss_cut (ps_for PassesOwn.never rfl (pi_tup (pe_tup (pa_cons pe_str (pa_cons pe_str (pa_cons pe_str pa_nil))))) (pg_name (i := 3) scRight.nd rfl (.inl rfl))
        (C8.pss_cut (ps_set (i := 4) scRight.nd rfl (.inl rfl) (pe_d DO hr (by decide) (by rfl) (pa_cons (pv 0) (pa_cons (pe_lst (pa_cons pe_int (pa_cons pe_int (pa_cons pe_int (pa_cons (pe_d DLe hr (by decide) (by rfl) (pa_cons (pv 1) (pa_cons (pe_tup (pa_cons (pv 3) (pa_cons pe_int pa_nil))) pa_nil))) (pa_cons (pe_op op_pow pe_int pe_int) pa_nil)))))) pa_nil))))
        (C8.pss_cut (ps_set (i := 5) scRight.nd rfl (.inl rfl) (pe_dd D0 hr (by decide) (by rfl) (pa_cons (pv 1) (pa_cons (pv 3) (pa_cons (pv 4) pa_nil)))))
        (pss_one (ps_if (PW.pt (pw_or (pt_cmpR op_isN (pv 5) pe_non (nomark _)) (pw_or1 (pt_not (pt_val (pe_d DIs hr (by decide) (by rfl) (pa_cons (pv 1) (pa_cons (pv 3) (pa_cons pe_int (pa_cons (pv 4) (pa_cons (pv 5) pa_nil))))))))))) (pss_one (ps_ret pe_bl)) pss_nil)))))
      (C8.pss_cut (ps_set (i := 4) scRight.nd rfl (.inl rfl) (pe_d DO hr (by decide) (by rfl) (pa_cons (pv 0) (pa_cons (pe_lst (pa_cons pe_int (pa_cons pe_int (pa_cons pe_int pa_nil)))) pa_nil))))
      (C8.pss_cut (ps_set (i := 5) scRight.nd rfl (.inl rfl) (pe_dn D2 hr (by decide) (by rfl) (pa_cons (pv 1) (pa_cons pe_str (pa_cons (pv 4) pa_nil))) (pk_cons (pv 2) pk_nil)))
      (pss_one (ps_ret (pe_d DIs hr (by decide) (by rfl) (pa_cons (pv 1) (pa_cons pe_str (pa_cons (pv 2) (pa_cons (pv 4) (pa_cons (pv 5) pa_nil))))))))))), ?_⟩
    refine ⟨fun σ H' => ∃ (t : Addr) (l : List (Int × Int)) (wd : Int), σ = [some (.ref b), some (.ref t), some (.int wd), none, none, none] ∧ But b H H' ∧ Box (m + 251) H' b ∧ PairsAt K H' t l ∧ Fair l ∧ 1 ≤ l.length ∧ l.length ≤ 20 ∧ 0 ≤ wd ∧ wd ≤ 6, ?_, fun σ H1 hM => ?_⟩
    · refine ⟨.ref b, rfl, b, 20, 4, m, rfl, by decide, by decide, by decide, by decide, hb, by omega, fun H1 t l bt1 bx1 hl l1 l20 fair => ?_⟩
      refine ⟨.ref b, rfl, b, 7, m + 250, rfl, by decide, by decide, bx1, by omega, fun d H2 d0 d1 bt2 bx2 sm2 => ?_⟩
      exact ⟨_, _, rfl, t, l, d, rfl, bt1.trans bt2, bx2, hl.keep (But.keep bt2 bx1), fair, l1, by omega, d0, by omega⟩
    obtain ⟨t, l, wd, rfl, bt1, bx1, hl1, fair, l1, l20, wd0, wd6⟩ := hM
    have l62 : l.length ≤ 62 := by omega
    have l64 : l.length ≤ 64 := by omega
    -- the plain words
    refine ⟨fun σ H' => (∃ y3 y4 y5, σ = [some (.ref b), some (.ref t), some (.int wd), y3, y4, y5]) ∧ But b H1 H' ∧ Box (m + 254) H' b, ?_, fun σ H2 hM => ?_⟩
    · refine ⟨by show 3 ≤ sizeLine; decide, fun T nT => ⟨T, rfl, ⟨_, .inl (.inl upd_same)⟩, for_tup (K := K) (xs := [.str "own", .str "split", .str "shared"]) (fun i σ H' => (∃ y3 y4 y5, σ = [some (.ref b), some (.ref t), some (.int wd), y3, y4, y5]) ∧ But b (upd H1 T (.tup [.str "own", .str "split", .str "shared"])) H' ∧ Box (m + 251 + i) H' b) ⟨⟨_, _, _, rfl⟩, But.refl _ _, bx1.same (same_new nT)⟩ (fun i σ H' _ hp => .inl (.inl (hp.2.1 _ _ (bx1.ne nT).symm upd_same))) (fun i v σ H2 hv hp => ?_) (fun σ H2 hp => ?_)⟩⟩
      · obtain ⟨⟨y3, y4, y5, rfl⟩, btT, bx2⟩ := hp
        have bt12 : But b H1 H2 := (But.new nT).trans btT
        have hl2 := hl1.keep (But.keep bt12 bx1)
        have i3 : i < 3 := (List.getElem?_eq_some_iff.mp hv).1
        have key : ∃ k : Str, v = .str k ∧ Plain k := by
          match i, hv with
          | 0, hv => exact ⟨"own", (Option.some.inj hv).symm, .inl rfl⟩
          | 1, hv => exact ⟨"split", (Option.some.inj hv).symm, .inr (.inl rfl)⟩
          | 2, hv => exact ⟨"shared", (Option.some.inj hv).symm, .inr (.inr rfl)⟩
        obtain ⟨k, rfl, hk⟩ := key
        have kk : KindOk k 0 none := .inl ⟨hk, rfl⟩
        refine ⟨fun σ H' => ∃ bu : Int, σ = [some (.ref b), some (.ref t), some (.int wd), some (.str k), some (.int bu), y5] ∧ But b H2 H' ∧ Box (m + 251 + i + 1) H' b ∧ 0 ≤ bu, ?_, fun σ H3 hM => ?_⟩
        · refine ⟨.ref b, rfl, .ref t, rfl, .str k, rfl, by show 2 ≤ sizeLine; decide, fun p np => ?_⟩
          refine ⟨t, p, l, k, 0, none, rfl, hl2.keep (Same.keep (same_new np)), fair, l1, l62, .inl (.inl upd_same), kind_plan kk (by decide) (by decide), fun H3 s3 => ?_⟩
          refine ⟨10, 18, rfl, rfl, ⟨by decide, by decide, by decide⟩, by show 5 ≤ sizeLine; decide, fun p2 np2 => ?_⟩
          have s23 := (same_new (o := HO.tup [.str k, .int 0]) np).trans s3
          have bxp := (bx2.same s23).same (same_new (o := .lst [.int 0, .int 1, .int 2, .int ((fewN l k none (0 : Int).toNat : Nat) : Int), .int (10 ^ (18 : Int).toNat)]) np2)
          refine ⟨b, p2, _, m + 251 + i, rfl, SqL.of upd_same, ((bx2.same s23).ne np2).symm, by show 0 < 5; decide, by show 5 ≤ 1000; decide, bxp, by omega, fun i2 v H4 g bt4 bx4 _ => ?_⟩
          have btE : But b H2 H4 := ((But.of_same s23).trans (But.new np2)).trans bt4
          match i2, g with
          | 0, g => exact ⟨0, by rw [← Option.some.inj g]; rfl, btE, bx4, by decide⟩
          | 1, g => exact ⟨1, by rw [← Option.some.inj g]; rfl, btE, bx4, by decide⟩
          | 2, g => exact ⟨2, by rw [← Option.some.inj g]; rfl, btE, bx4, by decide⟩
          | 3, g => exact ⟨_, by rw [← Option.some.inj g]; rfl, btE, bx4, by omega⟩
          | 4, g => exact ⟨_, by rw [← Option.some.inj g]; rfl, btE, bx4, by decide⟩
        obtain ⟨bu, rfl, bt3, bx3, bu0⟩ := hM
        have hl3 := hl2.keep (But.keep bt3 bx2)
        refine ⟨fun σ H' => ∃ tv : V, σ = [some (.ref b), some (.ref t), some (.int wd), some (.str k), some (.int bu), some tv] ∧ Same H3 H' ∧ ToldS l k none bu tv ∧ tv ≠ .non, ?_, fun σ H4 hM => ?_⟩
        · refine ⟨.ref t, rfl, .str k, rfl, .int bu, rfl, t, l, k, bu, 0, none, rfl, kk, hl3, fair, l1, l62, fun n n64 no yes H' s => ?_, fun no => ?_⟩
          · exact ⟨_, rfl, s, .inr ⟨n, rfl, n64, no, yes⟩, fun h => by cases h⟩
          · have h0 := no (l.length - 1) (by omega)
            rw [fewN_plain fair l1 l64 hk] at h0
            omega
        obtain ⟨tv, rfl, s4, told, ntv⟩ := hM
        have hl4 := hl3.keep (Same.keep s4)
        have told2 := told
        rcases told with ⟨e, _⟩ | ⟨n, rfl, n64, no, yes⟩
        · exact absurd e ntv
        refine ⟨.int (n : Int), rfl, rfl, _, rfl, iteF ?_⟩
        refine ⟨.ref t, rfl, .str k, rfl, .int bu, rfl, .int (n : Int), rfl, t, l, k, 0, bu, none, .int (n : Int), rfl, kk, hl4, fair, l1, l62, told2, fun H5 s5 => ⟨true, rfl, iteF ?_⟩⟩
        exact ⟨⟨_, _, _, rfl⟩, (btT.trans bt3).trans (But.of_same (s4.trans s5)), (bx3.same (s4.trans s5)).up (by omega)⟩
      · obtain ⟨hy, btT, bx2⟩ := hp
        exact ⟨hy, (But.new nT).trans btT, bx2⟩
    obtain ⟨⟨y3, y4, y5, rfl⟩, bt2, bx2⟩ := hM
    have hl2 := hl1.keep (But.keep bt2 bx1)
    refine ⟨fun σ H' => ∃ bu : Int, σ = [some (.ref b), some (.ref t), some (.int wd), y3, some (.int bu), y5] ∧ But b H2 H' ∧ Box (m + 255) H' b, ?_, fun σ H3 hM => ?_⟩
    · refine ⟨.ref b, rfl, by show 3 ≤ sizeLine; decide, fun p np => ?_⟩
      have bxp := bx2.same (same_new (o := .lst [.int 0, .int 1, .int 2]) np)
      refine ⟨b, p, _, m + 254, rfl, SqL.of upd_same, (bx2.ne np).symm, by show 0 < 3; decide, by show 3 ≤ 1000; decide, bxp, by omega, fun i v H4 g bt4 bx4 _ => ?_⟩
      have btE : But b H2 H4 := (But.new np).trans bt4
      match i, g with
      | 0, g => exact ⟨0, by rw [← Option.some.inj g]; rfl, btE, bx4⟩
      | 1, g => exact ⟨1, by rw [← Option.some.inj g]; rfl, btE, bx4⟩
      | 2, g => exact ⟨2, by rw [← Option.some.inj g]; rfl, btE, bx4⟩
    obtain ⟨bu, rfl, bt3, bx3⟩ := hM
    have hl3 := hl2.keep (But.keep bt3 bx2)
    have kf : KindOk "folded" wd (some wd) := .inr ⟨rfl, rfl, wd0, by omega⟩
    refine ⟨fun σ H' => ∃ tv : V, σ = [some (.ref b), some (.ref t), some (.int wd), y3, some (.int bu), some tv] ∧ Same H3 H' ∧ ToldS l "folded" (some wd) bu tv, ?_, fun σ H4 hM => ?_⟩
    · refine ⟨.ref t, rfl, .int bu, rfl, .int wd, rfl, rfl, rfl, t, l, "folded", bu, wd, some wd, rfl, kf, hl3, fair, l1, l62, fun n n64 no yes H' s => ?_, fun no H' s => ?_⟩
      · exact ⟨_, rfl, s, .inr ⟨n, rfl, n64, no, yes⟩⟩
      · exact ⟨_, rfl, s, .inl ⟨rfl, no⟩⟩
    obtain ⟨tv, rfl, s4, told⟩ := hM
    refine ⟨.ref t, rfl, .int wd, rfl, .int bu, rfl, tv, rfl, t, l, "folded", wd, bu, some wd, tv, rfl, kf, hl3.keep (Same.keep s4), fair, l1, l62, told, fun H5 s5 => ?_⟩
    exact q H5 (((bt1.trans bt2).trans bt3).trans (But.of_same (s4.trans s5))) ((bx3.same (s4.trans s5)).up (by omega))
end
end Pf
namespace Pf
open PySem PySem.Spec PyProof.Rows L2 Gk Fold
abbrev sLaw : Stmt := topS 42
abbrev nLaw : List Str := ["_law_script", "_law_k", "_law_box_here", "_law_turn"]
theorem scLaw : FnScope nLaw ["_law_script"] (defScope sLaw) := ⟨rfl, rfl, rfl, by decide +kernel, rfl, by decide +kernel, by decide +kernel⟩

section
variable {P : Program} {w : World} {K : PySem.W.Frag} {mg : Str → Option Value} {base : Heap}
def spLaw (K : PySem.W.Frag) : Sp := fun vs H Q _ => ∃ (a : Addr) (ns : List Int), vs = [.ref a] ∧ SqL K H a (ns.map V.int) ∧ ns.length ≤ 63 ∧ ∀ H', Q (.bl true) H'
theorem ok_law {f : Addr} {fd : FuncData} (DB : Dfn P w K mg base 1 "_law_box" ["_law_script", "_law_k"] (spBox K)) (DR : DfG P w K mg base 10 "_law_right" ["_law_box_here"] spRight) 
    (mr : mg "range" = none) (mx : mg "max" = none) (mn : mg "min" = none) (ml : mg "len" = none) (ma : mg "all" = none) (F : L2.Fun K "law" "law" sLaw f fd) : FnG P w K mg base 11 f fd ["_law_script"] (spLaw K) := by
  refine fnG F scLaw (fun vs H Q E h => ?_) (fun cdv A outer s H vs Q hr hg h => ?_)
  · obtain ⟨a, ns, rfl, _⟩ := h
    rfl
  · obtain ⟨a, ns, rfl, hS, hl, q⟩ := h
    refine ⟨_, pss_cons (ps_for PassesOwn.never rfl (pi_range1 rfl mr (pa_cons (pe_callB (call_max2 rfl) (by rfl) mx (by decide +kernel) (pa_cons pe_int (pa_cons (pe_callB (call_min2 rfl) (by rfl) mn (by decide +kernel) (pa_cons pe_int (pa_cons (pe_callB call_len_seq (by rfl) ml PySem.boot_len (pa_cons (pv 0) pa_nil)) pa_nil))) pa_nil))) pa_nil)) (pg_name (i := 1) scLaw.nd rfl (.inl rfl))
        (pss_cons (ps_set (i := 2) scLaw.nd rfl (.inr rfl) (pe_d DB hr (by decide) (by rfl) (pa_cons (pv 0) (pa_cons (pv 1) pa_nil))))
        (pss_one (ps_if (pt_not (pt_val (pe_callB (cr_all rfl) (by rfl) ma (by decide +kernel) (pa_cons (pe_lc (own := [("_law_turn", 3)]) (g := gName 3) (by rfl) scLaw.nd (pi_range1 rfl mr (pa_cons pe_int pa_nil)) (blkOk_by (N := nLaw) (sc := defScope sLaw) (by decide +kernel))
            (fun _ _ _ _ _ => pg_name (i := 3) scLaw.nd rfl (.inl rfl)) (fun _ _ _ _ _ => pts_nil) (fun _ _ _ _ _ => pe_dg DR hr hg (by decide) (by rfl) (pa_cons (pv 2) pa_nil))) pa_nil))))
          (pss_one (ps_ret pe_bl)) pss_nil))))
      (pss_one (ps_ret (pe_bl))), ?_⟩
    refine ⟨.ref a, rfl, a, _, rfl, .inl hS, _, _, rfl, _, _, rfl, _, rfl, ?_, ?_, ?_⟩
    · split <;> omega
    · split <;> omega
    · generalize hz : (if (if ((ns.map V.int).length : Int) < 3 then ((ns.map V.int).length : Int) else 3) > 1 then (if ((ns.map V.int).length : Int) < 3 then ((ns.map V.int).length : Int) else 3) else 1) = z
      have z3 : z ≤ 3 := by rw [← hz]; split <;> omega
      refine for_range (lo := 0) (n := z.toNat) (fun i σ H' => (∃ y1 y2, σ = [some (.ref a), y1, y2, none]) ∧ SqL K H' a (ns.map V.int)) ⟨⟨none, none, rfl⟩, hS⟩ (fun i σ H1 hi hp => ?_) (fun σ H1 hp => ?_)
      · obtain ⟨⟨y1, y2, rfl⟩, hS1⟩ := hp
        refine ⟨.ref a, rfl, .int (0 + (i : Nat)), rfl, a, ns, 0 + (i : Nat), rfl, hS1, hl, by omega, by omega, fun b x y nb => ?_⟩
        have hB0 : Box 0 (upd H1 b (.lst [.int x, .int y, .int 0])) b := ⟨x, y, 0, upd_same, Int.le_refl _, Int.le_refl _⟩
        refine ⟨4, rfl, by decide, by decide, fun D nD => lc_range (lo := 0) (n := (4 : Int).toNat)
          (fun j H' => But b (upd H1 b (.lst [.int x, .int y, .int 0])) H' ∧ Box (300 * j) H' b ∧ H' D = some (.lst ((List.replicate j true).map V.bl))) ⟨But.new nD, hB0.same (same_new nD), upd_same⟩ (fun j H2 hj hp => ?_) (fun H2 hp => ?_)⟩
        · obtain ⟨bt, bx, hD⟩ := hp
          have nDb : D ≠ b := (hB0.ne nD).symm
          have hj : j < 4 := hj
          refine ⟨rfl, .ref b, rfl, b, 300 * j, rfl, bx, by omega, fun H3 bt3 bx3 => ?_⟩
          refine ⟨(List.replicate j true).map V.bl, bt3 _ _ nDb hD, ?_, ?_, ?_, ?_⟩
          · rw [List.length_map, List.length_replicate]
            exact small1000 (by omega)
          · refine butLocal nD (bt.trans bt3) fun a o n1 n2 h => ?_
            rw [upd_ne n2]
            exact h
          · obtain ⟨x1, x2, x3, g1, g2⟩ := bx3
            exact ⟨x1, x2, x3, by rw [upd_ne nDb.symm]; exact g1, g2.1, by have := g2.2; omega⟩
          · rw [upd_same, List.replicate_succ', List.map_append]
            rfl
        · obtain ⟨bt, bx, hD⟩ := hp
          refine ⟨D, List.replicate 4 true, rfl, .inl (.inl hD), _, rfl, ite2 (fun e => absurd e (by decide)) (fun _ => ?_)⟩
          exact ⟨⟨_, _, rfl⟩, keepSeqL hS1 nb bt⟩
      · obtain ⟨⟨y1, y2, rfl⟩, hS1⟩ := hp
        exact q _
theorem law_start {K : PySem.W.Frag} {H : Hp} {a : Addr} {ns : List Int} (hl : ns.length ≤ 63) (hO : Only H) (hS : SqL K H a (ns.map V.int)) : spLaw K [.ref a] H (fun v _ => v = .bl true) L2.E0 :=
  ⟨a, ns, rfl, hS, hl, fun _ => rfl⟩
end
end Pf
namespace Pf
open PySem PySem.Spec PyProof.Rows L2 Gk Fold
theorem all_mk {P : Program} {w : World} {K : PySem.W.Frag} {h : Heap} {mg : Str → Option Value} {fa : Addr} (X : K.In h) (G : h.Ns mainGlobals mg) (hfa : mg "law" = some (.ref fa))
    {f0 : Addr} {od0 an0 : Option Addr} {sl0 : Array (Option Value)} {oc0 kV0 dc0 pm0 cd0 ct0 : Value} {f1 : Addr} {od1 an1 : Option Addr} {sl1 : Array (Option Value)} {oc1 kV1 dc1 pm1 cd1 ct1 : Value} {f2 : Addr} {od2 an2 : Option Addr} {sl2 : Array (Option Value)} {oc2 kV2 dc2 pm2 cd2 ct2 : Value} {f3 : Addr} {od3 an3 : Option Addr} {sl3 : Array (Option Value)} {oc3 kV3 dc3 pm3 cd3 ct3 : Value} {f4 : Addr} {od4 an4 : Option Addr} {sl4 : Array (Option Value)} {oc4 kV4 dc4 pm4 cd4 ct4 : Value} {f5 : Addr} {od5 an5 : Option Addr} {sl5 : Array (Option Value)} {oc5 kV5 dc5 pm5 cd5 ct5 : Value} {f6 : Addr} {od6 an6 : Option Addr} {sl6 : Array (Option Value)} {oc6 kV6 dc6 pm6 cd6 ct6 : Value} {f7 : Addr} {od7 an7 : Option Addr} {sl7 : Array (Option Value)} {oc7 kV7 dc7 pm7 cd7 ct7 : Value} {f8 : Addr} {od8 an8 : Option Addr} {sl8 : Array (Option Value)} {oc8 kV8 dc8 pm8 cd8 ct8 : Value} {f9 : Addr} {od9 an9 : Option Addr} {sl9 : Array (Option Value)} {oc9 kV9 dc9 pm9 cd9 ct9 : Value} {f10 : Addr} {od10 an10 : Option Addr} {sl10 : Array (Option Value)} {oc10 kV10 dc10 pm10 cd10 ct10 : Value} {f11 : Addr} {od11 an11 : Option Addr} {sl11 : Array (Option Value)} {oc11 kV11 dc11 pm11 cd11 ct11 : Value} {f12 : Addr} {od12 an12 : Option Addr} {sl12 : Array (Option Value)} {oc12 kV12 dc12 pm12 cd12 ct12 : Value} {f13 : Addr} {od13 an13 : Option Addr} {sl13 : Array (Option Value)} {oc13 kV13 dc13 pm13 cd13 ct13 : Value} {f14 : Addr} {od14 an14 : Option Addr} {sl14 : Array (Option Value)} {oc14 kV14 dc14 pm14 cd14 ct14 : Value} {f15 : Addr} {od15 an15 : Option Addr} {sl15 : Array (Option Value)} {oc15 kV15 dc15 pm15 cd15 ct15 : Value} {f16 : Addr} {od16 an16 : Option Addr} {sl16 : Array (Option Value)} {oc16 kV16 dc16 pm16 cd16 ct16 : Value} {f17 : Addr} {od17 an17 : Option Addr} {sl17 : Array (Option Value)} {oc17 kV17 dc17 pm17 cd17 ct17 : Value} {f18 : Addr} {od18 an18 : Option Addr} {sl18 : Array (Option Value)} {oc18 kV18 dc18 pm18 cd18 ct18 : Value} {f19 : Addr} {od19 an19 : Option Addr} {sl19 : Array (Option Value)} {oc19 kV19 dc19 pm19 cd19 ct19 : Value} {f20 : Addr} {od20 an20 : Option Addr} {sl20 : Array (Option Value)} {oc20 kV20 dc20 pm20 cd20 ct20 : Value} {f21 : Addr} {od21 an21 : Option Addr} {sl21 : Array (Option Value)} {oc21 kV21 dc21 pm21 cd21 ct21 : Value} {f22 : Addr} {od22 an22 : Option Addr} {sl22 : Array (Option Value)} {oc22 kV22 dc22 pm22 cd22 ct22 : Value} {f23 : Addr} {od23 an23 : Option Addr} {sl23 : Array (Option Value)} {oc23 kV23 dc23 pm23 cd23 ct23 : Value} {f24 : Addr} {od24 an24 : Option Addr} {sl24 : Array (Option Value)} {oc24 kV24 dc24 pm24 cd24 ct24 : Value} {f25 : Addr} {od25 an25 : Option Addr} {sl25 : Array (Option Value)} {oc25 kV25 dc25 pm25 cd25 ct25 : Value} {f26 : Addr} {od26 an26 : Option Addr} {sl26 : Array (Option Value)} {oc26 kV26 dc26 pm26 cd26 ct26 : Value} {f27 : Addr} {od27 an27 : Option Addr} {sl27 : Array (Option Value)} {oc27 kV27 dc27 pm27 cd27 ct27 : Value} {f28 : Addr} {od28 an28 : Option Addr} {sl28 : Array (Option Value)} {oc28 kV28 dc28 pm28 cd28 ct28 : Value} {f29 : Addr} {od29 an29 : Option Addr} {sl29 : Array (Option Value)} {oc29 kV29 dc29 pm29 cd29 ct29 : Value} {f30 : Addr} {od30 an30 : Option Addr} {sl30 : Array (Option Value)} {oc30 kV30 dc30 pm30 cd30 ct30 : Value} {f31 : Addr} {od31 an31 : Option Addr} {sl31 : Array (Option Value)} {oc31 kV31 dc31 pm31 cd31 ct31 : Value} {f32 : Addr} {od32 an32 : Option Addr} {sl32 : Array (Option Value)} {oc32 kV32 dc32 pm32 cd32 ct32 : Value}
    (a0 : PySem.W.nsIn K mainGlobals "branches" = some (some (.ref f0)))
    (l0 : K.lookup f0 = some ⟨oc0, od0, .func (PySem.W.fnOf "branches" "branches" (defArgs sBrs) (defBody sBrs) (defScope sBrs) .none kV0 dc0 pm0 an0 cd0 ct0), sl0⟩)
    (c0 : PySem.W.codeIn K cd0 "branches" = true) (k0 : PySem.W.keepIn K (.ref f0) = true)
    (a1 : PySem.W.nsIn K mainGlobals "outcomes_of" = some (some (.ref f1)))
    (l1 : K.lookup f1 = some ⟨oc1, od1, .func (PySem.W.fnOf "outcomes_of" "outcomes_of" (defArgs sOuts) (defBody sOuts) (defScope sOuts) .none kV1 dc1 pm1 an1 cd1 ct1), sl1⟩)
    (c1 : PySem.W.codeIn K cd1 "outcomes_of" = true) (k1 : PySem.W.keepIn K (.ref f1) = true)
    (a2 : PySem.W.nsIn K mainGlobals "all_outcomes" = some (some (.ref f2)))
    (l2 : K.lookup f2 = some ⟨oc2, od2, .func (PySem.W.fnOf "all_outcomes" "all_outcomes" (defArgs sAll) (defBody sAll) (defScope sAll) .none kV2 dc2 pm2 an2 cd2 ct2), sl2⟩)
    (c2 : PySem.W.codeIn K cd2 "all_outcomes" = true) (k2 : PySem.W.keepIn K (.ref f2) = true)
    (a3 : PySem.W.nsIn K mainGlobals "_times" = some (some (.ref f3)))
    (l3 : K.lookup f3 = some ⟨oc3, od3, .func (PySem.W.fnOf "_times" "_times" (defArgs sTimes) (defBody sTimes) (defScope sTimes) .none kV3 dc3 pm3 an3 cd3 ct3), sl3⟩)
    (c3 : PySem.W.codeIn K cd3 "_times" = true) (k3 : PySem.W.keepIn K (.ref f3) = true)
    (a4 : PySem.W.nsIn K mainGlobals "_newest" = some (some (.ref f4)))
    (l4 : K.lookup f4 = some ⟨oc4, od4, .func (PySem.W.fnOf "_newest" "_newest" (defArgs sNew) (defBody sNew) (defScope sNew) .none kV4 dc4 pm4 an4 cd4 ct4), sl4⟩)
    (c4 : PySem.W.codeIn K cd4 "_newest" = true) (k4 : PySem.W.keepIn K (.ref f4) = true)
    (a5 : PySem.W.nsIn K mainGlobals "history_at" = some (some (.ref f5)))
    (l5 : K.lookup f5 = some ⟨oc5, od5, .func (PySem.W.fnOf "history_at" "history_at" (defArgs sHist) (defBody sHist) (defScope sHist) .none kV5 dc5 pm5 an5 cd5 ct5), sl5⟩)
    (c5 : PySem.W.codeIn K cd5 "history_at" = true) (k5 : PySem.W.keepIn K (.ref f5) = true)
    (a6 : PySem.W.nsIn K mainGlobals "_binary" = some (some (.ref f6)))
    (l6 : K.lookup f6 = some ⟨oc6, od6, .func (PySem.W.fnOf "_binary" "_binary" (defArgs sBin) (defBody sBin) (defScope sBin) .none kV6 dc6 pm6 an6 cd6 ct6), sl6⟩)
    (c6 : PySem.W.codeIn K cd6 "_binary" = true) (k6 : PySem.W.keepIn K (.ref f6) = true)
    (a7 : PySem.W.nsIn K mainGlobals "fold" = some (some (.ref f7)))
    (l7 : K.lookup f7 = some ⟨oc7, od7, .func (PySem.W.fnOf "fold" "fold" (defArgs sFold) (defBody sFold) (defScope sFold) .none kV7 dc7 pm7 an7 cd7 ct7), sl7⟩)
    (c7 : PySem.W.codeIn K cd7 "fold" = true) (k7 : PySem.W.keepIn K (.ref f7) = true)
    (a8 : PySem.W.nsIn K mainGlobals "cell_of" = some (some (.ref f8)))
    (l8 : K.lookup f8 = some ⟨oc8, od8, .func (PySem.W.fnOf "cell_of" "cell_of" (defArgs sCellOf) (defBody sCellOf) (defScope sCellOf) .none kV8 dc8 pm8 an8 cd8 ct8), sl8⟩)
    (c8 : PySem.W.codeIn K cd8 "cell_of" = true) (k8 : PySem.W.keepIn K (.ref f8) = true)
    (a9 : PySem.W.nsIn K mainGlobals "cell_at" = some (some (.ref f9)))
    (l9 : K.lookup f9 = some ⟨oc9, od9, .func (PySem.W.fnOf "cell_at" "cell_at" (defArgs sCellAt) (defBody sCellAt) (defScope sCellAt) .none kV9 dc9 pm9 an9 cd9 ct9), sl9⟩)
    (c9 : PySem.W.codeIn K cd9 "cell_at" = true) (k9 : PySem.W.keepIn K (.ref f9) = true)
    (a10 : PySem.W.nsIn K mainGlobals "_steady_moment" = some (some (.ref f10)))
    (l10 : K.lookup f10 = some ⟨oc10, od10, .func (PySem.W.fnOf "_steady_moment" "_steady_moment" (defArgs sMom) (defBody sMom) (defScope sMom) .none kV10 dc10 pm10 an10 cd10 ct10), sl10⟩)
    (c10 : PySem.W.codeIn K cd10 "_steady_moment" = true) (k10 : PySem.W.keepIn K (.ref f10) = true)
    (a11 : PySem.W.nsIn K mainGlobals "steady_cells" = some (some (.ref f11)))
    (l11 : K.lookup f11 = some ⟨oc11, od11, .func (PySem.W.fnOf "steady_cells" "steady_cells" (defArgs sSCells) (defBody sSCells) (defScope sSCells) .none kV11 dc11 pm11 an11 cd11 ct11), sl11⟩)
    (c11 : PySem.W.codeIn K cd11 "steady_cells" = true) (k11 : PySem.W.keepIn K (.ref f11) = true)
    (a12 : PySem.W.nsIn K mainGlobals "groups" = some (some (.ref f12)))
    (l12 : K.lookup f12 = some ⟨oc12, od12, .func (PySem.W.fnOf "groups" "groups" (defArgs sGroups) (defBody sGroups) (defScope sGroups) .none kV12 dc12 pm12 an12 cd12 ct12), sl12⟩)
    (c12 : PySem.W.codeIn K cd12 "groups" = true) (k12 : PySem.W.keepIn K (.ref f12) = true)
    (a13 : PySem.W.nsIn K mainGlobals "_parted" = some (some (.ref f13)))
    (l13 : K.lookup f13 = some ⟨oc13, od13, .func (PySem.W.fnOf "_parted" "_parted" (defArgs sParted) (defBody sParted) (defScope sParted) .none kV13 dc13 pm13 an13 cd13 ct13), sl13⟩)
    (c13 : PySem.W.codeIn K cd13 "_parted" = true) (k13 : PySem.W.keepIn K (.ref f13) = true)
    (a14 : PySem.W.nsIn K mainGlobals "forced" = some (some (.ref f14)))
    (l14 : K.lookup f14 = some ⟨oc14, od14, .func (PySem.W.fnOf "forced" "forced" (defArgs sForced) (defBody sForced) (defScope sForced) .none kV14 dc14 pm14 an14 cd14 ct14), sl14⟩)
    (c14 : PySem.W.codeIn K cd14 "forced" = true) (k14 : PySem.W.keepIn K (.ref f14) = true)
    (a15 : PySem.W.nsIn K mainGlobals "fewest_errors" = some (some (.ref f15)))
    (l15 : K.lookup f15 = some ⟨oc15, od15, .func (PySem.W.fnOf "fewest_errors" "fewest_errors" (defArgs sFewP) (defBody sFewP) (defScope sFewP) .none kV15 dc15 pm15 an15 cd15 ct15), sl15⟩)
    (c15 : PySem.W.codeIn K cd15 "fewest_errors" = true) (k15 : PySem.W.keepIn K (.ref f15) = true)
    (a16 : PySem.W.nsIn K mainGlobals "scheme_of" = some (some (.ref f16)))
    (l16 : K.lookup f16 = some ⟨oc16, od16, .func (PySem.W.fnOf "scheme_of" "scheme_of" (defArgs sSchOf) (defBody sSchOf) (defScope sSchOf) .none kV16 dc16 pm16 an16 cd16 ct16), sl16⟩)
    (c16 : PySem.W.codeIn K cd16 "scheme_of" = true) (k16 : PySem.W.keepIn K (.ref f16) = true)
    (a17 : PySem.W.nsIn K mainGlobals "shortest_within" = some (some (.ref f17)))
    (l17 : K.lookup f17 = some ⟨oc17, od17, .func (PySem.W.fnOf "shortest_within" "shortest_within" (defArgs sShort) (defBody sShort) (defScope sShort) .none kV17 dc17 pm17 an17 cd17 ct17), sl17⟩)
    (c17 : PySem.W.codeIn K cd17 "shortest_within" = true) (k17 : PySem.W.keepIn K (.ref f17) = true)
    (a18 : PySem.W.nsIn K mainGlobals "_law_box" = some (some (.ref f18)))
    (l18 : K.lookup f18 = some ⟨oc18, od18, .func (PySem.W.fnOf "_law_box" "_law_box" (defArgs sBox) (defBody sBox) (defScope sBox) .none kV18 dc18 pm18 an18 cd18 ct18), sl18⟩)
    (c18 : PySem.W.codeIn K cd18 "_law_box" = true) (k18 : PySem.W.keepIn K (.ref f18) = true)
    (a19 : PySem.W.nsIn K mainGlobals "_law_take" = some (some (.ref f19)))
    (l19 : K.lookup f19 = some ⟨oc19, od19, .func (PySem.W.fnOf "_law_take" "_law_take" (defArgs sTake) (defBody sTake) (defScope sTake) .none kV19 dc19 pm19 an19 cd19 ct19), sl19⟩)
    (c19 : PySem.W.codeIn K cd19 "_law_take" = true) (k19 : PySem.W.keepIn K (.ref f19) = true)
    (a20 : PySem.W.nsIn K mainGlobals "_law_of" = some (some (.ref f20)))
    (l20 : K.lookup f20 = some ⟨oc20, od20, .func (PySem.W.fnOf "_law_of" "_law_of" (defArgs sOf) (defBody sOf) (defScope sOf) .none kV20 dc20 pm20 an20 cd20 ct20), sl20⟩)
    (c20 : PySem.W.codeIn K cd20 "_law_of" = true) (k20 : PySem.W.keepIn K (.ref f20) = true)
    (a21 : PySem.W.nsIn K mainGlobals "_law_row" = some (some (.ref f21)))
    (l21 : K.lookup f21 = some ⟨oc21, od21, .func (PySem.W.fnOf "_law_row" "_law_row" (defArgs sRow) (defBody sRow) (defScope sRow) .none kV21 dc21 pm21 an21 cd21 ct21), sl21⟩)
    (c21 : PySem.W.codeIn K cd21 "_law_row" = true) (k21 : PySem.W.keepIn K (.ref f21) = true)
    (a22 : PySem.W.nsIn K mainGlobals "_law_loop" = some (some (.ref f22)))
    (l22 : K.lookup f22 = some ⟨oc22, od22, .func (PySem.W.fnOf "_law_loop" "_law_loop" (defArgs sLoop) (defBody sLoop) (defScope sLoop) .none kV22 dc22 pm22 an22 cd22 ct22), sl22⟩)
    (c22 : PySem.W.codeIn K cd22 "_law_loop" = true) (k22 : PySem.W.keepIn K (.ref f22) = true)
    (a23 : PySem.W.nsIn K mainGlobals "_law_folded" = some (some (.ref f23)))
    (l23 : K.lookup f23 = some ⟨oc23, od23, .func (PySem.W.fnOf "_law_folded" "_law_folded" (defArgs sLFold) (defBody sLFold) (defScope sLFold) .none kV23 dc23 pm23 an23 cd23 ct23), sl23⟩)
    (c23 : PySem.W.codeIn K cd23 "_law_folded" = true) (k23 : PySem.W.keepIn K (.ref f23) = true)
    (a24 : PySem.W.nsIn K mainGlobals "_law_cell" = some (some (.ref f24)))
    (l24 : K.lookup f24 = some ⟨oc24, od24, .func (PySem.W.fnOf "_law_cell" "_law_cell" (defArgs sLCell) (defBody sLCell) (defScope sLCell) .none kV24 dc24 pm24 an24 cd24 ct24), sl24⟩)
    (c24 : PySem.W.codeIn K cd24 "_law_cell" = true) (k24 : PySem.W.keepIn K (.ref f24) = true)
    (a25 : PySem.W.nsIn K mainGlobals "_law_past" = some (some (.ref f25)))
    (l25 : K.lookup f25 = some ⟨oc25, od25, .func (PySem.W.fnOf "_law_past" "_law_past" (defArgs sLPast) (defBody sLPast) (defScope sLPast) .none kV25 dc25 pm25 an25 cd25 ct25), sl25⟩)
    (c25 : PySem.W.codeIn K cd25 "_law_past" = true) (k25 : PySem.W.keepIn K (.ref f25) = true)
    (a26 : PySem.W.nsIn K mainGlobals "_law_steady" = some (some (.ref f26)))
    (l26 : K.lookup f26 = some ⟨oc26, od26, .func (PySem.W.fnOf "_law_steady" "_law_steady" (defArgs sSteady) (defBody sSteady) (defScope sSteady) .none kV26 dc26 pm26 an26 cd26 ct26), sl26⟩)
    (c26 : PySem.W.codeIn K cd26 "_law_steady" = true) (k26 : PySem.W.keepIn K (.ref f26) = true)
    (a27 : PySem.W.nsIn K mainGlobals "_law_rows" = some (some (.ref f27)))
    (l27 : K.lookup f27 = some ⟨oc27, od27, .func (PySem.W.fnOf "_law_rows" "_law_rows" (defArgs sRows) (defBody sRows) (defScope sRows) .none kV27 dc27 pm27 an27 cd27 ct27), sl27⟩)
    (c27 : PySem.W.codeIn K cd27 "_law_rows" = true) (k27 : PySem.W.keepIn K (.ref f27) = true)
    (a28 : PySem.W.nsIn K mainGlobals "_law_least" = some (some (.ref f28)))
    (l28 : K.lookup f28 = some ⟨oc28, od28, .func (PySem.W.fnOf "_law_least" "_law_least" (defArgs sLeast) (defBody sLeast) (defScope sLeast) .none kV28 dc28 pm28 an28 cd28 ct28), sl28⟩)
    (c28 : PySem.W.codeIn K cd28 "_law_least" = true) (k28 : PySem.W.keepIn K (.ref f28) = true)
    (a29 : PySem.W.nsIn K mainGlobals "_law_of_kind" = some (some (.ref f29)))
    (l29 : K.lookup f29 = some ⟨oc29, od29, .func (PySem.W.fnOf "_law_of_kind" "_law_of_kind" (defArgs sKind) (defBody sKind) (defScope sKind) .none kV29 dc29 pm29 an29 cd29 ct29), sl29⟩)
    (c29 : PySem.W.codeIn K cd29 "_law_of_kind" = true) (k29 : PySem.W.keepIn K (.ref f29) = true)
    (a30 : PySem.W.nsIn K mainGlobals "_law_is_shortest" = some (some (.ref f30)))
    (l30 : K.lookup f30 = some ⟨oc30, od30, .func (PySem.W.fnOf "_law_is_shortest" "_law_is_shortest" (defArgs sIsSh) (defBody sIsSh) (defScope sIsSh) .none kV30 dc30 pm30 an30 cd30 ct30), sl30⟩)
    (c30 : PySem.W.codeIn K cd30 "_law_is_shortest" = true) (k30 : PySem.W.keepIn K (.ref f30) = true)
    (a31 : PySem.W.nsIn K mainGlobals "_law_right" = some (some (.ref f31)))
    (l31 : K.lookup f31 = some ⟨oc31, od31, .func (PySem.W.fnOf "_law_right" "_law_right" (defArgs sRight) (defBody sRight) (defScope sRight) .none kV31 dc31 pm31 an31 cd31 ct31), sl31⟩)
    (c31 : PySem.W.codeIn K cd31 "_law_right" = true) (k31 : PySem.W.keepIn K (.ref f31) = true)
    (a32 : PySem.W.nsIn K mainGlobals "law" = some (some (.ref f32)))
    (l32 : K.lookup f32 = some ⟨oc32, od32, .func (PySem.W.fnOf "law" "law" (defArgs sLaw) (defBody sLaw) (defScope sLaw) .none kV32 dc32 pm32 an32 cd32 ct32), sl32⟩)
    (c32 : PySem.W.codeIn K cd32 "law" = true) (k32 : PySem.W.keepIn K (.ref f32) = true)
    (z0 : PySem.W.nsIn K mainGlobals "int" = some none)
    (z1 : PySem.W.nsIn K mainGlobals "len" = some none)
    (z2 : PySem.W.nsIn K mainGlobals "abs" = some none)
    (z3 : PySem.W.nsIn K mainGlobals "range" = some none)
    (z4 : PySem.W.nsIn K mainGlobals "enumerate" = some none)
    (z5 : PySem.W.nsIn K mainGlobals "max" = some none)
    (z6 : PySem.W.nsIn K mainGlobals "min" = some none)
    (z7 : PySem.W.nsIn K mainGlobals "all" = some none)
    (z8 : PySem.W.nsIn K mainGlobals "repr" = some none)
    (z9 : PySem.W.nsIn K mainGlobals "zip" = some none)
    (z10 : PySem.W.nsIn K mainGlobals "tuple" = some none)
    (z11 : PySem.W.nsIn K mainGlobals "str" = some none)
    (z12 : PySem.W.nsIn K mainGlobals "list" = some none)
    (z13 : PySem.W.nsIn K mainGlobals "sorted" = some none)
    (z14 : PySem.W.nsIn K mainGlobals "isinstance" = some none)
    (z15 : PySem.W.nsIn K mainGlobals "bool" = some none)
    (z16 : PySem.W.nsIn K mainGlobals "divmod" = some none)
    (z17 : PySem.W.nsIn K mainGlobals "sum" = some none)
    (z18 : PySem.W.nsIn K mainGlobals "any" = some none)
    (z19 : PySem.W.nsIn K mainGlobals "set" = some none)
    {tk0 : Tok} (q0 : PySem.W.nsIn K mainGlobals "MOST_LENGTH" = some (some (.int 64 tk0)))
    {DRS : Addr} {tkRS : Tok} (eRS : kV17 = .ref DRS)
    (nRS : PySem.W.nsIn K DRS "bits" = some (some (.int 0 tkRS)))
    : ∃ fd : FuncData, (∀ (s : Shared) (v : Value), BindsTo s fd ⟨[v], []⟩ [("_law_script", v)]) ∧ ∀ base : Heap, K.In base → base.Ns mainGlobals mg → FnG P w K mg base 11 fa fd ["_law_script"] (spLaw K) := by
  have e := hfa.symm.trans (PySem.W.mg_of X G a32)
  cases e
  have F0 := fun_mk (st := sBrs) l0 c0 k0
  have b0 := F0.binds (ps := ["trace"]) fun _ _ _ _ _ _ us hl => match us, hl with | [_], _ => rfl
  have g0 := PySem.W.mg_of X G a0
  have F1 := fun_mk (st := sOuts) l1 c1 k1
  have b1 := F1.binds (ps := ["trace", "branch"]) fun _ _ _ _ _ _ us hl => match us, hl with | [_, _], _ => rfl
  have g1 := PySem.W.mg_of X G a1
  have F2 := fun_mk (st := sAll) l2 c2 k2
  have b2 := F2.binds (ps := ["trace"]) fun _ _ _ _ _ _ us hl => match us, hl with | [_], _ => rfl
  have g2 := PySem.W.mg_of X G a2
  have F3 := fun_mk (st := sTimes) l3 c3 k3
  have b3 := F3.binds (ps := ["pairs", "branch"]) fun _ _ _ _ _ _ us hl => match us, hl with | [_, _], _ => rfl
  have g3 := PySem.W.mg_of X G a3
  have F4 := fun_mk (st := sNew) l4 c4 k4
  have b4 := F4.binds (ps := ["outcomes", "passed", "length"]) fun _ _ _ _ _ _ us hl => match us, hl with | [_, _, _], _ => rfl
  have g4 := PySem.W.mg_of X G a4
  have F5 := fun_mk (st := sHist) l5 c5 k5
  have b5 := F5.binds (ps := ["trace", "scheme", "moment"]) fun _ _ _ _ _ _ us hl => match us, hl with | [_, _, _], _ => rfl
  have g5 := PySem.W.mg_of X G a5
  have F6 := fun_mk (st := sBin) l6 c6 k6
  have b6 := F6.binds (ps := ["history"]) fun _ _ _ _ _ _ us hl => match us, hl with | [_], _ => rfl
  have g6 := PySem.W.mg_of X G a6
  have F7 := fun_mk (st := sFold) l7 c7 k7
  have b7 := F7.binds (ps := ["history", "bits", "branch"]) fun _ _ _ _ _ _ us hl => match us, hl with | [_, _, _], _ => rfl
  have g7 := PySem.W.mg_of X G a7
  have F8 := fun_mk (st := sCellOf) l8 c8 k8
  have b8 := F8.binds (ps := ["scheme", "branch", "history"]) fun _ _ _ _ _ _ us hl => match us, hl with | [_, _, _], _ => rfl
  have g8 := PySem.W.mg_of X G a8
  have F9 := fun_mk (st := sCellAt) l9 c9 k9
  have b9 := F9.binds (ps := ["trace", "scheme", "moment"]) fun _ _ _ _ _ _ us hl => match us, hl with | [_, _, _], _ => rfl
  have g9 := PySem.W.mg_of X G a9
  have F10 := fun_mk (st := sMom) l10 c10 k10
  have b10 := F10.binds (ps := ["trace", "scheme", "position"]) fun _ _ _ _ _ _ us hl => match us, hl with | [_, _, _], _ => rfl
  have g10 := PySem.W.mg_of X G a10
  have F11 := fun_mk (st := sSCells) l11 c11 k11
  have b11 := F11.binds (ps := ["trace", "scheme"]) fun _ _ _ _ _ _ us hl => match us, hl with | [_, _], _ => rfl
  have g11 := PySem.W.mg_of X G a11
  have F12 := fun_mk (st := sGroups) l12 c12 k12
  have b12 := F12.binds (ps := ["trace", "scheme"]) fun _ _ _ _ _ _ us hl => match us, hl with | [_, _], _ => rfl
  have g12 := PySem.W.mg_of X G a12
  have F13 := fun_mk (st := sParted) l13 c13 k13
  have b13 := F13.binds (ps := ["trace", "positions"]) fun _ _ _ _ _ _ us hl => match us, hl with | [_, _], _ => rfl
  have g13 := PySem.W.mg_of X G a13
  have F14 := fun_mk (st := sForced) l14 c14 k14
  have b14 := F14.binds (ps := ["trace", "scheme"]) fun _ _ _ _ _ _ us hl => match us, hl with | [_, _], _ => rfl
  have g14 := PySem.W.mg_of X G a14
  have F15 := fun_mk (st := sFewP) l15 c15 k15
  have b15 := F15.binds (ps := ["trace", "scheme"]) fun _ _ _ _ _ _ us hl => match us, hl with | [_, _], _ => rfl
  have g15 := PySem.W.mg_of X G a15
  have F16 := fun_mk (st := sSchOf) l16 c16 k16
  have b16 := F16.binds (ps := ["word", "length", "bits"]) fun _ _ _ _ _ _ us hl => match us, hl with | [_, _, _], _ => rfl
  have g16 := PySem.W.mg_of X G a16
  have F17 := fun_mk (st := sShort) l17 c17 k17
  have g17 := PySem.W.mg_of X G a17
  have F18 := fun_mk (st := sBox) l18 c18 k18
  have b18 := F18.binds (ps := ["_law_script", "_law_k"]) fun _ _ _ _ _ _ us hl => match us, hl with | [_, _], _ => rfl
  have g18 := PySem.W.mg_of X G a18
  have F19 := fun_mk (st := sTake) l19 c19 k19
  have b19 := F19.binds (ps := ["_law_box_here", "_law_many"]) fun _ _ _ _ _ _ us hl => match us, hl with | [_, _], _ => rfl
  have g19 := PySem.W.mg_of X G a19
  have F20 := fun_mk (st := sOf) l20 c20 k20
  have b20 := F20.binds (ps := ["_law_box_here", "_law_some"]) fun _ _ _ _ _ _ us hl => match us, hl with | [_, _], _ => rfl
  have g20 := PySem.W.mg_of X G a20
  have F21 := fun_mk (st := sRow) l21 c21 k21
  have b21 := F21.binds (ps := ["_law_box_here", "_law_most"]) fun _ _ _ _ _ _ us hl => match us, hl with | [_, _], _ => rfl
  have g21 := PySem.W.mg_of X G a21
  have F22 := fun_mk (st := sLoop) l22 c22 k22
  have b22 := F22.binds (ps := ["_law_box_here", "_law_most", "_law_homes"]) fun _ _ _ _ _ _ us hl => match us, hl with | [_, _, _], _ => rfl
  have g22 := PySem.W.mg_of X G a22
  have F23 := fun_mk (st := sLFold) l23 c23 k23
  have b23 := F23.binds (ps := ["_law_past_here", "_law_width", "_law_home"]) fun _ _ _ _ _ _ us hl => match us, hl with | [_, _, _], _ => rfl
  have g23 := PySem.W.mg_of X G a23
  have F24 := fun_mk (st := sLCell) l24 c24 k24
  have b24 := F24.binds (ps := ["_law_plan", "_law_home", "_law_past_here"]) fun _ _ _ _ _ _ us hl => match us, hl with | [_, _, _], _ => rfl
  have g24 := PySem.W.mg_of X G a24
  have F25 := fun_mk (st := sLPast) l25 c25 k25
  have b25 := F25.binds (ps := ["_law_loop_here", "_law_plan", "_law_time"]) fun _ _ _ _ _ _ us hl => match us, hl with | [_, _, _], _ => rfl
  have g25 := PySem.W.mg_of X G a25
  have F26 := fun_mk (st := sSteady) l26 c26 k26
  have b26 := F26.binds (ps := ["_law_loop_here", "_law_plan"]) fun _ _ _ _ _ _ us hl => match us, hl with | [_, _], _ => rfl
  have g26 := PySem.W.mg_of X G a26
  have F27 := fun_mk (st := sRows) l27 c27 k27
  have b27 := F27.binds (ps := ["_law_loop_here", "_law_cells"]) fun _ _ _ _ _ _ us hl => match us, hl with | [_, _], _ => rfl
  have g27 := PySem.W.mg_of X G a27
  have F28 := fun_mk (st := sLeast) l28 c28 k28
  have b28 := F28.binds (ps := ["_law_loop_here", "_law_plan"]) fun _ _ _ _ _ _ us hl => match us, hl with | [_, _], _ => rfl
  have g28 := PySem.W.mg_of X G a28
  have F29 := fun_mk (st := sKind) l29 c29 k29
  have b29 := F29.binds (ps := ["_law_kind", "_law_size", "_law_width"]) fun _ _ _ _ _ _ us hl => match us, hl with | [_, _, _], _ => rfl
  have g29 := PySem.W.mg_of X G a29
  have F30 := fun_mk (st := sIsSh) l30 c30 k30
  have b30 := F30.binds (ps := ["_law_loop_here", "_law_kind", "_law_width", "_law_budget", "_law_told"]) fun _ _ _ _ _ _ us hl => match us, hl with | [_, _, _, _, _], _ => rfl
  have g30 := PySem.W.mg_of X G a30
  have F31 := fun_mk (st := sRight) l31 c31 k31
  have b31 := F31.binds (ps := ["_law_box_here"]) fun _ _ _ _ _ _ us hl => match us, hl with | [_], _ => rfl
  have g31 := PySem.W.mg_of X G a31
  have F32 := fun_mk (st := sLaw) l32 c32 k32
  have n_int := PySem.W.mg_none_of X G z0
  have n_len := PySem.W.mg_none_of X G z1
  have n_abs := PySem.W.mg_none_of X G z2
  have n_range := PySem.W.mg_none_of X G z3
  have n_enumerate := PySem.W.mg_none_of X G z4
  have n_max := PySem.W.mg_none_of X G z5
  have n_min := PySem.W.mg_none_of X G z6
  have n_all := PySem.W.mg_none_of X G z7
  have n_repr := PySem.W.mg_none_of X G z8
  have n_zip := PySem.W.mg_none_of X G z9
  have n_tuple := PySem.W.mg_none_of X G z10
  have n_str := PySem.W.mg_none_of X G z11
  have n_list := PySem.W.mg_none_of X G z12
  have n_sorted := PySem.W.mg_none_of X G z13
  have n_isinstance := PySem.W.mg_none_of X G z14
  have n_bool := PySem.W.mg_none_of X G z15
  have n_divmod := PySem.W.mg_none_of X G z16
  have n_sum := PySem.W.mg_none_of X G z17
  have n_any := PySem.W.mg_none_of X G z18
  have n_set := PySem.W.mg_none_of X G z19
  have c_MOST_LENGTH : ∃ u, mg "MOST_LENGTH" = some u ∧ RelV (.int 64) u := ⟨_, PySem.W.mg_of X G q0, _, rfl⟩
  refine ⟨PySem.W.fnOf "law" "law" (defArgs sLaw) (defBody sLaw) (defScope sLaw) .none kV32 dc32 pm32 an32 cd32 ct32, fun s v => .of_eq rfl, fun base _ _ => ?_⟩
  have Dbranches : Dfn P w K mg base 1 "branches" ["trace"] (spBrs K) := ⟨_, _, ok_brs (k := 0) n_tuple n_sorted F0, g0, F0.kp, b0⟩
  have Doutcomes_of : Dfn P w K mg base 2 "outcomes_of" ["trace", "branch"] (spOuts K) := ⟨_, _, ok_outs Dbranches n_isinstance n_bool n_tuple F1, g1, F1.kp, b1⟩
  have Dall_outcomes : Dfn P w K mg base 1 "all_outcomes" ["trace"] (spAll K) := ⟨_, _, ok_all (k := 0) n_tuple F2, g2, F2.kp, b2⟩
  have Dtimes : Dfn P w K mg base 1 "_times" ["pairs", "branch"] (spTimes K) := ⟨_, _, ok_times (k := 0) n_len F3, g3, F3.kp, b3⟩
  have Dnewest : Dfn P w K mg base 1 "_newest" ["outcomes", "passed", "length"] (spNew K) := ⟨_, _, ok_new (k := 0) n_max n_min n_len n_str F4, g4, F4.kp, b4⟩
  have Dhistory_at : Dfn P w K mg base 3 "history_at" ["trace", "scheme", "moment"] (spHist K) := ⟨_, _, ok_hist Doutcomes_of Dall_outcomes Dtimes Dnewest n_len n_divmod F5, g5, F5.kp, b5⟩
  have Dbinary : Dfn P w K mg base 1 "_binary" ["history"] spBin := ⟨_, _, ok_bin n_int F6, g6, F6.kp, b6⟩
  have Dfold : Dfn P w K mg base 2 "fold" ["history", "bits", "branch"] spFold := ⟨_, _, ok_fold Dbinary n_divmod F7, g7, F7.kp, b7⟩
  have Dcell_of : Dfn P w K mg base 3 "cell_of" ["scheme", "branch", "history"] (spCellC K) := ⟨_, _, ok_cellC Dfold F8, g8, F8.kp, b8⟩
  have Dcell_at : Dfn P w K mg base 4 "cell_at" ["trace", "scheme", "moment"] (spCellAtC K) := ⟨_, _, ok_cellAtC Dhistory_at Dcell_of n_len F9, g9, F9.kp, b9⟩
  have Dsteady_moment : Dfn P w K mg base 1 "_steady_moment" ["trace", "scheme", "position"] (spMom K) := ⟨_, _, ok_mom (k := 0) n_len F10, g10, F10.kp, b10⟩
  have Dsteady_cells : Dfn P w K mg base 5 "steady_cells" ["trace", "scheme"] (spSCellsC K) := ⟨_, _, ok_scellsC Dsteady_moment Dcell_at n_len n_range n_tuple F11, g11, F11.kp, b11⟩
  have Dgroups : Dfn P w K mg base 6 "groups" ["trace", "scheme"] (spGroups K) := ⟨_, _, ok_groups Dsteady_cells n_enumerate n_sorted n_tuple F12, g12, F12.kp, b12⟩
  have Dparted : Dfn P w K mg base 1 "_parted" ["trace", "positions"] (spParted K) := ⟨_, _, ok_parted (kk := 0) F13, g13, F13.kp, b13⟩
  have Dforced : Dfn P w K mg base 7 "forced" ["trace", "scheme"] (spForcedP K) := ⟨_, _, ok_forcedP Dgroups Dparted n_zip n_min n_max n_sorted n_tuple F14, g14, F14.kp, b14⟩
  have Dfewest_errors : Dfn P w K mg base 8 "fewest_errors" ["trace", "scheme"] (spFewN K) := ⟨_, _, ok_fewN Dforced n_len F15, g15, F15.kp, b15⟩
  have Dscheme_of : Dfn P w K mg base 1 "scheme_of" ["word", "length", "bits"] (spKind K) := ⟨_, _, ok_schOf F16, g16, F16.kp, b16⟩
  have Dlaw_box : Dfn P w K mg base 1 "_law_box" ["_law_script", "_law_k"] (spBox K) := ⟨_, _, ok_box n_len n_abs n_int F18, g18, F18.kp, b18⟩
  have Dlaw_take : Dfn P w K mg base 1 "_law_take" ["_law_box_here", "_law_many"] spTake := ⟨_, _, ok_take F19, g19, F19.kp, b19⟩
  have Dlaw_of : Dfn P w K mg base 2 "_law_of" ["_law_box_here", "_law_some"] (spOf K) := ⟨_, _, ok_of Dlaw_take n_len F20, g20, F20.kp, b20⟩
  have Dlaw_row : Dfn P w K mg base 2 "_law_row" ["_law_box_here", "_law_most"] (spRow K) := ⟨_, _, ok_row Dlaw_take n_range n_min n_tuple n_len F21, g21, F21.kp, b21⟩
  have Dlaw_loop : Dfn P w K mg base 3 "_law_loop" ["_law_box_here", "_law_most", "_law_homes"] (spLoop K) := ⟨_, _, ok_loop Dlaw_take Dlaw_row n_tuple n_enumerate n_len F22, g22, F22.kp, b22⟩
  have Dlaw_folded : Dfn P w K mg base 1 "_law_folded" ["_law_past_here", "_law_width", "_law_home"] spLFold := ⟨_, _, ok_lfold (k := 0) n_int F23, g23, F23.kp, b23⟩
  have Dlaw_cell : Dfn P w K mg base 2 "_law_cell" ["_law_plan", "_law_home", "_law_past_here"] (spCellC K) := ⟨_, _, ok_lcellC Dlaw_folded F24, g24, F24.kp, b24⟩
  have Dlaw_past : Dfn P w K mg base 1 "_law_past" ["_law_loop_here", "_law_plan", "_law_time"] (spHist K) := ⟨_, _, ok_lpast (kk := 0) n_len n_str F25, g25, F25.kp, b25⟩
  have Dlaw_steady : Dfn P w K mg base 3 "_law_steady" ["_law_loop_here", "_law_plan"] (spSteadyC K) := ⟨_, _, ok_steadyC Dlaw_past Dlaw_cell n_enumerate n_len F26, g26, F26.kp, b26⟩
  have Dlaw_rows : Dfn P w K mg base 1 "_law_rows" ["_law_loop_here", "_law_cells"] (spRows K) := ⟨_, _, ok_rows (kk := 0) n_zip F27, g27, F27.kp, b27⟩
  have Dlaw_least : Dfn P w K mg base 4 "_law_least" ["_law_loop_here", "_law_plan"] (spLeast K) := ⟨_, _, ok_least Dlaw_rows Dlaw_steady n_sum n_min F28, g28, F28.kp, b28⟩
  have Dlaw_of_kind : Dfn P w K mg base 1 "_law_of_kind" ["_law_kind", "_law_size", "_law_width"] (spKind K) := ⟨_, _, ok_kind F29, g29, F29.kp, b29⟩
  subst eRS
  have hqR : ∀ q ∈ [(("bits" : Str), V.int 0)], ∃ u, PySem.W.nsIn K DRS q.1 = some (some u) ∧ RelV q.2 u := fun q hq => by
    obtain rfl := List.mem_singleton.mp hq
    exact ⟨_, nRS, _, rfl⟩
  have FL := ok_short Dfewest_errors Dscheme_of c_MOST_LENGTH n_range F17
  obtain ⟨dsR, rR, bR⟩ := kw_binds (ps := ["trace", "word", "errors", "bits"]) 3 [("bits", V.int 0)] l17 c17 k17 (by decide) rfl hqR (fun D doc pm an cdv ct us ks h1 h2 => match us, ks, h1, h2 with | [_, _, _], [_], _, _ => ⟨_, _, _, _, _, _, rfl, rfl, rfl⟩)
  have DS0 : DfD P w K mg base 9 "shortest_within" ["trace", "word", "errors", "bits"] [.int 0] (spShort K) := ⟨_, _, dsR, FL, g17, F17.kp, bR, rR⟩
  have DS2 : DfN P w K mg base 9 "shortest_within" ["trace", "word", "errors", "bits"] 3 ["bits"] (fun vs zs => vs ++ zs) (spShort K) := ⟨_, _, fun us ws => us ++ ws, FL, g17, F17.kp, ⟨fun s us ws _ h1 h2 => match us, ws, h1, h2 with | [_, _, _], [_], _, _ => .of_eq rfl, fun r1 r2 => r1.append r2⟩⟩
  have DleastN : Dfn P w K mg base 4 "_law_least" ["_law_loop_here", "_law_plan"] (spFewN K) := Dfn.imp Dlaw_least fun vs H Q E h => least_few h
  have Dlaw_is_shortest : Dfn P w K mg base 5 "_law_is_shortest" ["_law_loop_here", "_law_kind", "_law_width", "_law_budget", "_law_told"] (spIsSh K) := ⟨_, _, ok_isSh DleastN Dlaw_of_kind n_range n_all n_any n_isinstance n_int n_bool F30, g30, F30.kp, b30⟩
  have Dlaw_right : DfG P w K mg base 10 "_law_right" ["_law_box_here"] spRight := ⟨_, _, ok_right Dlaw_take Dlaw_of Dlaw_loop DleastN Dlaw_is_shortest DS0 DS2 F31, g31, F31.kp, b31⟩
  exact ok_law Dlaw_box Dlaw_right n_range n_max n_min n_len n_all F32
end Pf
open PySem PySem.W PyProof.Rows
set_option maxHeartbeats 0 in
theorem PySem.Challenge.cw_pastenough_k47_shortest_histories_within_holds : PySem.Challenge.rw_pastenough_k47_shortest_histories_within.Holds := by
  w_on; o_law; k_headL; (case hw => w_witness2)
  k_fill
  refine Gk.walkG (l := PySem.Challenge.rw_pastenough_k47_shortest_histories_within) (n := 63) (k := 11) (x := "_law_script") (sp := fun w => Pf.spLaw _) rfl (by decide) rfl ⟨rfl, by decide, by decide⟩ (fun w h Y => PySem.W.kIn_of Y) ?F (fun _ _ a ns hl hO hS => Pf.law_start hl hO hS)
  case F =>
    intro w mg fa h KX G hmg
    refine' Pf.all_mk KX G hmg ?a0 ?l0 ?c0 ?k0 ?a1 ?l1 ?c1 ?k1 ?a2 ?l2 ?c2 ?k2 ?a3 ?l3 ?c3 ?k3 ?a4 ?l4 ?c4 ?k4 ?a5 ?l5 ?c5 ?k5 ?a6 ?l6 ?c6 ?k6 ?a7 ?l7 ?c7 ?k7 ?a8 ?l8 ?c8 ?k8 ?a9 ?l9 ?c9 ?k9 ?a10 ?l10 ?c10 ?k10 ?a11 ?l11 ?c11 ?k11 ?a12 ?l12 ?c12 ?k12 ?a13 ?l13 ?c13 ?k13 ?a14 ?l14 ?c14 ?k14 ?a15 ?l15 ?c15 ?k15 ?a16 ?l16 ?c16 ?k16 ?a17 ?l17 ?c17 ?k17 ?a18 ?l18 ?c18 ?k18 ?a19 ?l19 ?c19 ?k19 ?a20 ?l20 ?c20 ?k20 ?a21 ?l21 ?c21 ?k21 ?a22 ?l22 ?c22 ?k22 ?a23 ?l23 ?c23 ?k23 ?a24 ?l24 ?c24 ?k24 ?a25 ?l25 ?c25 ?k25 ?a26 ?l26 ?c26 ?k26 ?a27 ?l27 ?c27 ?k27 ?a28 ?l28 ?c28 ?k28 ?a29 ?l29 ?c29 ?k29 ?a30 ?l30 ?c30 ?k30 ?a31 ?l31 ?c31 ?k31 ?a32 ?l32 ?c32 ?k32 ?z0 ?z1 ?z2 ?z3 ?z4 ?z5 ?z6 ?z7 ?z8 ?z9 ?z10 ?z11 ?z12 ?z13 ?z14 ?z15 ?z16 ?z17 ?z18 ?z19 ?q0 ?eRS ?nRS
    (case a0 => k_is)
    (case l0 => k_is)
    (case c0 => k_is)
    (case k0 => k_is)
    (case a1 => k_is)
    (case l1 => k_is)
    (case c1 => k_is)
    (case k1 => k_is)
    (case a2 => k_is)
    (case l2 => k_is)
    (case c2 => k_is)
    (case k2 => k_is)
    (case a3 => k_is)
    (case l3 => k_is)
    (case c3 => k_is)
    (case k3 => k_is)
    (case a4 => k_is)
    (case l4 => k_is)
    (case c4 => k_is)
    (case k4 => k_is)
    (case a5 => k_is)
    (case l5 => k_is)
    (case c5 => k_is)
    (case k5 => k_is)
    (case a6 => k_is)
    (case l6 => k_is)
    (case c6 => k_is)
    (case k6 => k_is)
    (case a7 => k_is)
    (case l7 => k_is)
    (case c7 => k_is)
    (case k7 => k_is)
    (case a8 => k_is)
    (case l8 => k_is)
    (case c8 => k_is)
    (case k8 => k_is)
    (case a9 => k_is)
    (case l9 => k_is)
    (case c9 => k_is)
    (case k9 => k_is)
    (case a10 => k_is)
    (case l10 => k_is)
    (case c10 => k_is)
    (case k10 => k_is)
    (case a11 => k_is)
    (case l11 => k_is)
    (case c11 => k_is)
    (case k11 => k_is)
    (case a12 => k_is)
    (case l12 => k_is)
    (case c12 => k_is)
    (case k12 => k_is)
    (case a13 => k_is)
    (case l13 => k_is)
    (case c13 => k_is)
    (case k13 => k_is)
    (case a14 => k_is)
    (case l14 => k_is)
    (case c14 => k_is)
    (case k14 => k_is)
    (case a15 => k_is)
    (case l15 => k_is)
    (case c15 => k_is)
    (case k15 => k_is)
    (case a16 => k_is)
    (case l16 => k_is)
    (case c16 => k_is)
    (case k16 => k_is)
    (case a17 => k_is)
    (case l17 => k_is)
    (case c17 => k_is)
    (case k17 => k_is)
    (case a18 => k_is)
    (case l18 => k_is)
    (case c18 => k_is)
    (case k18 => k_is)
    (case a19 => k_is)
    (case l19 => k_is)
    (case c19 => k_is)
    (case k19 => k_is)
    (case a20 => k_is)
    (case l20 => k_is)
    (case c20 => k_is)
    (case k20 => k_is)
    (case a21 => k_is)
    (case l21 => k_is)
    (case c21 => k_is)
    (case k21 => k_is)
    (case a22 => k_is)
    (case l22 => k_is)
    (case c22 => k_is)
    (case k22 => k_is)
    (case a23 => k_is)
    (case l23 => k_is)
    (case c23 => k_is)
    (case k23 => k_is)
    (case a24 => k_is)
    (case l24 => k_is)
    (case c24 => k_is)
    (case k24 => k_is)
    (case a25 => k_is)
    (case l25 => k_is)
    (case c25 => k_is)
    (case k25 => k_is)
    (case a26 => k_is)
    (case l26 => k_is)
    (case c26 => k_is)
    (case k26 => k_is)
    (case a27 => k_is)
    (case l27 => k_is)
    (case c27 => k_is)
    (case k27 => k_is)
    (case a28 => k_is)
    (case l28 => k_is)
    (case c28 => k_is)
    (case k28 => k_is)
    (case a29 => k_is)
    (case l29 => k_is)
    (case c29 => k_is)
    (case k29 => k_is)
    (case a30 => k_is)
    (case l30 => k_is)
    (case c30 => k_is)
    (case k30 => k_is)
    (case a31 => k_is)
    (case l31 => k_is)
    (case c31 => k_is)
    (case k31 => k_is)
    (case a32 => k_is)
    (case l32 => k_is)
    (case c32 => k_is)
    (case k32 => k_is)
    (case z0 => k_is)
    (case z1 => k_is)
    (case z2 => k_is)
    (case z3 => k_is)
    (case z4 => k_is)
    (case z5 => k_is)
    (case z6 => k_is)
    (case z7 => k_is)
    (case z8 => k_is)
    (case z9 => k_is)
    (case z10 => k_is)
    (case z11 => k_is)
    (case z12 => k_is)
    (case z13 => k_is)
    (case z14 => k_is)
    (case z15 => k_is)
    (case z16 => k_is)
    (case z17 => k_is)
    (case z18 => k_is)
    (case z19 => k_is)
    (case q0 => k_is)
    (case eRS => rfl)
    (case nRS => k_is)
