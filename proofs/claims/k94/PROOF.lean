import PyProof.Rows.All
import Wide.All
import OpenK.AllK
import Wide.FinOn
import HandS.ForMost
import HandS.Codes
import HandS.Wide
import HandS.WideBits
import HandS.Defaults
import HandS.Walk
import PyProof.ReprRoads
import HandS.Text
import HandS.Iter
import HandS.Style
import KE.GoesMore
import KE.KRevSl
import PyProof.ReprLen
import PyProof.StrBlock2
import HandS.Ends
import HandS.TupMul
import HandS.TupAny
import HandS.IsInst
import HandS.Gcd
import KE.KMathGC
import HandS.Zip
import HandS.Strs
import HandS.SetFor
import HandS.SetKeys
import HandS.TupSets
import HandS.SetBool
import HandS.RevRange
import PySem.Challenge.RW_pastenough_k94_whole_patterns_by_closed
set_option Elab.async false
set_option linter.all false
set_option maxRecDepth 100000
set_option maxHeartbeats 4000000
/-! Defs that are run where no repr is under way; repr of data; further small rules. -/
namespace Gk
open PySem PySem.Spec PyProof.Rows L2

/-- a def's promise wherever nothing is being shown -/
structure FnG (P : Program) (w : World) (K : PySem.W.Frag) (mg : Str → Option Value) (base : Heap) (k : Nat)
    (f : Addr) (fd : FuncData) (ps : List Str) (sp : Sp) : Prop where
  len : ∀ vs H Q E, sp vs H Q E → vs.length = ps.length
  go : ∀ (A : Around) (outer : List Env) (s : Shared) (H : Hp) (args : Args) (us : List Value) (vs : List V) (Q : VK),
    Room k A → A.guards = some [] → Env0 P w K mg base A outer s H → BindsTo s fd args (ps.zip us) → Vals vs us → sp vs H Q L2.E0 →
    codeAny (model P w) A (.call (.ref f) args) (CR L2.CX0 outer P w H s Q L2.E0) s

section
variable {P : Program} {w : World} {K : PySem.W.Frag} {mg : Str → Option Value} {base : Heap}
theorem FnG.weak {j k : Nat} {f : Addr} {fd : FuncData} {ps : List Str} {sp : Sp} (F : FnG P w K mg base j f fd ps sp) (h : j ≤ k) : FnG P w K mg base k f fd ps sp :=
  ⟨F.len, fun A outer s H args us vs Q r g => F.go A outer s H args us vs Q (r.mono h) g⟩
theorem FnG.from {k : Nat} {f : Addr} {fd : FuncData} {ps : List Str} {sp : Sp} (F : FnOk P w K mg base L2.CX0 k f fd ps sp) : FnG P w K mg base k f fd ps sp :=
  ⟨F.len, fun A outer s H args us vs Q r _ e b v q => F.run A outer s H args us vs Q L2.E0 r e b v q⟩

theorem guards_deeper {A : Around} {env : Env} (h : A.guards = some []) : (A.deeper env).guards = some [] := by
  first | exact h | (unfold Around.deeper; exact h)

/-- THE RULE for a def, by its body -/
theorem fnG {x qual : Str} {st : Stmt} {f : Addr} {fd : FuncData} {N ps : List Str} {k : Nat} {sp : Sp} (F : L2.Fun K x qual st f fd) (S : FnScope N ps (defScope st))
    (len : ∀ vs H Q E, sp vs H Q E → vs.length = ps.length)
    (hbody : ∀ (cdv : Value) (A : Around) (outer : List Env) (s : Shared) (H : Hp) (vs : List V) (Q : VK),
      Room k (A.deeper (envOfC qual (defScope st) s.heap.objs.size f cdv)) → (A.deeper (envOfC qual (defScope st) s.heap.objs.size f cdv)).guards = some [] → sp vs H Q L2.E0 →
      ∃ t, PSs (cxOf L2.CX0 P w K mg base N qual (defScope st) f cdv A outer s H L2.E0).nox (defBody st) t ∧ t { nx := fun _ H' => Q .non H', rt := Q } (start N vs) H) :
    FnG P w K mg base (k + 1) f fd ps sp := by
  obtain ⟨oc, od, kV, doc, pm, an, cdv, ct, osl, rfl, lk, hcd⟩ := F.ex
  refine ⟨len, fun A outer s H args us vs Q room gd en bd rv want => ?_⟩
  have many := len _ _ _ _ want
  have KX : K.In s.heap := en.mod.kin.keeps (fun b o hbo => (en.bs b o hbo).1)
  have lim : s.heap.NoLimit := en.mod.nolimit.keeps (fun b o hbo => (en.bs b o hbo).1)
  have kinds : ∀ y ∈ ps.zip us, (defScope st).names.lookup y.1 = some .local ∨
      ((defScope st).names.lookup y.1 = some .cell ∧ ((cellsFrom (s.heap.objs.size + 1) (defScope st).names []).lookup y.1).isSome = true) := fun y hy =>
    (S.par y.1 (List.of_mem_zip (a := y.1) (b := y.2) hy).1).elim Or.inl fun q => .inr ⟨q, PySem.W.cellsFrom_some _ _ _ (.inl q)⟩
  refine codeAny_call_function room.depth (KX _ _ lk) rfl S.co S.gen rfl (PySem.W.codeRec_of KX hcd) (bd _ _ _ _ ?_)
  refine wpAny_newFunctionEnv_cells S.kind kinds fun env he st1 inC => ?_
  subst he
  refine ⟨lim.keeps inC.toInCall.keep, codeAny_func ?_⟩
  obtain ⟨t, ht, hq⟩ := hbody cdv A outer s H vs Q (room.deeper _) (guards_deeper gd) want
  have I := inv_start (CX := L2.CX0) (P := P) (w := w) (mg := mg) (E := L2.E0) S room.hd en many rv inC
  refine wpAny_mono (ht.nox.run [] st1 (start N vs) H _ I hq) (fun fl s' hs => ?_) fun e s' hs => hs
  cases fl with
  | brk => obtain ⟨_, _, _, z⟩ := hs; exact False.elim z
  | cont => obtain ⟨_, _, _, z⟩ := hs; exact False.elim z
  | next => obtain ⟨σ1, H1, J, z⟩ := hs; exact ⟨V.non, H1, J.os, J.bare, J.base, J.hok, rfl, z⟩
  | ret u => obtain ⟨v, σ1, H1, J, rv1, z⟩ := hs; exact ⟨v, H1, J.os, J.bare, J.base, J.hok, rv1, z⟩
end

section
variable {X : Cx} {k : Nat} {f : Addr} {fd : FuncData} {ps : List Str} {sp : Sp} {x : Str} {p pos : Pos} {e : Expr} {es : List Expr} {t : TA}
theorem go_fn {pins : List (Addr × Obj)} {σ : L2.St} {H : Hp} {s : Shared} {Q : VK} {us : List Value} {vs : List V} (F : FnG X.prog X.w X.K X.mg X.base k f fd ps sp)
    (hr : Room k X.A) (hg : X.A.guards = some []) (hb : Binds X.K fd ps []) (I : Inv X pins σ H s) (r : Vals vs us) (h : sp vs H Q L2.E0) : wpAny (model X.prog X.w) X.A (call (.ref f) us) (EP X pins σ Q) X.xe s := by
  have hl : (us ++ []).length = ps.length := by rw [List.append_nil, ← r.length]; exact F.len _ _ _ _ h
  have b := hb s us I.kIn hl
  rw [List.append_nil] at b
  refine wpAny_call (codeAny_mono (F.go X.A X.stack s H ⟨us, []⟩ us vs Q hr hg I.env0 b r h) fun res s' hq => ?_)
  cases res with
  | error er => exact False.elim hq
  | ok fl =>
    cases fl with
    | brk => exact False.elim hq
    | cont => exact False.elim hq
    | next => exact False.elim hq
    | ret u => exact I.after hq
def tG (sp : Sp) (t : TA) : TE := fun σ H Q => t σ H fun vs H1 => sp vs H1 Q L2.E0
/-- f(e, ..) -/
theorem pe_g (F : FnG X.prog X.w X.K X.mg X.base k f fd ps sp) (hr : Room k X.A) (hd : X.A.guards = some []) (hg : Gl X x) (hm : X.mg x = some (.ref f)) (hk : PySem.W.keepIn X.K (.ref f) = true) (hb : Binds X.K fd ps [])
    (ha : PA X (e :: es) t) (hdb : (x == ("__debug__" : Str)) = false := by decide) (he : starEach (e :: es) X.env = (false, eval e X.env) :: starEach es X.env := by rfl)
    (hpl : (backTo pos (starEach es X.env)).any (·.1) = false := by rfl) : PE X (.Call (.Name x p) (e :: es) [] pos) (tG sp t) :=
  ⟨fun pins s σ H Q I h => wpAny_Call_Name_kw (ld_glob I hg hm (PySem.W.callWith_K (h₀ := X.base) I.ok.mod.kin hk (thn (ha.run pos pins s σ H _ I h) fun us s1 ⟨vs, H1, I1, r, q⟩ => ⟨I1.kIn, go_fn F hr hd hb I1 r q⟩) he hpl) hdb)⟩
end

/-! ### keywords alone -/
section
variable {X : Cx} {k : Nat} {f : Addr} {fd : FuncData} {ps ks : List Str} {sp : Sp} {x : Str} {p pos : Pos} {kws : List Keyword} {tk : TA} {g : List Value → List Value → List Value} {gV : List V → List V → List V}
def tKw (n : Nat) (gV : List V → List V) (sp : Sp) (tk : TA) : TE := fun σ H Q => tk σ H fun zs H1 => zs.length = n ∧ sp (gV zs) H1 Q L2.E0
/-- f(k = v, ..) -/
theorem pe_kw (F : FnOk X.prog X.w X.K X.mg X.base L2.CX0 k f fd ps sp) (hr : Room k X.A) (hg : Gl X x) (hm : X.mg x = some (.ref f)) (hk : PySem.W.keepIn X.K (.ref f) = true) (hb : KBn X.K fd ps 0 ks g gV)
    (hkw : PK X kws tk) (hall : (backToKw pos (keywordEach kws X.env)).all (·.1.isSome) = true := by rfl) (hks : (backToKw pos (keywordEach kws X.env)).filterMap (·.1) = ks := by rfl) (hdb : (x == ("__debug__" : Str)) = false := by decide)
    (hpl : ((backTo pos (starEach [] X.env)).any (·.1) || (backToKw pos (keywordEach kws X.env)).any (·.1.isNone)) = false := by rfl) :
    PE X (.Call (.Name x p) [] kws pos) (tKw ks.length (gV []) sp tk) := by
  refine ⟨fun pins s σ H Q I h => wpAny_Call_Name_kw (ld_glob I hg hm ?_ hdb)⟩
  refine PySem.W.callWith_KW0 (h₀ := X.base) I.ok.mod.kin hk hall (thn (hkw.run pos pins s σ H _ I h) fun ws s2 ⟨zs, H2, I2, rz, l2, q2⟩ => ⟨I2.kIn, ?_⟩) hpl
  rw [hks]
  exact run_fnN (us := []) (vs := []) F hr hb L2.pass0 I2 .nil rz rfl l2 q2
end
end Gk
namespace Gk
open PySem PySem.Spec PyProof.Rows L2 PySem.Builtin.Str

/-! ### powers of great numbers -/
def CBigPow (i j : Int) : Prop := 0 ≤ j ∧ (Builtin.Int.intBits i : Int) * j ≤ 2 ^ 27
theorem op_bigpow {X : Cx} : OpR X (binaryOp .Pow) (rI CBigPow fun i j => .int (i ^ j.toNat)) := opI fun _ _ _ _ _ _ _ hc q => pow_int hc.1 hc.2 q

/-! ### repr of data -/
theorem call_reprD {X : Cx} {k : Nat} (hr : Room k X.A) (hg : X.A.guards = some []) : CallR X (.builtin "repr") (fun xs H Q => ∃ v d, xs = [v] ∧ Dp X.K H v d ∧ d.showable = true ∧ d.hasDict = false ∧
    d.depth ≤ 40 ∧ d.shown.length ≤ sizeLine ∧ Q (.str d.shown) H) := by
  intro pins s σ H xs us Q I r h
  obtain ⟨v, d, rfl, hd, hs, hn, hdep, hz, q⟩ := h
  obtain ⟨u, rfl, ru⟩ := vals1 r
  have hun := hr.units
  cases hd with
  | non =>
    cases ru
    exact PySem.P.repr_of_none ⟨.str _, H, I.tok _, ⟨_, rfl⟩, q⟩
  | bl b =>
    cases ru
    exact PySem.P.repr_of_bool ⟨.str _, H, I.tok _, ⟨_, rfl⟩, q⟩
  | int i =>
    obtain ⟨t, rfl⟩ := ru
    exact PySem.P.repr_of_int (of_decide_eq_true hs) ⟨.str _, H, I.tok _, ⟨_, rfl⟩, q⟩
  | str x =>
    obtain ⟨t, rfl⟩ := ru
    exact PySem.P.repr_of_str ⟨.str _, H, I.tok _, ⟨_, rfl⟩, q⟩ hz
  | lst h1 h2 =>
    rename_i a xs ds
    obtain ⟨as, rd⟩ := Dp.reads I (.list ds) (.ref a) u (.lst h1 h2) ru
    cases ru
    exact repr_of_reads' rd hs (PyData.noDict_hsm hn) hg (by omega) (fun _ _ e => e) (fun h' t tk hk => ⟨.str _, H, I.kept (t' := tk) hk, ⟨_, rfl⟩, q⟩) hz
  | tup h1 h2 =>
    rename_i a xs ds
    obtain ⟨as, rd⟩ := Dp.reads I (.tuple ds) (.ref a) u (.tup h1 h2) ru
    cases ru
    exact repr_of_reads' rd hs (PyData.noDict_hsm hn) hg (by omega) (fun _ _ e => e) (fun h' t tk hk => ⟨.str _, H, I.kept (t' := tk) hk, ⟨_, rfl⟩, q⟩) hz

/-! ### a text from behind -/
theorem rev_signs (z : Str) : ((strSliceIndices none none (-1) z.length).filterMap (z.cps[·]?)).toArray = z.cps.toList.reverse.toArray := by
  have e : strSliceIndices none none (-1) z.length = (List.range z.cps.size).reverse := by
    show sliceRange ((z.cps.size : Int) - 1) (-1) (-1) = _
    rw [PySem.W.krv_sliceRange, PySem.W.krv_range]
  rw [e, List.filterMap_reverse, PySem.W.krv_all]
def tRevT (te : TE) : TE := fun σ H Q => te σ H fun x H1 => ∃ z : Str, x = .str z ∧ z.length ≤ sizeLine ∧ Q (.str ⟨z.cps.toList.reverse.toArray⟩) H1
theorem pe_revT {X : Cx} {e : Expr} {te : TE} {k : Nat} {p1 p2 p3 pos : Pos} (he : PE X e te) : PE X (.Subscript e (.Slice none none (some (.UnaryOp .USub (.Constant (.int 1) k p1) p2)) p3) pos) (tRevT te) := by
  refine ⟨fun pins s σ H Q I h => Subscript_ (thn (he.run pins s σ H _ I h) fun v s1 ⟨x, H1, I1, r1, z, ex, hz, q⟩ => ?_)⟩
  subst ex
  obtain ⟨t, rfl⟩ := r1
  have step : PO X (some (.UnaryOp .USub (.Constant (.int 1) k p1) p2)) (tPart (tUn (rU fun i => .int (-i)) (tC (.int 1)))) := po_some (pe_un un_neg pe_int)
  refine wpAny_Slice (thn (po_none.run pins s1 σ H1 (fun o G => o = none ∧ G = H1) I1 ⟨rfl, rfl⟩) fun vl s2 ⟨l, H2, I2, pl, el, e2⟩ => ?_)
  subst e2 el
  refine thn (po_none.run pins s2 σ H2 (fun o G => o = none ∧ G = H2) I2 ⟨rfl, rfl⟩) fun vu s3 ⟨u, H3, I3, pu, eu, e3⟩ => ?_
  subst e3 eu
  refine thn (step.run pins s3 σ H3 (fun o G => o = some (-1) ∧ G = H3) I3 ⟨1, rfl, -1, rfl, rfl, rfl⟩) fun vs s4 ⟨o, H4, I4, ps, eo, e4⟩ => ?_
  subst e4 eo
  obtain ⟨l, rfl, el⟩ := IsPart.raw pl
  obtain ⟨u, rfl, eu⟩ := IsPart.raw pu
  obtain ⟨w, rfl, ew⟩ := IsPart.raw ps
  have I5 : Inv X pins σ H4 { s4 with heap := s4.heap.push { cls := .type "slice", data := .fields #[partValue l, partValue u, partValue w] } } :=
    I4.kept (t' := s4.toks) fun b ob g => Heap.get?_push_of_some _ g
  refine tail_any (T := "str") (ops := [.str z t, .ref s4.heap.objs.size]) (typeIs_str _ _ _) F.slot_str_getitem.lookup ?_ (by with_unfolding_all rfl)
  refine wpAny_getItem_str_slice (l := l) (u := u) (st := w) ⟨_, Heap.get?_push_size _ rfl, rfl, rfl⟩ (by rw [ew]; rfl) ?_
  unfold sliceMade slicePicked
  rw [el, eu, ew]
  show Made.post (if ((-1 : Int) == 1 && _) = true then _ else Made.str ⟨((strSliceIndices none none (-1) z.length).filterMap (z.cps[·]?)).toArray⟩) _ _
  rw [show ((-1 : Int) == 1) = false from rfl, Bool.false_and, if_neg Bool.false_ne_true, rev_signs]
  have hl : (⟨z.cps.toList.reverse.toArray⟩ : Str).length ≤ sizeLine := by
    show z.cps.toList.reverse.toArray.size ≤ sizeLine
    rw [List.size_toArray, List.length_reverse, Array.length_toList]
    exact hz
  exact ⟨hl, .str _, H4, I5.tok _, ⟨_, rfl⟩, q⟩

/-! ### enumerate of a text -/
def Iet (z : Str) : It := ⟨fun i _ => i < z.cps.size, fun i H v H' => ∃ T c, v = .ref T ∧ H T = none ∧ z.cps[i]? = some c ∧ H' = upd H T (.tup [.int (i : Nat), .str ⟨#[c]⟩]), fun i _ => z.cps.size ≤ i⟩
theorem turn_et {P : Program} {w : World} {K : PySem.W.Frag} {elts : List Expr} {kk : Nat} {tpos : Pos} (e it : Addr) (z : Str) (t : Tok) :
    Turn P w K (.Tuple elts kk tpos) (Iet z) [e, it] e (fun i h => ((∃ old, IsEnum h e it i old) ∧ h.IsStrIter it (strIterType z) z t i) ∧ e ≠ it ∧ i ≤ z.cps.size) where
  mem := List.mem_cons_self
  obj := fun i h st b hb => by
    obtain ⟨⟨⟨old, he⟩, ⟨o, ho, hc, hd⟩⟩, _⟩ := st
    rcases List.mem_cons.mp hb with rfl | hb
    · exact ⟨_, he, fun v g => nomatch g⟩
    · rw [List.mem_singleton.mp hb]
      exact ⟨o, ho, fun v g => by rw [hd] at g; cases g⟩
  keep := fun i h h' st k => by
    obtain ⟨⟨⟨old, he⟩, ⟨o, ho, hc, hd⟩⟩, hne⟩ := st
    exact ⟨⟨⟨old, k e List.mem_cons_self _ he⟩, o, k it (List.mem_cons_of_mem _ List.mem_cons_self) o ho, hc, hd⟩, hne⟩
  item := by
    intro X hP hw hK hc i pins s σ H E I hf st hg
    subst hP hw hK
    have hg' : i < z.cps.size := hg
    obtain ⟨st, hne, hi⟩ := st
    have D : Draws X.prog X.w X.A.in1 it [it] z.cps.size _ _ := Draws.text (show X.A.in1.handled = none from I.ok.hd hc) it z t
    have W := WalksT.enumerateD D e hne (fun q => hne (List.mem_singleton.mp q)) List.mem_cons_self
    have hel : e < s.heap.objs.size := by obtain ⟨⟨old, he⟩, _⟩ := st; exact Heap.lt_size he
    have hil : it < s.heap.objs.size := by obtain ⟨_, o, ho, _⟩ := st; exact Heap.lt_size ho
    refine W.item i s _ _ hg' st fun T vals h' tk hp hT isT mid hk => ?_
    obtain ⟨t1, x1, ⟨c, u1, hcx, rfl⟩, rfl⟩ := hp
    have nT := W.apart i T h' mid
    refine ⟨_, rfl, W.go elts kk tpos i T { s with heap := h', toks := tk } _ _ mid fun h2 st2 hk2 => ?_⟩
    obtain ⟨oT, gT, cT, nTT, dT⟩ := isT
    have gT2 := hk2 T oT nT gT
    have new : ObjOk X.prog X.w (upd H T (.tup [.int (i : Nat), .str ⟨#[c]⟩])) h2 T (.tup [.int (i : Nat), .str ⟨#[c]⟩]) :=
      ⟨by show 2 ≤ sizeLine; decide, [.int i t1, .str ⟨#[c]⟩ u1], .cons ⟨_, rfl⟩ (.cons ⟨_, rfl⟩ .nil), ⟨oT, gT2, cT, nTT, dT⟩⟩
    have I1 : Inv X pins σ (upd H T (.tup [.int (i : Nat), .str ⟨#[c]⟩])) { s with heap := h2, toks := tk } :=
      I.turnedNew (ch := [e, it]) (fun b ob hb g => hk2 b ob hb (hk b ob hb g)) hf hT new
    refine ⟨.ref T, _, I1, rfl, ⟨T, c, rfl, I.hok.fresh hT, hcx, rfl⟩, ⟨⟨?_, st2.2⟩, hne, hg'⟩, fun b hb => ?_⟩
    · exact st2.1
    · have hb' : b < s.heap.objs.size := by
        rcases List.mem_cons.mp hb with rfl | hb
        · exact hel
        · rw [List.mem_singleton.mp hb]; exact hil
      rw [upd_ne (Nat.ne_of_lt (Nat.lt_of_lt_of_le hb' hT))]
      exact (hf b hb).1
  done := by
    intro X hP hw hK hc i pins s σ H E I hf st hg
    subst hP hw hK
    obtain ⟨st, hne, hi⟩ := st
    have hg' : z.cps.size ≤ i := hg
    obtain rfl : i = z.cps.size := Nat.le_antisymm hi hg'
    have D : Draws X.prog X.w X.A.in1 it [it] z.cps.size _ _ := Draws.text (show X.A.in1.handled = none from I.ok.hd hc) it z t
    have W := WalksT.enumerateD D e hne (fun q => hne (List.mem_singleton.mp q)) List.mem_cons_self
    refine W.done s _ _ st fun h' tk hk => ⟨rfl, ?_⟩
    exact I.step (g' := s.gens) (d' := s.drawn) (ch := [e, it]) (fun b hb => ⟨(hf b hb).2.2.2.1, (hf b hb).2.1, (hf b hb).2.2.2.2.1, (hf b hb).2.2.2.2.2⟩) (fun b o _ _ hc g _ => hk b o hc g) (fun b o _ _ hc g _ => ⟨o.slots, hk b o hc g⟩)
      (fun _ _ _ _ n => n) (fun b o hc g => ⟨o, hk b o hc g⟩) (fun _ _ g => g) (fun _ _ _ g => g) (fun b ps g => ⟨#[], by rw [g]; simp⟩)
      (fun m hm => by
        obtain ⟨o, es, ep, ho, r⟩ := hm
        exact ⟨o, es, ep, hk _ o (fun q => (hf _ q).2.1 rfl) ho, r⟩)
      (fun b u g => by
        have nb : ∀ c v, H c = some v → c ∉ [e, it] := fun c v g q => by
          have g' := (hf c q).1
          rw [g'] at g; cases g
        refine (I.hok b u g).stay (fun c v hcv q => hk c v ?_ q) (fun _ q => q) fun _ _ q => q
        rcases hcv with rfl | hcv
        · exact nb _ _ g
        · exact nb _ _ hcv) I.bare
  self := fun A i s Q E st h => by
    obtain ⟨⟨⟨old, he⟩, _⟩, _⟩ := st
    exact wpAny_pyIter_enum he h
def iEnumT (ta : TA) : TI := fun σ H R => ta σ H fun vs H1 => ∃ z, vs = [.str z] ∧ R (Iet z) H1
theorem pi_enumT {X : Cx} {e : Expr} {ta : TA} {p pos tpos : Pos} {elts : List Expr} {kk : Nat} (hg : Gl X "enumerate") (hm : X.mg "enumerate" = none) (ha : PA X [e] ta) (hs : starEach [e] X.env = [(false, eval e X.env)] := by rfl) :
    PI X (.Tuple elts kk tpos) (.Call (.Name "enumerate" p) [e] [] pos) (iEnumT ta) := by
  refine ⟨fun pins s σ H R I h => Call_ (ld_blt I hg hm boot_enumerate (PyProof.Rows.callWith_type1 (thn (ha.run pos pins s σ H _ I h) fun us s1 ⟨vs, H1, I1, r1, z, ez, q⟩ => ?_) hs rfl))⟩
  subst ez
  obtain ⟨u, rfl, t, rfl⟩ := vals1 r1
  refine call_enumerate_str fun h' he hit hsz hk => wpAny_pyIter_enum he ?_
  refine ⟨s1.heap.objs.size + 1, [s1.heap.objs.size + 1, s1.heap.objs.size], _, _, H1, rfl, I1.kept (t' := s1.toks) hk, turn_et (s1.heap.objs.size + 1) s1.heap.objs.size z t, ⟨⟨⟨.none, he⟩, hit⟩, Nat.succ_ne_self _, Nat.zero_le _⟩, fun b hb => ?_, q⟩
  have hle : s1.heap.objs.size ≤ b := by
    rcases List.mem_cons.mp hb with rfl | hb
    · exact Nat.le_succ _
    · rw [List.mem_singleton.mp hb]
      exact Nat.le_refl _
  exact I1.fpOk hle (I1.hok.fresh hle)
theorem walk_et {z : Str} : Walk (Iet z) z.cps.size (fun _ => True) (fun i H v H' => ∃ T c, v = .ref T ∧ H T = none ∧ z.cps[i]? = some c ∧ H' = upd H T (.tup [.int (i : Nat), .str ⟨#[c]⟩])) :=
  ⟨fun _ _ hi _ => hi, fun _ _ => Nat.le_refl _, fun _ _ _ _ _ _ y => y⟩
end Gk
namespace Gk
open PySem PySem.Spec PyProof.Rows L2
/-! ### the box of draws -/
def Box (m : Nat) (H : Hp) (b : Addr) : Prop := ∃ x y s : Int, H b = some (.lst [.int x, .int y, .int s]) ∧ 0 ≤ s ∧ s ≤ m
theorem Box.up {m n : Nat} {H : Hp} {b : Addr} (h : Box m H b) (hn : m ≤ n) : Box n H b := by
  obtain ⟨x, y, s, e, h0, h1⟩ := h
  exact ⟨x, y, s, e, h0, by omega⟩
/-- all but the box is as it was -/
def But (b : Addr) (H H' : Hp) : Prop := ∀ a o, a ≠ b → H a = some o → H' a = some o
theorem But.refl (b : Addr) (H : Hp) : But b H H := fun _ _ _ h => h
theorem But.trans {b : Addr} {H H1 H2 : Hp} (x : But b H H1) (y : But b H1 H2) : But b H H2 := fun a o n h => y a o n (x a o n h)
theorem But.set {b : Addr} {H : Hp} {o : HO} : But b H (upd H b o) := fun a u n h => by rw [upd_ne n]; exact h
theorem But.new {b p : Addr} {H : Hp} {o : HO} (h : H p = none) : But b H (upd H p o) := fun a u _ e => by rw [upd_ne (ne_of_none e h)]; exact e
theorem But.of_same {b : Addr} {H H' : Hp} (h : Same H H') : But b H H' := fun a o _ e => h a o e
theorem same_new {H : Hp} {p : Addr} {o : HO} (h : H p = none) : Same H (upd H p o) := fun a u e => by rw [upd_ne (ne_of_none e h)]; exact e
theorem Box.same {m : Nat} {H H' : Hp} {b : Addr} (h : Box m H b) (s : Same H H') : Box m H' b := by
  obtain ⟨x, y, z, e, r⟩ := h
  exact ⟨x, y, z, s _ _ e, r⟩
theorem Box.ne {m : Nat} {H : Hp} {b p : Addr} (h : Box m H b) (hp : H p = none) : b ≠ p := by
  obtain ⟨x, y, z, e, r⟩ := h
  exact ne_of_none e hp
theorem But.seqL {b : Addr} {K : PySem.W.Frag} {H H' : Hp} {a : Addr} {xs : List V} (e : But b H H') (n : a ≠ b) (h : SqL K H a xs) : SqL K H' a xs := by
  rcases h with (h | ⟨o, h⟩) | h
  · exact .inl (.inl (e _ _ n h))
  · exact .inl (.inr ⟨o, e _ _ n h⟩)
  · exact .inr h
theorem But.seqT {b : Addr} {K : PySem.W.Frag} {H H' : Hp} {a : Addr} {xs : List V} (e : But b H H') (n : a ≠ b) (h : SqT K H a xs) : SqT K H' a xs := by
  rcases h with (h | ⟨o, h⟩) | h
  · exact .inl (.inl (e _ _ n h))
  · exact .inl (.inr ⟨o, e _ _ n h⟩)
  · exact .inr h
theorem Same.seqT {K : PySem.W.Frag} {H H' : Hp} {a : Addr} {xs : List V} (e : Same H H') (h : SqT K H a xs) : SqT K H' a xs := by
  rcases h with (h | ⟨o, h⟩) | h
  · exact .inl (.inl (e _ _ h))
  · exact .inl (.inr ⟨o, e _ _ h⟩)
  · exact .inr h
/-- what is read at an address that is not the box's -/
theorem box_not_tup {m : Nat} {K : PySem.W.Frag} {H : Hp} {b a : Addr} (h : Box m H b) {xs : List V} (t : H a = some (.tup xs)) : a ≠ b := by
  obtain ⟨x, y, z, e, r⟩ := h
  exact ne_of t e (fun q => HO.noConfusion q)

/-! ### defs with their names -/
structure Dfn (P : Program) (w : World) (K : PySem.W.Frag) (mg : Str → Option Value) (base : Heap) (k : Nat) (x : Str) (ps : List Str) (sp : Sp) : Prop where
  ex : ∃ (f : Addr) (fd : FuncData), FnOk P w K mg base L2.CX0 k f fd ps sp ∧ mg x = some (.ref f) ∧ PySem.W.keepIn K (.ref f) = true ∧ Binds K fd ps []
/-- .. where nothing is being shown -/
structure DfG (P : Program) (w : World) (K : PySem.W.Frag) (mg : Str → Option Value) (base : Heap) (k : Nat) (x : Str) (ps : List Str) (sp : Sp) : Prop where
  ex : ∃ (f : Addr) (fd : FuncData), FnG P w K mg base k f fd ps sp ∧ mg x = some (.ref f) ∧ PySem.W.keepIn K (.ref f) = true ∧ Binds K fd ps []
section
variable {X : Cx} {k j : Nat} {x : Str} {ps : List Str} {sp : Sp} {p pos : Pos} {e : Expr} {es : List Expr} {t : TA}
theorem pe_d (D : Dfn X.prog X.w X.K X.mg X.base k x ps sp) (hr : Room j X.A) (hk : k ≤ j) (hg : Gl X x) (ha : PA X (e :: es) t)
    (hdb : (x == ("__debug__" : Str)) = false := by decide) (he : starEach (e :: es) X.env = (false, eval e X.env) :: starEach es X.env := by rfl)
    (hpl : (backTo pos (starEach es X.env)).any (·.1) = false := by rfl) : PE X (.Call (.Name x p) (e :: es) [] pos) (tCall sp [] L2.E0 t) := by
  obtain ⟨f, fd, F, m, kp, b⟩ := D.ex
  exact L2.pe_call (F.mono hk) hr hg m kp b .nil L2.pass0 ha hdb he hpl
theorem pe_dg (D : DfG X.prog X.w X.K X.mg X.base k x ps sp) (hr : Room j X.A) (hd : X.A.guards = some []) (hk : k ≤ j) (hg : Gl X x) (ha : PA X (e :: es) t)
    (hdb : (x == ("__debug__" : Str)) = false := by decide) (he : starEach (e :: es) X.env = (false, eval e X.env) :: starEach es X.env := by rfl)
    (hpl : (backTo pos (starEach es X.env)).any (·.1) = false := by rfl) : PE X (.Call (.Name x p) (e :: es) [] pos) (tG sp t) := by
  obtain ⟨f, fd, F, m, kp, b⟩ := D.ex
  exact pe_g (F.weak hk) hr hd hg m kp b ha hdb he hpl
end
/-- an expression whose ways meet -/
def tMid (t : TE) : TE := fun σ H Q => ∃ Mid : V → Hp → Prop, t σ H Mid ∧ ∀ v H', Mid v H' → Q v H'
theorem pe_mid {X : Cx} {e : Expr} {t : TE} (h : PE X e t) : PE X e (tMid t) :=
  ⟨fun pins s σ H Q I ⟨M, h1, h2⟩ => thn (h.run pins s σ H M I h1) fun u s1 ⟨v, H1, I1, r, q⟩ => ⟨v, H1, I1, r, h2 v H1 q⟩⟩
/-- a test whose ways meet -/
def tMidT (t : TT) : TT := fun σ H Q => ∃ Mid : Bool → Hp → Prop, t σ H Mid ∧ ∀ b H', Mid b H' → Q b H'
/-- a def called by keywords alone -/
structure DfK (P : Program) (w : World) (K : PySem.W.Frag) (mg : Str → Option Value) (base : Heap) (k : Nat) (x : Str) (ps ks : List Str) (gV : List V → List V) (sp : Sp) : Prop where
  ex : ∃ (f : Addr) (fd : FuncData) (g : List Value → List Value → List Value), FnOk P w K mg base L2.CX0 k f fd ps sp ∧ mg x = some (.ref f) ∧ PySem.W.keepIn K (.ref f) = true ∧ KBn K fd ps 0 ks g (fun _ zs => gV zs)
theorem pe_dk {X : Cx} {k j : Nat} {x : Str} {ps ks : List Str} {sp : Sp} {gV : List V → List V} {p pos : Pos} {kws : List Keyword} {tk : TA} (D : DfK X.prog X.w X.K X.mg X.base k x ps ks gV sp) (hr : Room j X.A) (hk : k ≤ j) (hg : Gl X x)
    (hkw : PK X kws tk) (hall : (backToKw pos (keywordEach kws X.env)).all (·.1.isSome) = true := by rfl) (hks : (backToKw pos (keywordEach kws X.env)).filterMap (·.1) = ks := by rfl) (hdb : (x == ("__debug__" : Str)) = false := by decide)
    (hpl : ((backTo pos (starEach [] X.env)).any (·.1) || (backToKw pos (keywordEach kws X.env)).any (·.1.isNone)) = false := by rfl) :
    PE X (.Call (.Name x p) [] kws pos) (tKw ks.length gV sp tk) := by
  obtain ⟨f, fd, g, F, m, kp, b⟩ := D.ex
  exact pe_kw (F.mono hk) hr hg m kp b hkw hall hks hdb hpl
/-- text * n -/
theorem op_mulS {X : Cx} : OpR X (binaryOp .Mult) (fun x y H Q => ∃ z n, x = .str z ∧ y = .int n ∧ MulOk z n ∧ Q (.str (Txt.mul z n)) H) := by
  intro pins s σ H x y v u Q I rx ry h
  obtain ⟨z, n, rfl, rfl, hc, q⟩ := h
  obtain ⟨t, rfl⟩ := rx
  obtain ⟨t', rfl⟩ := ry
  exact SB.mul hc fun t2 k => ⟨.str _, H, I.tok _, ⟨_, rfl⟩, q⟩
/-- data that may be shown -/
structure Fine (d : PyData) : Prop where
  a : d.showable = true
  b : d.hasDict = false
  c : d.depth ≤ 40
  e : d.shown.length ≤ sizeLine
theorem Fine.of {d : PyData} (B : Nat) (hB : 8 ≤ B) (hB2 : B ≤ 1000) (a : d.showable = true) (b : d.hasDict = false) (c : d.depth ≤ 40) (l : d.leavesShort B = true) (w : d.weight ≤ 10000) : Fine d :=
  ⟨a, b, c, by
    have h := PyData.shown_le B hB d l
    have h2 : (B + 2) * d.weight ≤ 1002 * 10000 := Nat.mul_le_mul (by omega) w
    have h3 : sizeLine = 16777216 := sizeLine_eq
    omega⟩
theorem call_reprF {X : Cx} {k : Nat} (hr : Room k X.A) (hg : X.A.guards = some []) : CallR X (.builtin "repr") (fun xs H Q => ∃ v d, xs = [v] ∧ Dp X.K H v d ∧ Fine d ∧ Q (.str d.shown) H) :=
  fun pins s σ H xs us Q I r ⟨v, d, h1, h2, h3, q⟩ => call_reprD hr hg pins s σ H xs us Q I r ⟨v, d, h1, h2, h3.a, h3.b, h3.c, h3.e, q⟩
theorem fine_ints {a b : Int} (ha : a.natAbs < 10 ^ 20) (hb : b.natAbs < 10 ^ 20) : Fine (.list [.int a, .int b]) := by
  have len : ∀ c : Int, c.natAbs < 10 ^ 20 → (PyData.shown (.int c)).length ≤ 21 := fun c hc => by
    have h := int_text_length_le10 (a := c) (k := 20) (by decide) hc
    show (Str.ofString (toString c)).length ≤ 21
    rw [PySem.ofString_length]
    exact h
  have la := len a ha
  have lb := len b hb
  have ga : a.natAbs.log2 < 1920 := PySem.Flt.log2_lt_of (by decide) (Nat.lt_of_lt_of_le ha (by decide))
  have gb : b.natAbs.log2 < 1920 := PySem.Flt.log2_lt_of (by decide) (Nat.lt_of_lt_of_le hb (by decide))
  refine Fine.of 21 (by decide) (by decide) ?_ rfl (by simp [PyData.depth, PyData.depthAll]) ?_ (by simp only [PyData.weight, PyData.weightAll]; split <;> split <;> omega)
  · simp only [PyData.showable, PyData.showableAll, ga, gb, decide_true, Bool.and_self]
  · simp only [PyData.leavesShort, PyData.leavesShortAll, la, lb, decide_true, Bool.and_self]
/-- a promise that does not speak of what is raised, as a value -/
theorem sqL_at {K : PySem.W.Frag} {H : Hp} {a : Addr} {xs : List V} (h : H a = some (.lst xs)) : SqL K H a xs := SqL.of h
end Gk
namespace Gk
open PySem PySem.Spec PyProof.Rows L2
/-- the caller shows nothing -/
theorem caller_guards : callerA.guards = some [] := rfl
/-- the law's call, its promise told where nothing is being shown -/
theorem callG {P : Program} {w : World} {K : PySem.W.Frag} {mg mb : Str → Option Value} {k : Nat} {fa a : Addr} {fd : FuncData} {x : Str} {sp : Sp} {s1 : Shared} {vs : List Value} {ns : List Int}
    (KX : K.In s1.heap) (n1 : s1.heap.Ns mainGlobals mg) (n2 : s1.heap.Ns builtinsNs mb) (n3 : ∀ x : Str, x ≠ "__name__" → mb x = bootBuiltins x) (lim : s1.heap.NoLimit) (gen : s1.gens = #[])
    (at_ : s1.heap.get? a = some { cls := .type "list", data := .seq vs.toArray }) (iss : IntsAre vs ns) (few : ns.length ≤ sizeLine) (room : Room k callerA)
    (F : ∀ base : Heap, K.In base → base.Ns mainGlobals mg → FnG P w K mg base k fa fd [x] sp) (binds : ∀ (s : Shared) (u : Value), BindsTo s fd ⟨[u], []⟩ [(x, u)])
    (want : ∀ H : Hp, Only H → SqL K H a (ns.map V.int) → sp [.ref a] H (fun v _ => v = .bl true) L2.E0) :
    codeAny (model P w) callerA (.call (.ref fa) ⟨[.ref a], []⟩) (fun r s' => r = .ok (.ret (.bool true)) ∧ OldK s1.heap s'.heap ∧ s'.os = s1.os ∧ AllBare s'.gens) s1 := by
  have rv := L2.vals_ints iss
  have go : ∀ H : Hp, Only H → SqL K H a (ns.map V.int) → HOk P w H s1.heap → (∀ b, H b ≠ none → b = a) → (H a ≠ none → K.lookup a = none) →
      codeAny (model P w) callerA (.call (.ref fa) ⟨[.ref a], []⟩) (fun r s' => r = .ok (.ret (.bool true)) ∧ OldK s1.heap s'.heap ∧ s'.os = s1.os ∧ AllBare s'.gens) s1 := by
    intro H only there held alone apart
    have isA : ∀ {b : Addr} {u : HO}, H b = some u → b = a := fun {b u} e => alone b (fun z => by rw [e] at z; cases z)
    have free : ∀ {b : Addr} {o : Obj} {es : Array DictEntry} {ep : Nat}, s1.heap.get? b = some o → o.data = .dict es ep → H b = none := by
      intro b o es ep e d
      cases q : H b with
      | none => rfl
      | some u =>
        obtain rfl := isA q
        rw [at_] at e
        cases e
        exact Data.noConfusion (show Data.seq vs.toArray _ = Data.dict es ep from d)
    have nsB : ∀ {b : Addr} {m : Str → Option Value}, s1.heap.Ns b m → (hidT s1.heap H).Ns b m := by
      intro b m h
      obtain ⟨o, es, ep, e, d, r⟩ := h
      exact ⟨o, es, ep, hidT_get e (free e d), d, r⟩
    have KB : K.In (hidT s1.heap H) := by
      intro b o e
      refine hidT_get (KX b o e) ?_
      cases q : H b with
      | none => rfl
      | some u =>
        obtain rfl := isA q
        have z := apart (fun z => by rw [q] at z; cases z)
        rw [z] at e
        cases e
    obtain ⟨mc, c1, c2⟩ := lim
    have en : Env0 P w K mg (hidT s1.heap H) callerA [] s1 H :=
      { frames := rfl, mod := ⟨KB, nsB n1, ⟨mb, nsB n2, n3⟩, ⟨mc, nsB c1, c2⟩⟩, bs := fun b o e => of_hidT e, bsz := Nat.le_of_eq (hidT_size _ _), funs := trivial,
        frf := fun b hb => (nomatch (show b ∈ ([] : List Addr) from hb)), hok := held, bare := .of_eq gen }
    refine codeAny_mono ((F _ KB (nsB n1)).go callerA [] s1 H ⟨[.ref a], []⟩ [.ref a] [.ref a] _ room caller_guards en (binds s1 (.ref a)) (.cons rfl .nil) (want H only there)) fun r s' res => ?_
    match r, res with
    | .error _, res => exact False.elim res
    | .ok .next, res => exact False.elim res
    | .ok .brk, res => exact False.elim res
    | .ok .cont, res => exact False.elim res
    | .ok (.ret u), res =>
      obtain ⟨v, H1, os, bare, un, held1, rel, qv⟩ := res
      have qv : v = .bl true := qv
      subst qv
      obtain rfl : u = Value.bool true := rel
      refine ⟨rfl, OldK.of_keep fun b o e => ?_, os, bare⟩
      cases q : H b with
      | none => exact un.keep b o e q (fun z => (nomatch (show b ∈ ([] : List Addr) from z))) (fun z => (nomatch z))
      | some u =>
        rcases only b with z | ⟨ob, xs, z⟩
        · rw [q] at z
          cases z
        · have f1 := (held b _ z).1
          have f2 := (held1 b _ (un.frzs b ob _ z)).1
          rw [e] at f1
          cases f1
          exact f2
  cases kl : K.lookup a with
  | some o =>
    have e := KX a o kl
    rw [at_] at e
    cases e
    exact go (fun _ => none) (fun _ => .inl rfl) (.inr ⟨_, vs.toArray, _, kl, rfl, rfl, rfl, by rw [List.size_toArray, iss.length]; exact few, by simpa using rv⟩) (fun b u z => (nomatch (show (none : Option HO) = some u from z))) (fun b z => absurd rfl z) (fun z => absurd rfl z)
  | none =>
    refine go (fun b => if b = a then some (.frz { cls := .type "list", data := .seq vs.toArray } (.lst (ns.map V.int))) else none) ?_ (.inl (.inr ⟨_, if_pos rfl⟩)) ?_ ?_ (fun _ => kl)
    · intro b
      by_cases h : b = a
      · exact .inr ⟨_, _, if_pos h⟩
      · exact .inl (if_neg h)
    · intro b u z
      by_cases h : b = a
      · obtain rfl := Option.some.inj ((if_pos h).symm.trans z)
        subst h
        exact ⟨at_, by rw [List.length_map]; exact few, vs, _, rv, at_⟩
      · exact (nomatch ((if_neg h).symm.trans z))
    · intro b z
      by_cases h : b = a
      · exact h
      · exact absurd (if_neg h) z

/-- the goal behind the head -/
theorem walkG {l : PySem.W.OpenLaw} {n k : Nat} {q : Program} {loose : List Str} {XP : (Str → Option Value) → Heap → Prop} {YP : World → Heap → Prop} {d : DefRec} {K : Params → PySem.W.Frag} {sp : World → Sp} {x : Str}
    (h1 : l.most = some n) (h2 : n ≤ sizeLine) (h3 : d.params.defaults = []) (h4 : Room k callerA) (h5 : ∀ (w : World) (h : Heap), YP w h → (K w.params).In h)
    (F : ∀ (w : World) (mg : Str → Option Value) (fa : Addr) (h : Heap), (K w.params).In h → h.Ns mainGlobals mg → mg d.name = some (.ref fa) →
      ∃ fd : FuncData, (∀ (s : Shared) (u : Value), BindsTo s fd ⟨[u], []⟩ [(x, u)]) ∧ ∀ base : Heap, (K w.params).In base → base.Ns mainGlobals mg → FnG l.prog w (K w.params) mg base k fa fd [x] (sp w))
    (h6 : ∀ (w : World) (H : Hp) (a : Addr) (ns : List Int), ns.length ≤ n → Only H → SqL (K w.params) H a (ns.map V.int) → sp w [.ref a] H (fun v _ => v = .bl true) L2.E0) :
    PySem.W.WalkO q loose XP YP l.row.toRowW d [] (fun f vs => PySem.call f vs) :=
  Att.attach_call h1 h3 fun w s0 s1 mg mb fa o pm cd doc a vs ns G Y ho hd hcd hmg obj iss len gen => by
    obtain ⟨fd, hb, hF⟩ := F w mg fa _ (h5 w _ Y) G.T.g hmg
    exact callG (h5 w _ Y) G.T.g G.T.b G.T.builtins G.T.nolimit gen obj iss (Nat.le_trans len h2) h4 hF hb (fun H hO hS => h6 w H a ns len hO hS)
end Gk
namespace Gk
open PySem PySem.Spec PyProof.Rows L2
theorem mul_same (l : Addr) (its : Array Value) (n : Nat) (dd : Option Addr) (sl : Array (Option Value)) (u : Tok) :
    Meets (Builtin.«tuple.__mul__» ⟨[.ref l, .int 1 u], []⟩) (fun _ R s => s.heap.get? l = some { cls := .type "tuple", dict := dd, data := .seq its n, slots := sl } ∧ R (.ok (.ret (.ref l))) s) :=
  .of_wp fun prog w A R s h => by
    obtain ⟨hp, g, d, tk, os⟩ := s
    obtain ⟨hl, h⟩ := h
    have f1 := AutoSeq1.idx_int
    have c0 : (decide ((1 : Int) < -(2 ^ 63)) || decide ((1 : Int) ≥ 2 ^ 63)) = false := by decide
    have c1 : (its.isEmpty || (1 : Int) == 1) = true := by simp
    wp_walk using wpAny_loadPart' hl
    repeat (first
      | (refine wpAny_ite_false (decide_eq_false (by rw [c0]; exact Bool.false_ne_true)) ?_; wp_walk using wpAny_loadPart' hl)
      | (refine wpAny_ite_true (decide_eq_true (by rw [c1])) ?_; wp_walk using wpAny_loadPart' hl))
    all_goals first | exact ⟨_, rfl, h⟩ | skip
theorem mul_none (l : Addr) (its : Array Value) (n : Nat) (dd : Option Addr) (sl : Array (Option Value)) (x : Int) (u : Tok) (hx : x ≤ 0) (hx2 : -(2 ^ 63) ≤ x) (hi : its.isEmpty = false) :
    Meets (Builtin.«tuple.__mul__» ⟨[.ref l, .int x u], []⟩) (fun _ R s => s.heap.get? l = some { cls := .type "tuple", dict := dd, data := .seq its n, slots := sl } ∧
      R (.ok (.ret (Value.ref s.heap.objs.size))) { s with heap := s.heap.push { cls := Value.type "tuple", data := Data.seq #[] }, toks := s.toks }) :=
  .of_wp fun prog w A R s h => by
    obtain ⟨hp, g, d, tk, os⟩ := s
    obtain ⟨hl, h⟩ := h
    have f1 := AutoSeq1.idx_int
    have c0 : (decide (x < -(2 ^ 63)) || decide (x ≥ 2 ^ 63)) = false := by
      rw [decide_eq_false (by omega), decide_eq_false (by omega)] <;> rfl
    have c1 : (its.isEmpty || x == 1) = false := by
      rw [hi, Bool.false_or]
      exact beq_eq_false_iff_ne.mpr (by omega)
    have c2 : (decide (x ≤ 0) || its.isEmpty) = true := by
      rw [decide_eq_true hx] <;> rfl
    wp_walk using wpAny_loadPart' hl
    repeat (first
      | (refine wpAny_ite_false (decide_eq_false (by rw [c0]; exact Bool.false_ne_true)) ?_; wp_walk using wpAny_loadPart' hl)
      | (refine wpAny_ite_false (decide_eq_false (by rw [c1]; exact Bool.false_ne_true)) ?_; wp_walk using wpAny_loadPart' hl)
      | (refine wpAny_ite_true (decide_eq_true (by rw [c2])) ?_; wp_walk using wpAny_loadPart' hl))
    all_goals first | exact ⟨_, rfl, h⟩ | skip
/-- t * k, whatever object it is -/
def rRepU (K : PySem.W.Frag) : R2 := fun x y H Q => ∃ l k xs, x = .ref l ∧ y = .int k ∧ SqT K H l xs ∧ xs ≠ [] ∧ 0 ≤ k ∧ k ≤ 1000 ∧ xs.length ≤ 1000 ∧
  ∀ p H', Same H H' → SqT K H' p (List.replicate k.toNat xs).flatten → Q (.ref p) H'
section
variable {X : Cx}
theorem op_repU : OpR X (binaryOp .Mult) (rRepU X.K) := by
  intro pins s σ H x y v u Q I rx ry h
  obtain ⟨l, k, xs, rfl, rfl, hT, hne, h0, h1, hz, q⟩ := h
  by_cases h2 : 2 ≤ k
  · exact op_repT pins s σ H _ _ v u Q I rx ry ⟨l, k, xs, rfl, rfl, hT, hne, h2, h1, hz, fun p np => q p _ (same_new np) (.inl (.inl upd_same))⟩
  · cases rx
    obtain ⟨t, rfl⟩ := ry
    obtain ⟨its, r, ⟨⟨cls, dd, data, sl⟩, ho, hc, n, hd⟩, hs⟩ := I.tuple hT
    simp only at hc hd
    subst hc hd
    have many : its.length = xs.length := r.length.symm
    have full : its.toArray.isEmpty = false := by
      cases its with
      | nil => exact absurd (List.eq_nil_of_length_eq_zero many.symm) hne
      | cons a b => rfl
    by_cases h3 : k = 1
    · subst h3
      refine wpAny_binaryOp_repeat_ref (T := "tuple") (U := "int") (by decide) ⟨_, ho, rfl⟩ (fun s' => typeIs_int s' 1 t) noFill_tuple_mul F.fills_int_mul F.slot_int_rmul repeat_tuple F.slot_int_index.lookup
        (call_meets F.slot_int_rmul (typeIs_int s 1 t) F.entry_int_rmul (F.args_int_rmul_2 _ _) (int_rmul_tuple 1 t l its.toArray n dd sl)
          ⟨ho, rfl, ⟨_, ho, rfl⟩, call_meets F.slot_tuple_mul ⟨_, ho, rfl⟩ F.entry_tuple_mul (F.args_tuple_mul_2 _ _) (mul_same l its.toArray n dd sl t) ⟨ho, ?_⟩⟩)
      refine ⟨.ref l, H, I, rfl, q l H (Same.refl H) ?_⟩
      show SqT X.K H l ([xs].flatten)
      rw [List.flatten_cons, List.flatten_nil, List.append_nil]
      exact hT
    · have h4 : k = 0 := by omega
      subst h4
      refine wpAny_binaryOp_repeat_ref (T := "tuple") (U := "int") (by decide) ⟨_, ho, rfl⟩ (fun s' => typeIs_int s' 0 t) noFill_tuple_mul F.fills_int_mul F.slot_int_rmul repeat_tuple F.slot_int_index.lookup
        (call_meets F.slot_int_rmul (typeIs_int s 0 t) F.entry_int_rmul (F.args_int_rmul_2 _ _) (int_rmul_tuple 0 t l its.toArray n dd sl)
          ⟨ho, rfl, ⟨_, ho, rfl⟩, call_meets F.slot_tuple_mul ⟨_, ho, rfl⟩ F.entry_tuple_mul (F.args_tuple_mul_2 _ _) (mul_none l its.toArray n dd sl 0 t (by decide) (by decide) full) ⟨ho, ?_⟩⟩)
      have nf : H s.heap.objs.size = none := I.hok.fresh (Nat.le_refl _)
      exact ⟨.ref s.heap.objs.size, upd H s.heap.objs.size (.tup []), I.laid (t' := s.toks) (fun b ob g => Heap.get?_push_of_some _ g) (Nat.le_refl _) ⟨Nat.zero_le _, [], .nil, IsTup.new _ _⟩, rfl, q _ _ (same_new nf) (.inl (.inl upd_same))⟩
/-- t + u, whatever object it is -/
def rCatU (K : PySem.W.Frag) : R2 := fun x y H Q => ∃ a b xs ys, x = .ref a ∧ y = .ref b ∧ SqT K H a xs ∧ SqT K H b ys ∧ xs.length + ys.length ≤ sizeLine ∧ ∀ p H', Same H H' → SqT K H' p (xs ++ ys) → Q (.ref p) H'
theorem op_catU : OpR X (binaryOp .Add) (rCatU X.K) := by
  intro pins s σ H x y v u Q I rx ry h
  obtain ⟨a, b, xs, ys, rfl, rfl, ha, hb, hz, q⟩ := h
  refine op_catA pins s σ H _ _ v u Q I rx ry ⟨a, b, xs, ys, rfl, rfl, ha, hb, hz, fun e => ?_, fun _ e => ?_, fun _ _ p np => q p _ (same_new np) (.inl (.inl upd_same))⟩
  · subst e
    exact q b H (Same.refl H) hb
  · subst e
    exact q a H (Same.refl H) (by rw [List.append_nil]; exact ha)
theorem cut_whole {xs : List V} {lo hi : Option Int} (h : HT.sIx xs.length 0 lo = 0 ∧ HT.sIx xs.length xs.length hi = xs.length) : cutV xs lo hi = xs := by
  unfold cutV
  rw [h.1, h.2]
  simp
/-- t[lo:hi], whatever object it is -/
def rSlU (K : PySem.W.Frag) : V → Option Int → Option Int → Hp → VK → Prop := fun x lo hi H Q => ∃ a xs, x = .ref a ∧ SqT K H a xs ∧ ∀ p H', Same H H' → SqT K H' p (cutV xs lo hi) → Q (.ref p) H'
theorem sl_tupU : SlR X (rSlU X.K) := by
  intro pins s σ H x v vl vu lo hi sl Q I rx hs pl pu h
  obtain ⟨a, xs, rfl, hx, q⟩ := h
  exact sl_tupA pins s σ H _ v vl vu lo hi sl Q I rx hs pl pu ⟨a, xs, rfl, hx, fun e => q a H (Same.refl H) (by rw [cut_whole e]; exact hx), fun _ p np => q p _ (same_new np) (.inl (.inl upd_same))⟩
end
theorem cut_to {xs : List V} (n : Nat) : cutV xs none (some (n : Int)) = xs.take n := by
  unfold cutV
  rw [HT.sIx_none, HT.sIx_nat]
  show ((xs.drop 0).take (min n xs.length - 0)) = _
  rw [List.drop_zero, Nat.sub_zero, Nat.min_comm, List.take_eq_take_iff]
  omega
theorem cut_from {xs : List V} (n : Nat) : cutV xs (some (n : Int)) none = xs.drop n := by
  unfold cutV
  rw [HT.sIx_none, HT.sIx_nat]
  by_cases h : n ≤ xs.length
  · rw [Nat.min_eq_left h, List.take_of_length_le (by rw [List.length_drop]; exact Nat.le_refl _)]
  · rw [Nat.min_eq_right (by omega), List.drop_eq_nil_of_le (Nat.le_refl _), List.drop_eq_nil_of_le (by omega)]
    exact List.take_nil
end Gk
namespace Gk
open PySem PySem.Spec PyProof.Rows L2
/-! ### data that is easily shown and compared -/
mutual
def tame : PyData → Bool
  | .none | .bool _ => true
  | .int i => decide (i.natAbs < 10 ^ 20)
  | .str x => x.cps.all (· < 0x110000)
  | .list xs | .tuple xs => tameAll xs
  | .dict _ => false
def tameAll : List PyData → Bool
  | [] => true
  | x :: xs => tame x && tameAll xs
end
mutual
def cost : PyData → Nat
  | .none | .bool _ | .int _ => 70
  | .str x => x.cps.size + 1
  | .list xs | .tuple xs => costAll xs
  | .dict _ => 0
def costAll : List PyData → Nat
  | [] => 1
  | x :: xs => cost x + 1 + costAll xs
end
theorem int_len20 {c : Int} (hc : c.natAbs < 10 ^ 20) : (PyData.shown (.int c)).length ≤ 21 := by
  have h := int_text_length_le10 (a := c) (k := 20) (by decide) hc
  show (Str.ofString (toString c)).length ≤ 21
  rw [PySem.ofString_length]
  exact h
theorem int_log20 {c : Int} (hc : c.natAbs < 10 ^ 20) : c.natAbs.log2 < 68 := PySem.Flt.log2_lt_of (by decide) (Nat.lt_of_lt_of_le hc (by decide))
mutual
theorem tame_showable : ∀ d : PyData, tame d = true → d.showable = true
  | .none, _ => rfl
  | .bool _, _ => rfl
  | .int i, h => by
    have h1 := int_log20 (of_decide_eq_true (by simpa only [tame] using h))
    simp only [PyData.showable]
    exact decide_eq_true (by omega)
  | .str _, _ => rfl
  | .list xs, h => by simpa only [PyData.showable] using tame_showableAll xs (by simpa only [tame] using h)
  | .tuple xs, h => by simpa only [PyData.showable] using tame_showableAll xs (by simpa only [tame] using h)
  | .dict _, h => by simp [tame] at h
theorem tame_showableAll : ∀ ds : List PyData, tameAll ds = true → PyData.showableAll ds = true
  | [], _ => rfl
  | x :: xs, h => by
    simp only [tameAll, Bool.and_eq_true] at h
    simp only [PyData.showableAll, tame_showable x h.1, tame_showableAll xs h.2, Bool.and_self]
end
mutual
theorem tame_nodict : ∀ d : PyData, tame d = true → d.hasDict = false
  | .none, _ => rfl
  | .bool _, _ => rfl
  | .int _, _ => rfl
  | .str _, _ => rfl
  | .list xs, h => by simpa only [PyData.hasDict] using tame_nodictAll xs (by simpa only [tame] using h)
  | .tuple xs, h => by simpa only [PyData.hasDict] using tame_nodictAll xs (by simpa only [tame] using h)
  | .dict _, h => by simp [tame] at h
theorem tame_nodictAll : ∀ ds : List PyData, tameAll ds = true → PyData.hasDictAll ds = false
  | [], _ => rfl
  | x :: xs, h => by
    simp only [tameAll, Bool.and_eq_true] at h
    simp only [PyData.hasDictAll, tame_nodict x h.1, tame_nodictAll xs h.2, Bool.or_self]
end
mutual
theorem tame_short : ∀ d : PyData, tame d = true → d.leavesShort 21 = true
  | .none, _ => rfl
  | .bool _, _ => rfl
  | .int i, h => by
    have h1 := int_len20 (of_decide_eq_true (by simpa only [tame] using h))
    simp only [PyData.leavesShort]
    exact decide_eq_true h1
  | .str x, h => by
    have h1 : x.cps.all (· < 0x110000) = true := by simpa only [tame] using h
    simp only [PyData.leavesShort, List.all_eq_true, decide_eq_true_eq]
    intro c hc
    rw [Array.all_eq_true_iff_forall_mem] at h1
    have h2 := h1 c (Array.mem_toList_iff.mp hc)
    have h3 : c < 0x110000 := by simpa using h2
    exact Nat.lt_of_lt_of_le h3 (by decide)
  | .list xs, h => by simpa only [PyData.leavesShort] using tame_shortAll xs (by simpa only [tame] using h)
  | .tuple xs, h => by simpa only [PyData.leavesShort] using tame_shortAll xs (by simpa only [tame] using h)
  | .dict _, h => by simp [tame] at h
theorem tame_shortAll : ∀ ds : List PyData, tameAll ds = true → PyData.leavesShortAll 21 ds = true
  | [], _ => rfl
  | x :: xs, h => by
    simp only [tameAll, Bool.and_eq_true] at h
    simp only [PyData.leavesShortAll, tame_short x h.1, tame_shortAll xs h.2, Bool.and_self]
end
mutual
theorem tame_weight : ∀ d : PyData, tame d = true → d.weight ≤ cost d
  | .none, _ => Nat.zero_le _
  | .bool _, _ => Nat.zero_le _
  | .int i, h => by
    have h1 := int_log20 (of_decide_eq_true (by simpa only [tame] using h))
    simp only [PyData.weight, cost]
    split <;> omega
  | .str x, h => by
    simp only [PyData.weight, cost]
    omega
  | .list xs, h => by simpa only [PyData.weight, cost] using tame_weightAll xs (by simpa only [tame] using h)
  | .tuple xs, h => by simpa only [PyData.weight, cost] using tame_weightAll xs (by simpa only [tame] using h)
  | .dict _, h => by simp [tame] at h
theorem tame_weightAll : ∀ ds : List PyData, tameAll ds = true → PyData.weightAll ds ≤ costAll ds
  | [], _ => Nat.zero_le _
  | x :: xs, h => by
    simp only [tameAll, Bool.and_eq_true] at h
    have h1 := tame_weight x h.1
    have h2 := tame_weightAll xs h.2
    simp only [PyData.weightAll, costAll]
    omega
end
mutual
theorem tame_lay : ∀ d : PyData, tame d = true → d.canLay0 = true
  | .none, _ => rfl
  | .bool _, _ => rfl
  | .int _, _ => rfl
  | .str x, h => by
    have h1 : x.cps.all (· < 0x110000) = true := by simpa only [tame] using h
    simpa only [PyData.canLay0, PyData.strOk] using h1
  | .list xs, h => by simpa only [PyData.canLay0] using tame_layAll xs (by simpa only [tame] using h)
  | .tuple xs, h => by simpa only [PyData.canLay0] using tame_layAll xs (by simpa only [tame] using h)
  | .dict _, h => by simp [tame] at h
theorem tame_layAll : ∀ ds : List PyData, tameAll ds = true → PyData.canLayAll0 ds = true
  | [], _ => rfl
  | x :: xs, h => by
    simp only [tameAll, Bool.and_eq_true] at h
    simp only [PyData.canLayAll0, tame_lay x h.1, tame_layAll xs h.2, Bool.and_self]
end
theorem Fine.tame {d : PyData} (h : Gk.tame d = true) (hd : d.depth ≤ 40) (hc : cost d ≤ 500000) : Fine d :=
  ⟨tame_showable d h, tame_nodict d h, hd, by
    have h1 := PyData.shown_le 21 (by decide) d (tame_short d h)
    have h2 := tame_weight d h
    have h3 : sizeLine = 16777216 := sizeLine_eq
    omega⟩
theorem tame_shaped {d : PyData} (h : tame d = true) (hd : d.depth ≤ 40) : SeqAt.shaped d = true := by
  unfold SeqAt.shaped
  rw [tame_lay d h, Bool.true_and]
  exact decide_eq_true (by omega)

/-! ### data of tuples stays while other things change -/
def Keep (K : PySem.W.Frag) (H H' : Hp) : Prop := ∀ a xs, SqT K H a xs → SqT K H' a xs
theorem Keep.refl {K : PySem.W.Frag} {H : Hp} : Keep K H H := fun _ _ h => h
theorem Keep.trans {K : PySem.W.Frag} {H H1 H2 : Hp} (a : Keep K H H1) (b : Keep K H1 H2) : Keep K H H2 := fun x xs h => b x xs (a x xs h)
theorem Same.keep {K : PySem.W.Frag} {H H' : Hp} (e : Same H H') : Keep K H H' := fun _ _ h => Same.seqT e h
theorem But.keep {K : PySem.W.Frag} {H H' : Hp} {b : Addr} {m : Nat} (e : But b H H') (hb : Box m H b) : Keep K H H' := by
  intro a xs h
  obtain ⟨x, y, z, g, _⟩ := hb
  rcases h with (h | ⟨o, h⟩) | h
  · exact .inl (.inl (e _ _ (ne_of h g (fun q => HO.noConfusion q)) h))
  · exact .inl (.inr ⟨o, e _ _ (ne_of h g (fun q => HO.noConfusion q)) h⟩)
  · exact .inr h
/-- all but the box, read: a list or a tuple that is not the box -/
theorem But.keepL {K : PySem.W.Frag} {H H' : Hp} {b a : Addr} {xs : List V} (e : But b H H') (n : a ≠ b) (h : SqL K H a xs) : SqL K H' a xs := e.seqL n h
mutual
def tups : PyData → Bool
  | .none | .bool _ | .int _ | .str _ => true
  | .tuple xs => tupsAll xs
  | .list _ | .dict _ => false
def tupsAll : List PyData → Bool
  | [] => true
  | x :: xs => tups x && tupsAll xs
end
mutual
theorem Dp.keep {K : PySem.W.Frag} {H H' : Hp} (k : Keep K H H') : ∀ (d : PyData) (v : V), tups d = true → Dp K H v d → Dp K H' v d
  | .none, _, _, h => by cases h; exact .non
  | .bool _, _, _, h => by cases h; exact .bl _
  | .int _, _, _, h => by cases h; exact .int _
  | .str _, _, _, h => by cases h; exact .str _
  | .tuple ds, _, t, h => by
    cases h with
    | tup h1 h2 => exact .tup (k _ _ h1) (DpAll.keep k ds _ (by simpa only [tups] using t) h2)
  | .list _, _, t, _ => by simp [tups] at t
  | .dict _, _, t, _ => by simp [tups] at t
theorem DpAll.keep {K : PySem.W.Frag} {H H' : Hp} (k : Keep K H H') : ∀ (ds : List PyData) (vs : List V), tupsAll ds = true → DpAll K H vs ds → DpAll K H' vs ds
  | [], _, _, h => by cases h; exact .nil
  | d :: ds, _, t, h => by
    simp only [tupsAll, Bool.and_eq_true] at t
    cases h with
    | cons h1 h2 => exact .cons (Dp.keep k d _ t.1 h1) (DpAll.keep k ds _ t.2 h2)
end
section
variable {K : PySem.W.Frag} {H : Hp}
theorem DpAll.len : ∀ {vs : List V} {ds : List PyData}, DpAll K H vs ds → vs.length = ds.length
  | _, _, .nil => rfl
  | _, _, .cons _ t => by rw [List.length_cons, List.length_cons, DpAll.len t]
theorem DpAll.take : ∀ {vs : List V} {ds : List PyData} (n : Nat), DpAll K H vs ds → DpAll K H (vs.take n) (ds.take n)
  | _, _, 0, _ => .nil
  | _, _, _ + 1, .nil => .nil
  | _, _, n + 1, .cons h t => .cons h (DpAll.take n t)
theorem DpAll.drop : ∀ {vs : List V} {ds : List PyData} (n : Nat), DpAll K H vs ds → DpAll K H (vs.drop n) (ds.drop n)
  | _, _, 0, h => h
  | _, _, _ + 1, .nil => .nil
  | _, _, n + 1, .cons _ t => DpAll.drop n t
theorem DpAll.app : ∀ {vs us : List V} {ds es : List PyData}, DpAll K H vs ds → DpAll K H us es → DpAll K H (vs ++ us) (ds ++ es)
  | _, _, _, _, .nil, h => h
  | _, _, _, _, .cons h t, h2 => .cons h (DpAll.app t h2)
theorem DpAll.rep {vs : List V} {ds : List PyData} (h : DpAll K H vs ds) : ∀ n : Nat, DpAll K H (List.replicate n vs).flatten (List.replicate n ds).flatten
  | 0 => .nil
  | n + 1 => by
    rw [List.replicate_succ, List.replicate_succ, List.flatten_cons, List.flatten_cons]
    exact DpAll.app h (DpAll.rep h n)
theorem DpAll.at : ∀ {vs : List V} {ds : List PyData} {i : Nat} {v : V} {d : PyData}, DpAll K H vs ds → vs[i]? = some v → ds[i]? = some d → Dp K H v d
  | _, _, _, _, _, .nil, h, _ => by simp at h
  | _, _, 0, _, _, .cons h _, e1, e2 => by
    obtain rfl := Option.some.inj e1
    obtain rfl := Option.some.inj e2
    exact h
  | _, _, i + 1, _, _, .cons _ t, e1, e2 => DpAll.at (i := i) t (by simpa using e1) (by simpa using e2)
theorem DpAll.ints : ∀ l : List Int, DpAll K H (l.map V.int) (l.map PyData.int)
  | [] => .nil
  | i :: l => .cons (.int i) (DpAll.ints l)
end
end Gk
namespace Pf
open PySem PySem.Spec PyProof.Rows L2 Gk
def topS (i : Nat) : Stmt := PySem.Challenge.pw_pastenough_k94_whole_patterns_by_closed.main.body.getD i (.Pass ⟨0, 0, 0, 0⟩)
abbrev sTake : Stmt := topS 10
abbrev sBox : Stmt := topS 9
theorem scBox : FnScope ["_law_script", "_law_k", "_law_digits", "_law_own"] ["_law_script", "_law_k"] (defScope sBox) := ⟨rfl, rfl, rfl, by decide +kernel, rfl, by decide +kernel, by decide +kernel⟩
theorem scTake : FnScope ["_law_box_here", "_law_many", "_law_digit", "_law_drawn"] ["_law_box_here", "_law_many"] (defScope sTake) := ⟨rfl, rfl, rfl, by decide +kernel, rfl, by decide +kernel, by decide +kernel⟩
def spTake : Sp := fun vs H Q _ => ∃ (b : Addr) (n : Int) (m : Nat), vs = [.ref b, .int n] ∧ 0 < n ∧ n < 1073741824 ∧ Box m H b ∧ m < 1000000000 ∧
  ∀ (d : Int) (H' : Hp), 0 ≤ d → d < n → But b H H' → Box (m + 1) H' b → (∀ p, p ≠ b → H' p = H p) → Q (.int d) H'

section
variable {P : Program} {w : World} {K : PySem.W.Frag} {mg : Str → Option Value} {base : Heap}
theorem ok_take {f : Addr} {fd : FuncData} {k : Nat} (F : L2.Fun K "_law_take" "_law_take" sTake f fd) : FnOk P w K mg base L2.CX0 (k + 1) f fd ["_law_box_here", "_law_many"] spTake := by
  refine F.ok scTake (fun vs H Q E h => ?_) (fun cdv A outer s H vs Q E hr h => ?_)
  · obtain ⟨b, n, m, rfl, _⟩ := h
    rfl
  · obtain ⟨b, n, m, rfl, n0, n1, ⟨x, y, z, hb, z0, z1⟩, hm, q⟩ := h
    refine ⟨_, pss_cons (ps_if (pt_cmpR op_gt (pe_ix ix_list (pv 0) pe_int (fun _ _ => rfl)) pe_int (nomark _))
        (pss_cons (ps_set (i := 2) scTake.nd rfl (.inl rfl) (pe_op op_mod (pe_ix ix_list (pv 0) pe_int (fun _ _ => rfl)) (pv 1)))
        (pss_cons (ps_asg (pe_op op_fdiv (pe_ix ix_list (pv 0) pe_int (fun _ _ => rfl)) (pv 1)) (pg_sub (pv 0) pe_int set_list))
        (pss_one (ps_ret (pv 2))))) pss_nil)
      (pss_cons (ps_asg (pe_op op_add (pe_ix ix_list (pv 0) pe_int (fun _ _ => rfl)) pe_int) (pg_sub (pv 0) pe_int set_list))
      (pss_cons (ps_set (i := 3) scTake.nd rfl (.inl rfl) (pe_op op_mod (pe_op op_mul (pe_op op_add (pe_op op_add (pe_ix ix_list (pv 0) pe_int (fun _ _ => rfl))
          (pe_op op_mul (pe_op op_mul pe_int (pe_ix ix_list (pv 0) pe_int (fun _ _ => rfl))) (pe_ix ix_list (pv 0) pe_int (fun _ _ => rfl)))) pe_int) pe_int) pe_int))
      (pss_cons (ps_set (i := 3) scTake.nd rfl (.inl rfl) (pe_op op_mod (pe_op op_mul (pv 3) (pe_op op_add (pe_op op_mod (pv 3) pe_int) (pe_op op_mul pe_int (pe_ix ix_list (pv 0) pe_int (fun _ _ => rfl))))) pe_int))
      (pss_one (ps_ret (pe_op op_mod (pe_op op_add (pe_op op_fdiv (pv 3) pe_int) (pe_op op_fdiv (pv 3) pe_int)) (pv 1))))))), ?_⟩
    refine ⟨.ref b, rfl, b, _, 0, .int x, rfl, rfl, SqL.of hb, rfl, x, 0, rfl, rfl, _, rfl, ite2 (fun e => ?_) (fun e => ?_)⟩
    · refine ⟨.ref b, rfl, b, _, 0, .int x, rfl, rfl, SqL.of hb, rfl, .int n, rfl, x, n, rfl, rfl, n0, ?_⟩
      refine ⟨.ref b, rfl, b, _, 0, .int x, rfl, rfl, SqL.of hb, rfl, .int n, rfl, x, n, rfl, rfl, ⟨n0, n1⟩, ?_⟩
      refine ⟨.ref b, rfl, b, _, _, 0, rfl, rfl, hb, rfl, ?_⟩
      refine ⟨.int (x % n), rfl, q _ _ (Int.emod_nonneg _ (by omega)) (Int.emod_lt_of_pos _ n0) But.set ⟨_, _, _, upd_same, z0, by omega⟩ fun p hp => upd_ne hp⟩
    · have hz : (z + 1 : Int) < 2 ^ 64 := by omega
      refine ⟨.ref b, rfl, b, _, 2, .int z, rfl, rfl, SqL.of hb, rfl, z, 1, rfl, rfl, ?_⟩
      refine ⟨.ref b, rfl, b, _, _, 2, rfl, rfl, hb, rfl, ?_⟩
      have h1 : upd H b (.lst [.int x, .int y, .int (z + 1)]) b = some (.lst [.int x, .int y, .int (z + 1)]) := upd_same
      refine ⟨.ref b, rfl, b, _, 1, .int y, rfl, rfl, SqL.of h1, rfl, .ref b, rfl, b, _, 2, .int (z + 1), rfl, rfl, SqL.of h1, rfl, _, _, rfl, rfl, .inl ⟨by decide, by decide⟩,
        .ref b, rfl, b, _, 2, .int (z + 1), rfl, rfl, SqL.of h1, rfl, _, _, rfl, rfl, .inr ⟨by omega, hz⟩, _, _, rfl, rfl, _, _, rfl, rfl, _, _, rfl, rfl, .inr ⟨by decide, by decide⟩, _, _, rfl, rfl, by show (0 : Int) < 2305843009213693921; decide, ?_⟩
      refine ⟨_, rfl, _, rfl, _, _, rfl, rfl, by show (0 : Int) < 1000033; decide, .ref b, rfl, b, _, 2, .int (z + 1), rfl, rfl, SqL.of h1, rfl, _, _, rfl, rfl, .inl ⟨by decide, by decide⟩, _, _, rfl, rfl, _, _, rfl, rfl,
        .inl ⟨Int.lt_of_lt_of_le (by decide) (Int.emod_nonneg _ (by decide)), Int.lt_trans (Int.emod_lt_of_pos _ (by decide)) (by decide)⟩, _, _, rfl, rfl, by show (0 : Int) < 2305843009213693907; decide, ?_⟩
      refine ⟨_, rfl, _, _, rfl, rfl, ⟨by decide, by decide⟩, _, rfl, _, _, rfl, rfl, ⟨by decide, by decide⟩, _, _, rfl, rfl, .int n, rfl, _, n, rfl, rfl, n0, ?_⟩
      exact q _ _ (Int.emod_nonneg _ (by omega)) (Int.emod_lt_of_pos _ n0) But.set ⟨_, _, _, h1, by omega, by omega⟩ fun p hp => upd_ne hp
def spBox (K : PySem.W.Frag) : Sp := fun vs H Q _ => ∃ (a : Addr) (ns : List Int) (k : Int), vs = [.ref a, .int k] ∧ SqL K H a (ns.map V.int) ∧ ns.length ≤ 63 ∧ 0 ≤ k ∧ k ≤ 1000 ∧
  ∀ p x y, H p = none → Q (.ref p) (upd H p (.lst [.int x, .int y, .int 0]))
theorem flag_small (c : Bool) : -(2 ^ 64) < (if c = true then (1 : Int) else 0) ∧ (if c = true then (1 : Int) else 0) < 2 ^ 64 := by cases c <;> decide
theorem bits60 : CBigPow 10 60 := ⟨by decide, by decide +kernel⟩
theorem bits300 : CBigPow (10 ^ (60 : Int).toNat) 5 := ⟨by decide, by decide +kernel⟩
theorem ok_box {f : Addr} {fd : FuncData} (ml : mg "len" = none) (ma : mg "abs" = none) (mi : mg "int" = none)
    (F : L2.Fun K "_law_box" "_law_box" sBox f fd) : FnOk P w K mg base L2.CX0 1 f fd ["_law_script", "_law_k"] (spBox K) := by
  refine F.ok scBox (fun vs H Q E h => ?_) (fun cdv A outer s H vs Q E hr h => ?_)
  · obtain ⟨a, ns, k, rfl, _⟩ := h
    rfl
  · obtain ⟨a, ns, k, rfl, hS, hl, k0, k1, q⟩ := h
    refine ⟨_, C8.pss_cut (ps_set (i := 2) scBox.nd rfl (.inl rfl) (pe_ifExp (pt_cmpR op_lt (pv 1) (pe_callB call_len_seq (by rfl) ml PySem.boot_len (pa_cons (pv 0) pa_nil)) (nomark _))
        (pe_ix ix_list (pv 0) (pv 1) (fun _ _ => rfl)) (pe_op op_add (pe_op op_mul pe_int (pv 1)) pe_int)))
      (pss_cons (ps_set (i := 3) scBox.nd rfl (.inl rfl) (pe_op op_mul (pe_op op_mod (pe_callB call_abs (by rfl) ma (by decide +kernel) (pa_cons (pv 2) pa_nil)) (pe_op op_bigpow (pe_op op_bigpow pe_int pe_int) pe_int))
          (pe_callTy call_int1 (by rfl) mi (by decide +kernel) (pa_cons (pe_cmpR op_ge (pe_callB call_abs (by rfl) ma (by decide +kernel) (pa_cons (pv 2) pa_nil)) (pe_op op_bigpow pe_int pe_int) (nomark _)) pa_nil))))
      (pss_one (ps_ret (pe_lst (pa_cons (pv 3) (pa_cons (pe_op op_mod (pe_op op_add (pe_op op_add (pe_op op_mul (pe_op op_mod (pv 2) pe_int) pe_int) (pe_op op_mul (pe_op op_mul pe_int (pv 1)) (pv 1))) pe_int) pe_int) (pa_cons pe_int pa_nil))))))), ?_⟩
    refine ⟨fun σ H' => H' = H ∧ ∃ d : Int, σ = [some (.ref a), some (.int k), some (.int d), none], ?_, fun σ' H' hM => ?_⟩
    · refine ⟨.int k, rfl, .ref a, rfl, a, _, rfl, .inl hS, _, _, rfl, rfl, _, rfl, ite2 (fun e => ?_) (fun e => ?_)⟩
      · have hk : k < (ns.map V.int).length := of_decide_eq_true e
        rw [List.length_map] at hk
        have g : (ns.map V.int)[k.toNat]? = some (.int ns[k.toNat]) := by
          rw [List.getElem?_map, List.getElem?_eq_getElem (by omega)]; rfl
        have ga := atI_nat g
        rw [Int.toNat_of_nonneg k0] at ga
        exact ⟨.ref a, rfl, .int k, rfl, a, _, k, _, rfl, rfl, hS, ga, rfl, _, rfl⟩
      · exact ⟨.int k, rfl, _, _, rfl, rfl, .inl ⟨by decide, by decide⟩, _, _, rfl, rfl, rfl, _, rfl⟩
    · obtain ⟨rfl, d, rfl⟩ := hM
      refine ⟨.int d, rfl, d, rfl, _, _, rfl, rfl, bits60, _, _, rfl, rfl, bits300, _, _, rfl, rfl, by show (0 : Int) < (10 ^ (60 : Int).toNat) ^ (5 : Int).toNat; decide +kernel, ?_⟩
      refine ⟨.int d, rfl, d, rfl, _, _, rfl, rfl, ⟨by decide, by decide +kernel⟩, _, _, rfl, rfl, .inr ⟨_, rfl, _, _, rfl, rfl, .inr ?_, ?_⟩⟩
      · exact flag_small _
      · refine ⟨_, rfl, .int d, rfl, _, _, rfl, rfl, by show (0 : Int) < 2305843009213693951; decide, _, _, rfl, rfl, .inr ⟨by decide, by decide⟩, .int k, rfl, _, _, rfl, rfl, .inl ⟨by decide, by decide⟩, .int k, rfl, _, _, rfl, rfl, .inr ⟨by omega, by omega⟩,
          _, _, rfl, rfl, _, _, rfl, rfl, _, _, rfl, rfl, by show (0 : Int) < 2305843009213693921; decide, by show 3 ≤ sizeLine; decide, fun p hp => q p _ _ hp⟩
end
end Pf
namespace Pf
open PySem PySem.Spec PyProof.Rows L2 Gk
/-- outcomes -/
def Bits (l : List Int) : Prop := ∀ o ∈ l, o = 0 ∨ o = 1
theorem Bits.nil : Bits [] := fun _ h => (nomatch h)
theorem Bits.snoc {l : List Int} {o : Int} (h : Bits l) (h0 : 0 ≤ o) (h1 : o < 2) : Bits (l ++ [o]) := fun x hx => by
  rcases List.mem_append.mp hx with g | g
  · exact h x g
  · rw [List.mem_singleton.mp g]
    omega
theorem Bits.rep {l : List Int} (h : Bits l) (n : Nat) : Bits (List.replicate n l).flatten := fun x hx => by
  obtain ⟨m, hm, hx⟩ := List.mem_flatten.mp hx
  rw [(List.mem_replicate.mp hm).2] at hx
  exact h x hx
theorem Bits.take {l : List Int} (h : Bits l) (n : Nat) : Bits (l.take n) := fun x hx => h x (List.mem_of_mem_take hx)
theorem rep_map (n : Nat) (l : List Int) : (List.replicate n (l.map V.int)).flatten = ((List.replicate n l).flatten).map V.int := by
  induction n with
  | zero => rfl
  | succ n ih => rw [List.replicate_succ, List.replicate_succ, List.flatten_cons, List.flatten_cons, List.map_append, ih]
theorem rep_len (n : Nat) (l : List Int) : ((List.replicate n l).flatten).length = n * l.length := by
  induction n with
  | zero => simp
  | succ n ih => rw [List.replicate_succ, List.flatten_cons, List.length_append, ih, Nat.succ_mul, Nat.add_comm]
theorem last_some {l : List Int} (h : 0 < l.length) : ∃ o, o ∈ l ∧ atI (l.map V.int) (-1) = some (V.int o) := by
  have e : l ≠ [] := fun z => by rw [z] at h; exact absurd h (Nat.lt_irrefl 0)
  refine ⟨l.getLast e, List.getLast_mem e, ?_⟩
  have g : l.map V.int = (l.dropLast.map V.int) ++ [V.int (l.getLast e)] := by
    rw [← List.map_singleton, ← List.map_append, List.dropLast_concat_getLast]
  rw [g]
  exact atI_last _ _
theorem but_local {b D : Addr} {H H1 H2 : Hp} (nD : H D = none) (h : But b H H1) (g : ∀ a o, a ≠ b → a ≠ D → H1 a = some o → H2 a = some o) : But b H H2 := fun a o n e => g a o n (fun z => by rw [z, nD] at e; cases e) (h a o n e)
end Pf
namespace Gk
open PySem PySem.Spec PyProof.Rows L2 PySem.Builtin.Str
/-! ### enumerate of a tuple -/
theorem enum_newT (l : Addr) (its : Array Value) :
    Meets (Builtin.«enumerate.__new__» ⟨[.type "enumerate", .ref l], []⟩) (fun _ R s => Heap.IsTuple s.heap l its ∧
      R (.ok (.ret (.ref (s.heap.push { cls := .type "tuple_iterator", data := .fields #[.ref l, .int 0 0] }).objs.size)))
        { s with heap := (s.heap.push { cls := .type "tuple_iterator", data := .fields #[.ref l, .int 0 0] }).push { cls := .type "enumerate", data := .fields #[.none, .bool false, .ref s.heap.objs.size, rawInt 0, .none, .none] } }) :=
  .of_wp fun prog w A R s h => by
    obtain ⟨hp, g, d, tk, os⟩ := s
    obtain ⟨hL, h⟩ := h
    have hsub := sub_enumerate
    obtain ⟨⟨oc, od, dt, sl⟩, hl, hcl, n, hdt⟩ := id hL
    replace hcl : oc = .type "tuple" := hcl
    replace hdt : dt = .seq its n := hdt
    subst hcl hdt
    wp_walk using wpAny_loadPart' hl
    refine wpAny_stack_any fun st => wpAny_pure ?_
    split
    · rename_i c _ _ _ _ _
      cases (c == Value.type "enumerate") <;>
      · wp_walk using wpAny_loadPart' hl, wpAny_pyIter_tuple hL
        exact ⟨_, rfl, h⟩
    · wp_walk using wpAny_loadPart' hl, wpAny_pyIter_tuple hL
      exact ⟨_, rfl, h⟩
section
variable {prog : Program} {w : World} {A : Around} {E : Value → Shared → Prop} {s : Shared}
theorem enumT {l : Addr} {its : Array Value} {Q : Value → Shared → Prop} (hL : s.heap.IsTuple l its)
    (h : ∀ h', IsEnum h' (s.heap.objs.size + 1) s.heap.objs.size 0 .none → h'.IsTupleIter s.heap.objs.size l 0 → (∀ b o, s.heap.get? b = some o → h'.get? b = some o) → Q (.ref (s.heap.objs.size + 1)) { s with heap := h' }) :
    wpAny (model prog w) A (call (.type "enumerate") [.ref l]) Q E s := by
  refine callType_new F.called_enumerate (by decide) (F.typeCall_enumerate_1 _) (F.newCall_enumerate_1 _) (fun obj => F.args_object_init_2 obj _) F.entry_enumerate_new (enum_newT l its) ⟨hL, ?_⟩
  have hz : (s.heap.push { cls := .type "tuple_iterator", data := .fields #[.ref l, .int 0 0] }).objs.size = s.heap.objs.size + 1 := Heap.size_push ..
  show _ ∧ _
  rw [hz]
  have he : IsEnum ((s.heap.push { cls := .type "tuple_iterator", data := .fields #[.ref l, .int 0 0] }).push { cls := .type "enumerate", data := .fields #[.none, .bool false, .ref s.heap.objs.size, rawInt 0, .none, .none] }) (s.heap.objs.size + 1) s.heap.objs.size 0 .none := by
    have g := Heap.get?_push_size (s.heap.push { cls := .type "tuple_iterator", data := .fields #[.ref l, .int 0 0] }) (o := { cls := .type "enumerate", data := .fields #[.none, .bool false, .ref s.heap.objs.size, rawInt 0, .none, .none] }) rfl
    rw [hz] at g
    exact g
  exact ⟨⟨_, he, rfl⟩, h _ he ⟨_, Heap.get?_push_of_some _ (Heap.get?_push_size _ rfl), rfl, rfl⟩ fun b o x => Heap.get?_push_of_some _ (Heap.get?_push_of_some _ x)⟩
end
def Ient (K : PySem.W.Frag) (a : Addr) (N : Nat) : It := ⟨fun i H => i < N ∧ ∃ xs : List V, SqT K H a xs ∧ xs.length = N,
  fun i H v H' => ∃ T x, v = .ref T ∧ H T = none ∧ (∀ xs, SqT K H a xs → xs[i]? = some x) ∧ H' = upd H T (.tup [.int (i : Nat), x]), fun i H => N ≤ i ∧ ∃ xs : List V, SqT K H a xs ∧ xs.length = N⟩
theorem turn_ent {P : Program} {w : World} {K : PySem.W.Frag} {elts : List Expr} {kk : Nat} {tpos : Pos} (e it a : Addr) (N : Nat) :
    Turn P w K (.Tuple elts kk tpos) (Ient K a N) [e, it] e (fun i h => ((∃ old, IsEnum h e it i old) ∧ h.IsTupleIter it a i) ∧ e ≠ it ∧ i ≤ N) where
  mem := List.mem_cons_self
  obj := fun i h st b hb => by
    obtain ⟨⟨⟨old, he⟩, ⟨o, ho, hc, hd⟩⟩, _⟩ := st
    rcases List.mem_cons.mp hb with rfl | hb
    · exact ⟨_, he, fun v g => nomatch g⟩
    · rw [List.mem_singleton.mp hb]
      exact ⟨o, ho, fun v g => by rw [hd] at g; cases g⟩
  keep := fun i h h' st k => by
    obtain ⟨⟨⟨old, he⟩, ⟨o, ho, hc, hd⟩⟩, hne⟩ := st
    exact ⟨⟨⟨old, k e List.mem_cons_self _ he⟩, o, k it (List.mem_cons_of_mem _ List.mem_cons_self) o ho, hc, hd⟩, hne⟩
  item := by
    intro X hP hw hK hc i pins s σ H E I hf st hg
    subst hP hw hK
    obtain ⟨hlt, xs, hq, hN⟩ := hg
    obtain ⟨st, hne, hi⟩ := st
    obtain ⟨its, rv, tup, hz⟩ := I.tuple hq
    have hlen : its.toArray.size = N := by rw [List.size_toArray, ← hN]; exact rv.length.symm
    have nat : a ≠ it := fun z => by
      obtain ⟨o1, g1, c1, _⟩ := tup
      obtain ⟨_, o2, g2, c2, _⟩ := st
      rw [z, g2] at g1
      cases g1
      rw [c2] at c1
      exact absurd c1 (by decide)
    have D : Draws X.prog X.w X.A.in1 it [it, a] its.toArray.size _ _ := Draws.tuple (show X.A.in1.handled = none from I.ok.hd hc) it a nat its.toArray
    have nea : e ≠ a := fun z => by
      obtain ⟨o1, g1, c1, _⟩ := tup
      obtain ⟨⟨old, g2⟩, _⟩ := st
      rw [z] at g2
      rw [g2] at g1
      cases g1
      exact absurd (show Value.type "enumerate" = Value.type "tuple" from c1) (by decide)
    have W := WalksT.enumerateD D e hne (fun q => (List.mem_cons.mp q).elim hne fun q => nea (List.mem_singleton.mp q)) List.mem_cons_self
    have hel : e < s.heap.objs.size := by obtain ⟨⟨old, he⟩, _⟩ := st; exact Heap.lt_size he
    have hil : it < s.heap.objs.size := by obtain ⟨_, o, ho, _⟩ := st; exact Heap.lt_size ho
    refine W.item i s _ _ (by rw [hlen]; exact hlt) ⟨st.1, st.2, tup⟩ fun T vals h' tk hp hT isT mid hk => ?_
    obtain ⟨t1, x1, hx1, rfl⟩ := hp
    have nT := W.apart i T h' mid
    obtain ⟨y, hy⟩ : ∃ y, xs[i]? = some y := ⟨xs[i]'(by omega), List.getElem?_eq_getElem (by omega)⟩
    obtain ⟨u, hu, ru⟩ := rv.get hy
    have hx1 : its.toArray[i]? = some x1 := hx1
    rw [List.getElem?_toArray, hu] at hx1
    obtain rfl := Option.some.inj hx1
    refine ⟨_, rfl, W.go elts kk tpos i T { s with heap := h', toks := tk } _ _ mid fun h2 st2 hk2 => ?_⟩
    obtain ⟨oT, gT, cT, nTT, dT⟩ := isT
    have gT2 := hk2 T oT nT gT
    have new : ObjOk X.prog X.w (upd H T (.tup [.int (i : Nat), y])) h2 T (.tup [.int (i : Nat), y]) :=
      ⟨by show 2 ≤ sizeLine; decide, [.int i t1, u], .cons ⟨_, rfl⟩ (.cons ru .nil), ⟨oT, gT2, cT, nTT, dT⟩⟩
    have I1 : Inv X pins σ (upd H T (.tup [.int (i : Nat), y])) { s with heap := h2, toks := tk } :=
      I.turnedNew (ch := [e, it]) (fun b ob hb g => hk2 b ob hb (hk b ob hb g)) hf hT new
    refine ⟨.ref T, _, I1, rfl, ⟨T, y, rfl, I.hok.fresh hT, fun ys hys => ?_, rfl⟩, ⟨⟨st2.1, st2.2.1⟩, hne, hlt⟩, fun b hb => ?_⟩
    · rw [I.tuple_inj hys hq]
      exact hy
    · have hb' : b < s.heap.objs.size := by
        rcases List.mem_cons.mp hb with rfl | hb
        · exact hel
        · rw [List.mem_singleton.mp hb]; exact hil
      rw [upd_ne (Nat.ne_of_lt (Nat.lt_of_lt_of_le hb' hT))]
      exact (hf b hb).1
  done := by
    intro X hP hw hK hc i pins s σ H E I hf st hg
    subst hP hw hK
    obtain ⟨hge, xs, hq, hN⟩ := hg
    obtain ⟨st, hne, hi⟩ := st
    obtain ⟨its, rv, tup, hz⟩ := I.tuple hq
    have hlen : its.toArray.size = N := by rw [List.size_toArray, ← hN]; exact rv.length.symm
    obtain rfl : i = N := Nat.le_antisymm hi hge
    have nat : a ≠ it := fun z => by
      obtain ⟨o1, g1, c1, _⟩ := tup
      obtain ⟨_, o2, g2, c2, _⟩ := st
      rw [z, g2] at g1
      cases g1
      rw [c2] at c1
      exact absurd c1 (by decide)
    have nea : e ≠ a := fun z => by
      obtain ⟨o1, g1, c1, _⟩ := tup
      obtain ⟨⟨old, g2⟩, _⟩ := st
      rw [z] at g2
      rw [g2] at g1
      cases g1
      exact absurd (show Value.type "enumerate" = Value.type "tuple" from c1) (by decide)
    have D : Draws X.prog X.w X.A.in1 it [it, a] its.toArray.size _ _ := Draws.tuple (show X.A.in1.handled = none from I.ok.hd hc) it a nat its.toArray
    have W := WalksT.enumerateD D e hne (fun q => (List.mem_cons.mp q).elim hne fun q => nea (List.mem_singleton.mp q)) List.mem_cons_self
    rw [← hlen] at st
    refine W.done s _ _ ⟨st.1, st.2, tup⟩ fun h' tk hk => ⟨rfl, ?_⟩
    exact I.step (g' := s.gens) (d' := s.drawn) (ch := [e, it]) (fun b hb => ⟨(hf b hb).2.2.2.1, (hf b hb).2.1, (hf b hb).2.2.2.2.1, (hf b hb).2.2.2.2.2⟩) (fun b o _ _ hc g _ => hk b o hc g) (fun b o _ _ hc g _ => ⟨o.slots, hk b o hc g⟩)
      (fun _ _ _ _ n => n) (fun b o hc g => ⟨o, hk b o hc g⟩) (fun _ _ g => g) (fun _ _ _ g => g) (fun b ps g => ⟨#[], by rw [g]; simp⟩)
      (fun m hm => by
        obtain ⟨o, es, ep, ho, r⟩ := hm
        exact ⟨o, es, ep, hk _ o (fun q => (hf _ q).2.1 rfl) ho, r⟩)
      (fun b u g => by
        have nb : ∀ c v, H c = some v → c ∉ [e, it] := fun c v g q => by
          have g' := (hf c q).1
          rw [g'] at g; cases g
        refine (I.hok b u g).stay (fun c v hcv q => hk c v ?_ q) (fun _ q => q) fun _ _ q => q
        rcases hcv with rfl | hcv
        · exact nb _ _ g
        · exact nb _ _ hcv) I.bare
  self := fun A i s Q E st h => by
    obtain ⟨⟨⟨old, he⟩, _⟩, _⟩ := st
    exact wpAny_pyIter_enum he h
def iEnumU (K : PySem.W.Frag) (ta : TA) : TI := fun σ H R => ta σ H fun vs H1 => ∃ a xs, vs = [.ref a] ∧ SqT K H1 a xs ∧ R (Ient K a xs.length) H1
theorem pi_enumU {X : Cx} {e : Expr} {ta : TA} {p pos tpos : Pos} {elts : List Expr} {kk : Nat} (hg : Gl X "enumerate") (hm : X.mg "enumerate" = none) (ha : PA X [e] ta) (hs : starEach [e] X.env = [(false, eval e X.env)] := by rfl) :
    PI X (.Tuple elts kk tpos) (.Call (.Name "enumerate" p) [e] [] pos) (iEnumU X.K ta) := by
  refine ⟨fun pins s σ H R I h => Call_ (ld_blt I hg hm boot_enumerate (PyProof.Rows.callWith_type1 (thn (ha.run pos pins s σ H _ I h) fun us s1 ⟨vs, H1, I1, r1, a, xs, ez, hq, q⟩ => ?_) hs rfl))⟩
  subst ez
  obtain ⟨u, rfl, r2⟩ := vals1 r1
  cases r2
  obtain ⟨its, rv, tup, hz⟩ := I1.tuple hq
  refine enumT tup fun h' he hit hk => wpAny_pyIter_enum he ?_
  refine ⟨s1.heap.objs.size + 1, [s1.heap.objs.size + 1, s1.heap.objs.size], _, _, H1, rfl, I1.kept (t' := s1.toks) hk, turn_ent (s1.heap.objs.size + 1) s1.heap.objs.size a xs.length, ⟨⟨⟨.none, he⟩, hit⟩, Nat.succ_ne_self _, Nat.zero_le _⟩, fun b hb => ?_, q⟩
  have hle : s1.heap.objs.size ≤ b := by
    rcases List.mem_cons.mp hb with rfl | hb
    · exact Nat.le_succ _
    · rw [List.mem_singleton.mp hb]
      exact Nat.le_refl _
  exact I1.fpOk hle (I1.hok.fresh hle)
theorem walk_ent {K : PySem.W.Frag} {a : Addr} {xs : List V} : Walk (Ient K a xs.length) xs.length (fun H => SqT K H a xs) (fun i H v H' => ∃ T x, v = .ref T ∧ H T = none ∧ xs[i]? = some x ∧ H' = upd H T (.tup [.int (i : Nat), x])) :=
  ⟨fun i _ hi g => ⟨hi, xs, g, rfl⟩, fun _ g => ⟨Nat.le_refl _, xs, g, rfl⟩, fun i H v H' _ g y => by
    obtain ⟨T, x, h1, h2, h3, h4⟩ := y
    exact ⟨T, x, h1, h2, h3 xs g, h4⟩⟩
end Gk
namespace Gk
open PySem PySem.Spec PyProof.Rows L2
/-- a pair (branch, outcome) -/
def pd (x : Int × Int) : PyData := .tuple [.int x.1, .int x.2]
def PairsAt (K : PySem.W.Frag) (H : Hp) (p : Addr) (l : List (Int × Int)) : Prop := Dp K H (.ref p) (.tuple (l.map pd))
theorem tups_pd : ∀ l : List (Int × Int), tupsAll (l.map pd) = true
  | [] => rfl
  | x :: l => by
    show (tups (pd x) && tupsAll (l.map pd)) = true
    rw [tups_pd l]
    rfl
theorem PairsAt.keep {K : PySem.W.Frag} {H H' : Hp} {p : Addr} {l : List (Int × Int)} (h : PairsAt K H p l) (k : Keep K H H') : PairsAt K H' p l :=
  Dp.keep k _ _ (by simpa only [tups] using tups_pd l) h
theorem pairs_keep {K : PySem.W.Frag} {H H' : Hp} {as : List V} {l : List (Int × Int)} (h : DpAll K H as (l.map pd)) (k : Keep K H H') : DpAll K H' as (l.map pd) := DpAll.keep k _ _ (tups_pd l) h
theorem keep_lst {K : PySem.W.Frag} {H : Hp} {D : Addr} {xs : List V} {o : HO} (h : H D = some (.lst xs)) : Keep K H (upd H D o) := by
  intro a ys g
  rcases g with (g | ⟨u, g⟩) | g
  · exact .inl (.inl (by rw [upd_ne (ne_of g h (fun q => HO.noConfusion q))]; exact g))
  · exact .inl (.inr ⟨u, by rw [upd_ne (ne_of g h (fun q => HO.noConfusion q))]; exact g⟩)
  · exact .inr g
/-- one pair more in the list at D -/
theorem pairs_snoc {K : PySem.W.Frag} {H : Hp} {D T : Addr} {as : List V} {l : List (Int × Int)} {x y : Int} {o : HO} (h : DpAll K H as (l.map pd)) (hD : H D = some (.lst as)) (nT : H T = none) :
    DpAll K (upd (upd H T (.tup [.int x, .int y])) D o) (as ++ [.ref T]) ((l ++ [(x, y)]).map pd) := by
  have nd : D ≠ T := ne_of_none hD nT
  have hD2 : (upd H T (.tup [.int x, .int y])) D = some (.lst as) := by rw [upd_ne nd]; exact hD
  have k := (Same.keep (K := K) (same_new (o := HO.tup [V.int x, V.int y]) nT)).trans (keep_lst (o := o) hD2)
  rw [List.map_append]
  refine DpAll.app (pairs_keep h k) (.cons (.tup (.inl (.inl ?_)) (.cons (.int x) (.cons (.int y) .nil))) .nil)
  rw [upd_ne nd.symm, upd_same]
theorem pair_at {K : PySem.W.Frag} {H : Hp} {v : V} {x : Int × Int} (h : Dp K H v (pd x)) : ∃ a, v = .ref a ∧ SqT K H a [.int x.1, .int x.2] := by
  cases h with
  | tup h1 h2 =>
    cases h2 with
    | cons a b =>
      cases a
      cases b with
      | cons c d =>
        cases c
        cases d
        exact ⟨_, rfl, h1⟩
theorem DpAll.set {K : PySem.W.Frag} {H : Hp} {v : V} {d : PyData} (hv : Dp K H v d) : ∀ {vs : List V} {ds : List PyData} (i : Nat), DpAll K H vs ds → DpAll K H (vs.set i v) (ds.set i d)
  | _, _, _, .nil => .nil
  | _, _, 0, .cons _ t => .cons hv t
  | _, _, i + 1, .cons h t => .cons h (DpAll.set hv i t)
theorem lc_len {K : PySem.W.Frag} {H : Hp} {as : List V} {l : List (Int × Int)} (h : DpAll K H as (l.map pd)) : as.length = l.length := by
  have := DpAll.len h
  rwa [List.length_map] at this
/-- branches and outcomes -/
def Fair (l : List (Int × Int)) : Prop := ∀ x ∈ l, (0 ≤ x.1 ∧ x.1 ≤ 7) ∧ (x.2 = 0 ∨ x.2 = 1)
theorem Fair.nil : Fair [] := fun _ h => (nomatch h)
theorem Fair.snoc {l : List (Int × Int)} {x y : Int} (h : Fair l) (a : 0 ≤ x) (b : x ≤ 7) (c : y = 0 ∨ y = 1) : Fair (l ++ [(x, y)]) := fun z hz => by
  rcases List.mem_append.mp hz with g | g
  · exact h z g
  · rw [List.mem_singleton.mp g]
    exact ⟨⟨a, b⟩, c⟩
theorem Fair.take {l : List (Int × Int)} (h : Fair l) (n : Nat) : Fair (l.take n) := fun x hx => h x (List.mem_of_mem_take hx)
theorem tame_pd : ∀ {l : List (Int × Int)}, Fair l → tameAll (l.map pd) = true
  | [], _ => rfl
  | x :: l, h => by
    have h1 := h x List.mem_cons_self
    show (tame (pd x) && tameAll (l.map pd)) = true
    rw [tame_pd fun z hz => h z (List.mem_cons_of_mem _ hz), Bool.and_true]
    simp only [pd, tame, tameAll, Bool.and_true, Bool.and_eq_true, decide_eq_true_eq]
    omega
theorem cost_pd : ∀ l : List (Int × Int), costAll (l.map pd) = 1 + 144 * l.length
  | [] => rfl
  | x :: l => by
    show cost (pd x) + 1 + costAll (l.map pd) = _
    rw [cost_pd l, List.length_cons]
    simp only [pd, cost, costAll]
    omega
theorem depth_pd : ∀ l : List (Int × Int), PyData.depthAll (l.map pd) ≤ 1
  | [] => by decide
  | x :: l => by
    show max (PyData.depth (pd x)) (PyData.depthAll (l.map pd)) ≤ 1
    have h := depth_pd l
    have h2 : PyData.depth (pd x) = 1 := by simp [pd, PyData.depth, PyData.depthAll]
    omega
end Gk
namespace Gk
open PySem PySem.Spec PyProof.Rows L2
/-! ### data whose equality is being the same -/
mutual
def exa : PyData → Bool
  | .none | .int _ | .str _ => true
  | .list xs | .tuple xs => exaAll xs
  | .bool _ | .dict _ => false
def exaAll : List PyData → Bool
  | [] => true
  | x :: xs => exa x && exaAll xs
end
mutual
theorem eqv_exa : ∀ d e : PyData, exa d = true → exa e = true → PyData.eqv d e = true → d = e
  | .none, .none, _, _, _ => rfl
  | .int i, .int j, _, _, h => by
    simp only [PyData.eqv, beq_iff_eq] at h
    rw [h]
  | .str x, .str y, _, _, h => by
    simp only [PyData.eqv, beq_iff_eq] at h
    rw [h]
  | .list xs, .list ys, a, b, h => by
    simp only [PyData.eqv] at h
    rw [eqv_exaAll xs ys (by simpa only [exa] using a) (by simpa only [exa] using b) h]
  | .tuple xs, .tuple ys, a, b, h => by
    simp only [PyData.eqv] at h
    rw [eqv_exaAll xs ys (by simpa only [exa] using a) (by simpa only [exa] using b) h]
  | .none, .int _, _, _, h | .none, .str _, _, _, h | .none, .list _, _, _, h | .none, .tuple _, _, _, h => by simp [PyData.eqv] at h
  | .int _, .none, _, _, h | .int _, .str _, _, _, h | .int _, .list _, _, _, h | .int _, .tuple _, _, _, h => by simp [PyData.eqv] at h
  | .str _, .none, _, _, h | .str _, .int _, _, _, h | .str _, .list _, _, _, h | .str _, .tuple _, _, _, h => by simp [PyData.eqv] at h
  | .list _, .none, _, _, h | .list _, .int _, _, _, h | .list _, .str _, _, _, h | .list _, .tuple _, _, _, h => by simp [PyData.eqv] at h
  | .tuple _, .none, _, _, h | .tuple _, .int _, _, _, h | .tuple _, .str _, _, _, h | .tuple _, .list _, _, _, h => by simp [PyData.eqv] at h
  | .bool _, _, a, _, _ | .dict _, _, a, _, _ => by simp [exa] at a
  | .none, .bool _, _, b, _ | .none, .dict _, _, b, _ | .int _, .bool _, _, b, _ | .int _, .dict _, _, b, _ | .str _, .bool _, _, b, _ | .str _, .dict _, _, b, _ => by simp [exa] at b
  | .list _, .bool _, _, b, _ | .list _, .dict _, _, b, _ | .tuple _, .bool _, _, b, _ | .tuple _, .dict _, _, b, _ => by simp [exa] at b
theorem eqv_exaAll : ∀ xs ys : List PyData, exaAll xs = true → exaAll ys = true → PyData.eqvAll xs ys = true → xs = ys
  | [], [], _, _, _ => rfl
  | x :: xs, y :: ys, a, b, h => by
    simp only [exaAll, Bool.and_eq_true] at a b
    simp only [PyData.eqvAll, Bool.and_eq_true] at h
    rw [eqv_exa x y a.1 b.1 h.1, eqv_exaAll xs ys a.2 b.2 h.2]
  | [], _ :: _, _, _, h => by simp [PyData.eqvAll] at h
  | _ :: _, [], _, _, h => by simp [PyData.eqvAll] at h
end
theorem eqv_same {d : PyData} (h : tame d = true) : PyData.eqv d d = true := SeqAt.eqv_refl d (tame_lay d h)
/-- an item of a row or of a loop -/
structure Item (d : PyData) : Prop where
  e : exa d = true
  t : tups d = true
  m : tame d = true
  dp : d.depth ≤ 1
  c : cost d ≤ 143
def Plain (ds : List PyData) : Prop := ∀ d ∈ ds, Item d
theorem Plain.exa : ∀ {ds : List PyData}, Plain ds → exaAll ds = true
  | [], _ => rfl
  | x :: xs, h => by
    simp only [exaAll, (h x List.mem_cons_self).e, Plain.exa fun z hz => h z (List.mem_cons_of_mem _ hz), Bool.and_self]
theorem Plain.tups : ∀ {ds : List PyData}, Plain ds → tupsAll ds = true
  | [], _ => rfl
  | x :: xs, h => by
    simp only [tupsAll, (h x List.mem_cons_self).t, Plain.tups fun z hz => h z (List.mem_cons_of_mem _ hz), Bool.and_self]
theorem Plain.tame : ∀ {ds : List PyData}, Plain ds → tameAll ds = true
  | [], _ => rfl
  | x :: xs, h => by
    simp only [tameAll, (h x List.mem_cons_self).m, Plain.tame fun z hz => h z (List.mem_cons_of_mem _ hz), Bool.and_self]
theorem Plain.depth : ∀ {ds : List PyData}, Plain ds → PyData.depthAll ds ≤ 1
  | [], _ => Nat.zero_le _
  | x :: xs, h => by
    have h1 := (h x List.mem_cons_self).dp
    have h2 := Plain.depth fun z hz => h z (List.mem_cons_of_mem _ hz)
    simp only [PyData.depthAll]
    omega
theorem Plain.cost : ∀ {ds : List PyData}, Plain ds → costAll ds ≤ 1 + 144 * ds.length
  | [], _ => by decide
  | x :: xs, h => by
    have h1 := (h x List.mem_cons_self).c
    have h2 := Plain.cost fun z hz => h z (List.mem_cons_of_mem _ hz)
    simp only [costAll, List.length_cons]
    omega
theorem Plain.sub {ds es : List PyData} (h : Plain ds) (s : ∀ d ∈ es, d ∈ ds) : Plain es := fun d hd => h d (s d hd)
theorem Plain.take {ds : List PyData} (h : Plain ds) (n : Nat) : Plain (ds.take n) := h.sub fun _ g => List.mem_of_mem_take g
theorem Plain.drop {ds : List PyData} (h : Plain ds) (n : Nat) : Plain (ds.drop n) := h.sub fun _ g => List.mem_of_mem_drop g
theorem Plain.app {ds es : List PyData} (h : Plain ds) (g : Plain es) : Plain (ds ++ es) := fun d hd => (List.mem_append.mp hd).elim (h d) (g d)
theorem Plain.rep {ds : List PyData} (h : Plain ds) (n : Nat) : Plain (List.replicate n ds).flatten := fun x hx => by
  obtain ⟨m, hm, hx⟩ := List.mem_flatten.mp hx
  rw [(List.mem_replicate.mp hm).2] at hx
  exact h x hx
theorem plain_pd {l : List (Int × Int)} (h : Fair l) : Plain (l.map pd) := fun d hd => by
  obtain ⟨x, hx, rfl⟩ := List.mem_map.mp hd
  have g := h x hx
  refine ⟨rfl, rfl, ?_, by simp [pd, PyData.depth, PyData.depthAll], by simp only [pd, Gk.cost, costAll]; omega⟩
  simp only [pd, Gk.tame, tameAll, Bool.and_true, Bool.and_eq_true, decide_eq_true_eq]
  omega
theorem plain_bits {l : List Int} (h : ∀ o ∈ l, o = 0 ∨ o = 1) : Plain (l.map PyData.int) := fun d hd => by
  obtain ⟨x, hx, rfl⟩ := List.mem_map.mp hd
  have g := h x hx
  refine ⟨rfl, rfl, ?_, by simp [PyData.depth], by simp only [Gk.cost]; omega⟩
  simp only [Gk.tame, decide_eq_true_eq]
  omega
theorem Plain.fine {ds : List PyData} (h : Plain ds) (hl : ds.length ≤ 1000) : Fine (.tuple ds) := by
  have h1 := h.depth
  have h2 := h.cost
  refine Fine.tame (by simpa only [Gk.tame] using h.tame) ?_ ?_
  · simp only [PyData.depth]
    omega
  · simp only [Gk.cost]
    omega
theorem Plain.shaped {ds : List PyData} (h : Plain ds) : SeqAt.shaped (.tuple ds) = true := by
  have h1 := h.depth
  refine tame_shaped (by simpa only [Gk.tame] using h.tame) ?_
  simp only [PyData.depth]
  omega
def ItsAt (K : PySem.W.Frag) (H : Hp) (p : Addr) (ds : List PyData) : Prop := Dp K H (.ref p) (.tuple ds)
theorem ItsAt.keep {K : PySem.W.Frag} {H H' : Hp} {p : Addr} {ds : List PyData} (h : ItsAt K H p ds) (hp : Plain ds) (k : Keep K H H') : ItsAt K H' p ds :=
  Dp.keep k _ _ (by simpa only [Gk.tups] using hp.tups) h
theorem ItsAt.out {K : PySem.W.Frag} {H : Hp} {p : Addr} {ds : List PyData} (h : ItsAt K H p ds) : ∃ xs, SqT K H p xs ∧ DpAll K H xs ds ∧ xs.length = ds.length := by
  cases h with
  | tup a b => exact ⟨_, a, b, DpAll.len b⟩
theorem plain_eq {ds es : List PyData} (h : Plain ds) (g : Plain es) : PyData.eqv (.tuple ds) (.tuple es) = true ↔ ds = es :=
  ⟨fun e => PyData.tuple.inj (eqv_exa _ _ (by simpa only [Gk.exa] using h.exa) (by simpa only [Gk.exa] using g.exa) e), fun e => by
    rw [e]
    exact eqv_same (by simpa only [Gk.tame] using g.tame)⟩

/-! ### roots -/
def Rep {α : Type} (l : List α) (s : Nat) : Prop := (List.replicate (l.length / s) (l.take s)).flatten = l
structure RootIs {α : Type} (l : List α) (s : Nat) : Prop where
  lo : 1 ≤ s
  hi : s ≤ l.length
  rep : Rep l s
  least : ∀ t, 1 ≤ t → t < s → ¬ Rep l t
theorem flat_len {α : Type} (n : Nat) (l : List α) : ((List.replicate n l).flatten).length = n * l.length := by
  induction n with
  | zero => simp
  | succ n ih => rw [List.replicate_succ, List.flatten_cons, List.length_append, ih, Nat.succ_mul, Nat.add_comm]
theorem Rep.many {α : Type} {l : List α} {s : Nat} (h : Rep l s) (hs : s ≤ l.length) : s * (l.length / s) = l.length := by
  have e := congrArg List.length h
  rw [flat_len, List.length_take, Nat.min_eq_left hs, Nat.mul_comm] at e
  exact e
theorem RootIs.one {α : Type} {l : List α} {s t : Nat} (a : RootIs l s) (b : RootIs l t) : s = t := by
  by_cases h : s < t
  · exact absurd a.rep (b.least s a.lo h)
  · by_cases g : t < s
    · exact absurd b.rep (a.least t b.lo g)
    · omega
theorem rep_all {α : Type} {l : List α} (h : 1 ≤ l.length) : Rep l l.length := by
  unfold Rep
  rw [Nat.div_self h, List.take_length]
  show [l].flatten = l
  simp
theorem flat_mul {α : Type} (x : List α) (k : Nat) : ∀ m : Nat, (List.replicate m (List.replicate k x).flatten).flatten = (List.replicate (m * k) x).flatten
  | 0 => by simp
  | m + 1 => by
    rw [List.replicate_succ, List.flatten_cons, flat_mul x k m, Nat.succ_mul, Nat.add_comm (m * k) k, ← List.replicate_append_replicate, List.flatten_append]
theorem root_again {α : Type} {l : List α} {s t : Nat} (a : RootIs l s) (b : RootIs (l.take s) t) : t = s := by
  have hl : (l.take s).length = s := by rw [List.length_take]; exact Nat.min_eq_left a.hi
  have ht : t ≤ s := by have := b.hi; rwa [hl] at this
  by_cases h : t < s
  · refine absurd ?_ (a.least t b.lo h)
    have r1 := a.rep
    have r2 := b.rep
    have m1 := Rep.many a.rep a.hi
    have m2 := Rep.many b.rep b.hi
    rw [hl] at m2
    unfold Rep at r1 r2 ⊢
    rw [hl] at r2
    have e1 : l.length / t = l.length / s * (s / t) := by
      have : l.length = t * (l.length / s * (s / t)) := by
        have h2 : t * (s / t) * (l.length / s) = l.length := by
          rw [m2]
          exact m1
        rw [Nat.mul_comm (l.length / s) (s / t), ← Nat.mul_assoc]
        exact h2.symm
      exact Nat.div_eq_of_eq_mul_right b.lo this
    have e2 : (l.take s).take t = l.take t := by rw [List.take_take, Nat.min_eq_left ht]
    rw [e2] at r2
    rw [e1, ← flat_mul, r2, r1]
  · omega
/-! ### turned -/
def rot {α : Type} (l : List α) (k : Nat) : List α := l.drop k ++ l.take k
theorem rot_len {α : Type} (l : List α) (k : Nat) : (rot l k).length = l.length := by
  unfold rot
  rw [List.length_append, List.length_drop, List.length_take]
  omega
theorem rot_at {α : Type} {l : List α} {k i : Nat} (hk : k < l.length) (hi : i < l.length) : (rot l k)[i]? = l[(i + k) % l.length]? := by
  unfold rot
  by_cases h : i < l.length - k
  · rw [List.getElem?_append_left (by rw [List.length_drop]; exact h), List.getElem?_drop, Nat.mod_eq_of_lt (by omega), Nat.add_comm]
  · rw [List.getElem?_append_right (by rw [List.length_drop]; omega), List.length_drop, List.getElem?_take_of_lt (by omega)]
    have : (i + k) % l.length = i - (l.length - k) := by
      rw [Nat.mod_eq_sub_mod (by omega), Nat.mod_eq_of_lt (by omega)]
      omega
    rw [this]
theorem rot_back {α : Type} {l : List α} {j k : Nat} (hk : k < l.length) (h : (j = 0 ∧ k = 0) ∨ j + k = l.length) : rot (rot l k) j = l := by
  rcases h with ⟨rfl, rfl⟩ | h
  · unfold rot
    simp
  · have hj : (l.drop k).length = j := by rw [List.length_drop]; omega
    show (rot l k).drop j ++ (rot l k).take j = l
    unfold rot
    rw [← hj, List.drop_left, List.take_left, List.take_append_drop]
/-! ### rules whose written part is named -/
def rLen2 (K : PySem.W.Frag) : List V → Hp → VK → Prop := fun xs H Q => ∃ p ys, xs = [.ref p] ∧ (SqL K H p ys ∨ SqT K H p ys) ∧ Q (.int ys.length) H
theorem call_lenK {X : Cx} (K : PySem.W.Frag) (h : X.K = K := by rfl) : CallR X (.builtin "len") (rLen2 K) := by
  subst h
  exact call_len_seq
theorem ix_tupK {X : Cx} (K : PySem.W.Frag) (h : X.K = K := by rfl) : IxR X (rIxT K) := by
  subst h
  exact ix_tup
theorem ix_listK {X : Cx} (K : PySem.W.Frag) (h : X.K = K := by rfl) : IxR X (rIxL K) := by
  subst h
  exact ix_list
end Gk
namespace Gk
open PySem PySem.Spec PyProof.Rows L2
/-! ### values of any kind: data with lists and dicts, away from what changes -/
mutual
inductive Dv (M : Addr → Prop) (K : PySem.W.Frag) (H : Hp) : V → PyData → Prop
  | non : Dv M K H .non .none
  | bl (b : Bool) : Dv M K H (.bl b) (.bool b)
  | int (i : Int) : Dv M K H (.int i) (.int i)
  | str (x : Str) : Dv M K H (.str x) (.str x)
  | lst {a : Addr} {xs : List V} {ds : List PyData} : H a = some (.lst xs) → ¬ M a → (a == sysModules) = false → DvAll M K H xs ds → Dv M K H (.ref a) (.list ds)
  | tup {a : Addr} {xs : List V} {ds : List PyData} : Rd H a (.tup xs) → ¬ M a → DvAll M K H xs ds → Dv M K H (.ref a) (.tuple ds)
  | tupK {a : Addr} {xs : List V} {ds : List PyData} : (∃ (o : Obj) (its : Array Value) (n : Nat), K.lookup a = some o ∧ o.cls = .type "tuple" ∧ o.data = .seq its n ∧ its.size ≤ sizeLine ∧ Vals xs its.toList) → DvAll M K H xs ds → Dv M K H (.ref a) (.tuple ds)
  | dct {a : Addr} {kvs : List (Key × V)} {ks : List Str} {xs : List V} {ds : List PyData} : H a = some (.dK kvs) → ¬ M a → kvs = (ks.map Sum.inr).zip xs → ks.length = ds.length → DvAll M K H xs ds →
      Dv M K H (.ref a) (.dict ((ks.map PyData.str).zip ds))
inductive DvAll (M : Addr → Prop) (K : PySem.W.Frag) (H : Hp) : List V → List PyData → Prop
  | nil : DvAll M K H [] []
  | cons {v : V} {vs : List V} {d : PyData} {ds : List PyData} : Dv M K H v d → DvAll M K H vs ds → DvAll M K H (v :: vs) (d :: ds)
end
/-- what does not belong to M stays -/
def Off (M : Addr → Prop) (H H' : Hp) : Prop := ∀ a o, ¬ M a → H a = some o → H' a = some o
theorem Off.refl {M : Addr → Prop} {H : Hp} : Off M H H := fun _ _ _ h => h
theorem Off.trans {M : Addr → Prop} {H H1 H2 : Hp} (x : Off M H H1) (y : Off M H1 H2) : Off M H H2 := fun a o n h => y a o n (x a o n h)
theorem Off.same {M : Addr → Prop} {H H' : Hp} (s : Same H H') : Off M H H' := fun a o _ h => s a o h
theorem Off.but {M : Addr → Prop} {H H' : Hp} {b : Addr} (s : But b H H') (hb : M b) : Off M H H' := fun a o n h => s a o (fun z => n (by rw [z]; exact hb)) h
theorem Off.mut {M : Addr → Prop} {H : Hp} {D : Addr} {o : HO} (hb : M D) : Off M H (upd H D o) := fun a u n h => by
  rw [upd_ne (fun z => n (by rw [z]; exact hb))]
  exact h
theorem Off.rd {M : Addr → Prop} {H H' : Hp} {a : Addr} {o : HO} (k : Off M H H') (n : ¬ M a) (h : Rd H a o) : Rd H' a o := h.elim (fun h => .inl (k _ _ n h)) fun ⟨ob, h⟩ => .inr ⟨ob, k _ _ n h⟩
theorem rd_some {H : Hp} {a : Addr} {o : HO} (h : Rd H a o) : ∃ u, H a = some u := h.elim (fun h => ⟨_, h⟩) fun ⟨ob, h⟩ => ⟨_, h⟩
mutual
theorem Dv.keep {M M' : Addr → Prop} {K : PySem.W.Frag} {H H' : Hp} (k : Off M H H') (m : ∀ a o, H a = some o → ¬ M a → ¬ M' a) : ∀ {v : V} {d : PyData}, Dv M K H v d → Dv M' K H' v d
  | _, _, .non => .non
  | _, _, .bl b => .bl b
  | _, _, .int i => .int i
  | _, _, .str x => .str x
  | _, _, .lst h n s r => .lst (k _ _ n h) (m _ _ h n) s (DvAll.keep k m r)
  | _, _, .tup h n r => .tup (k.rd n h) (let ⟨_, e⟩ := rd_some h; m _ _ e n) (DvAll.keep k m r)
  | _, _, .tupK h r => .tupK h (DvAll.keep k m r)
  | _, _, .dct h n e l r => .dct (k _ _ n h) (m _ _ h n) e l (DvAll.keep k m r)
theorem DvAll.keep {M M' : Addr → Prop} {K : PySem.W.Frag} {H H' : Hp} (k : Off M H H') (m : ∀ a o, H a = some o → ¬ M a → ¬ M' a) : ∀ {vs : List V} {ds : List PyData}, DvAll M K H vs ds → DvAll M' K H' vs ds
  | _, _, .nil => .nil
  | _, _, .cons h t => .cons (Dv.keep k m h) (DvAll.keep k m t)
end
section
variable {M : Addr → Prop} {K : PySem.W.Frag} {H H' : Hp}
theorem Dv.off {v : V} {d : PyData} (h : Dv M K H v d) (k : Off M H H') : Dv M K H' v d := h.keep k fun _ _ _ n => n
theorem DvAll.off {vs : List V} {ds : List PyData} (h : DvAll M K H vs ds) (k : Off M H H') : DvAll M K H' vs ds := h.keep k fun _ _ _ n => n
theorem DvAll.len : ∀ {vs : List V} {ds : List PyData}, DvAll M K H vs ds → vs.length = ds.length
  | _, _, .nil => rfl
  | _, _, .cons _ t => by rw [List.length_cons, List.length_cons, DvAll.len t]
theorem DvAll.take : ∀ {vs : List V} {ds : List PyData} (n : Nat), DvAll M K H vs ds → DvAll M K H (vs.take n) (ds.take n)
  | _, _, 0, _ => .nil
  | _, _, _ + 1, .nil => .nil
  | _, _, n + 1, .cons h t => .cons h (DvAll.take n t)
theorem DvAll.drop : ∀ {vs : List V} {ds : List PyData} (n : Nat), DvAll M K H vs ds → DvAll M K H (vs.drop n) (ds.drop n)
  | _, _, 0, h => h
  | _, _, _ + 1, .nil => .nil
  | _, _, n + 1, .cons _ t => DvAll.drop n t
theorem DvAll.app : ∀ {vs us : List V} {ds es : List PyData}, DvAll M K H vs ds → DvAll M K H us es → DvAll M K H (vs ++ us) (ds ++ es)
  | _, _, _, _, .nil, h => h
  | _, _, _, _, .cons h t, h2 => .cons h (DvAll.app t h2)
theorem DvAll.rev : ∀ {vs : List V} {ds : List PyData}, DvAll M K H vs ds → DvAll M K H vs.reverse ds.reverse
  | _, _, .nil => .nil
  | _, _, .cons h t => by
    rw [List.reverse_cons, List.reverse_cons]
    exact DvAll.app (DvAll.rev t) (.cons h .nil)
theorem DvAll.at : ∀ {vs : List V} {ds : List PyData} {i : Nat} {v : V}, DvAll M K H vs ds → vs[i]? = some v → ∃ d, ds[i]? = some d ∧ Dv M K H v d
  | _, _, _, _, .nil, h => by simp at h
  | _, _, 0, _, .cons h _, e => by
    obtain rfl := Option.some.inj e
    exact ⟨_, rfl, h⟩
  | _, _, i + 1, _, .cons _ t, e => DvAll.at (i := i) t (by simpa using e)
end
/-- the keys and the values of a dict's entries, as they are read -/
theorem pairs_reads {P : Program} {w : World} {h : Heap} : ∀ {es : List DictEntry} {ks : List Str} {xs : List V} {vs : List (Key × Value)} {us : List Value}, ks.length = xs.length → KV ((ks.map Sum.inr).zip xs) vs → Pairs (mixKind P w) es vs →
    (∃ us, Vals xs us ∧ es.map (·.val) = us) ∧ ReadsAll h (es.map (·.key)) (ks.map PyData.str) []
  | es, [], [], vs, us, _, r, p => by
    cases r
    cases p
    exact ⟨⟨[], .nil, rfl⟩, .nil⟩
  | es, k :: ks, x :: xs, vs, us, l, r, p => by
    cases r with
    | cons r1 r2 =>
      cases p with
      | cons p1 p2 p3 =>
        obtain ⟨⟨us', v', e'⟩, rd⟩ := pairs_reads (us := []) (by simpa using l) r2 p3
        obtain ⟨r1a, r1b⟩ := r1
        refine ⟨⟨_ :: us', .cons r1b v', by rw [List.map_cons, e', p2]⟩, ?_⟩
        rw [← r1a] at p1
        have p1' : Value.isStrOf k _ = true := p1
        obtain ⟨t, et⟩ := Value.isStrOf_shape p1'
        rw [List.map_cons, List.map_cons, et]
        exact ReadsAll.cons (as := []) (bs := []) (Reads.str k t) rd
  | _, [], _ :: _, _, _, l, _, _ => by simp at l
  | _, _ :: _, [], _, _, l, _, _ => by simp at l
section
variable {X : Cx} {M : Addr → Prop} {pins : List (Addr × Obj)} {σ : L2.St} {H : Hp} {s : Shared}
mutual
theorem Dv.reads (I : Inv X pins σ H s) : ∀ {v : V} {d : PyData} {u : Value}, Dv M X.K H v d → RelV v u → ∃ as, Reads s.heap u d as ∧ sysModules ∉ as
  | _, _, u, .non, r => by cases r; exact ⟨[], .none, fun z => nomatch z⟩
  | _, _, u, .bl b, r => by cases r; exact ⟨[], .bool b, fun z => nomatch z⟩
  | _, _, u, .int i, r => by obtain ⟨t, rfl⟩ := r; exact ⟨[], .int i t, fun z => nomatch z⟩
  | _, _, u, .str x, r => by obtain ⟨t, rfl⟩ := r; exact ⟨[], .str x t, fun z => nomatch z⟩
  | _, _, u, .lst (a := a) h n sm ra, r => by
    cases r
    obtain ⟨hz, its, k, rv, ho⟩ := I.hok _ _ h
    obtain ⟨as, rd, na⟩ := DvAll.reads I ra rv
    refine ⟨a :: as, .list ho rfl rfl (by simpa using rd), fun z => ?_⟩
    rcases List.mem_cons.mp z with z | z
    · rw [z] at sm
      exact absurd sm (by simp)
    · exact na z
  | _, _, u, .tup h n ra, r => by
    cases r
    obtain ⟨its, rv, ⟨o, ho, hc, k, hd⟩, _⟩ := I.tuple (.inl h)
    obtain ⟨as, rd, na⟩ := DvAll.reads I ra rv
    exact ⟨as, .tuple ho hc hd (by simpa using rd), na⟩
  | _, _, u, .tupK h ra, r => by
    cases r
    obtain ⟨its, rv, ⟨o, ho, hc, k, hd⟩, _⟩ := I.tuple (.inr h)
    obtain ⟨as, rd, na⟩ := DvAll.reads I ra rv
    exact ⟨as, .tuple ho hc hd (by simpa using rd), na⟩
  | _, _, u, .dct (a := a) (ks := ks) (xs := xs) h n e l ra, r => by
    cases r
    obtain ⟨hz, sm, vs, kv, o, es, ep, ho, ex, hd, _, ps, _⟩ := I.hok _ _ h
    rw [e] at kv
    have hl := DvAll.len ra
    obtain ⟨⟨us, vu, eu⟩, rk⟩ := pairs_reads (P := X.prog) (w := X.w) (h := s.heap) (us := []) (l.trans hl.symm) kv ps
    obtain ⟨as, rd, na⟩ := DvAll.reads I ra vu
    rw [← eu] at rd
    refine ⟨a :: [] ++ as, .dict ho ex.1 hd ?_ ?_, fun z => ?_⟩
    · rw [List.map_fst_zip (by rw [List.length_map]; omega)]
      exact rk
    · rw [List.map_snd_zip (by rw [List.length_map]; omega)]
      exact rd
    · rcases List.mem_cons.mp z with z | z
      · rw [z] at sm
        exact absurd sm (by simp)
      · exact na z
theorem DvAll.reads (I : Inv X pins σ H s) : ∀ {vs : List V} {ds : List PyData} {us : List Value}, DvAll M X.K H vs ds → Vals vs us → ∃ as, ReadsAll s.heap us ds as ∧ sysModules ∉ as
  | _, _, _, .nil, r => by cases r; exact ⟨[], .nil, fun z => nomatch z⟩
  | _, _, _, .cons h t, r => by
    cases r with
    | cons r1 r2 =>
      obtain ⟨as, q1, n1⟩ := Dv.reads I h r1
      obtain ⟨bs, q2, n2⟩ := DvAll.reads I t r2
      exact ⟨as ++ bs, .cons q1 q2, fun z => (List.mem_append.mp z).elim n1 n2⟩
end
end
end Gk
namespace Gk
open PySem PySem.Spec PyProof.Rows L2
mutual
def fin : PyData → Nat → Bool
  | .none, _ | .bool _, _ => true
  | .int i, B => decide (i.natAbs ≤ B)
  | .str x, _ => x.cps.all (· < 0x110000)
  | .list xs, B | .tuple xs, B => finAll xs B
  | .dict kvs, B => finKv kvs B
def finAll : List PyData → Nat → Bool
  | [], _ => true
  | x :: xs, B => fin x B && finAll xs B
def finKv : List (PyData × PyData) → Nat → Bool
  | [], _ => true
  | (k, v) :: r, B => fin k B && fin v B && finKv r B
end
mutual
def big : PyData → Nat
  | .none | .bool _ | .int _ => 70
  | .str x => x.cps.size + 1
  | .list xs | .tuple xs => bigAll xs
  | .dict kvs => bigKv kvs
def bigAll : List PyData → Nat
  | [] => 1
  | x :: xs => big x + 1 + bigAll xs
def bigKv : List (PyData × PyData) → Nat
  | [] => 1
  | (k, v) :: r => big k + big v + 2 + bigKv r
end
mutual
theorem fin_facts {B : Nat} (hB : B < 10 ^ 20) : ∀ d : PyData, fin d B = true → d.showable = true ∧ d.leavesShort 21 = true ∧ d.weight ≤ big d
  | .none, _ => ⟨rfl, rfl, Nat.zero_le _⟩
  | .bool _, _ => ⟨rfl, rfl, Nat.zero_le _⟩
  | .int i, h => by
    simp only [fin, decide_eq_true_eq] at h
    have h1 := int_log20 (c := i) (by omega)
    have h2 := int_len20 (c := i) (by omega)
    refine ⟨?_, ?_, ?_⟩
    · simp only [PyData.showable]
      exact decide_eq_true (by omega)
    · simp only [PyData.leavesShort]
      exact decide_eq_true h2
    · simp only [PyData.weight, big]
      split <;> omega
  | .str x, h => by
    have h1 : tame (.str x) = true := by simpa only [fin, tame] using h
    exact ⟨rfl, tame_short _ h1, by simp only [PyData.weight, big]; omega⟩
  | .list xs, h => by
    have := fin_factsAll hB xs (by simpa only [fin] using h)
    simpa only [PyData.showable, PyData.leavesShort, PyData.weight, big] using this
  | .tuple xs, h => by
    have := fin_factsAll hB xs (by simpa only [fin] using h)
    simpa only [PyData.showable, PyData.leavesShort, PyData.weight, big] using this
  | .dict kvs, h => by
    have := fin_factsKv hB kvs (by simpa only [fin] using h)
    simpa only [PyData.showable, PyData.leavesShort, PyData.weight, big] using this
theorem fin_factsAll {B : Nat} (hB : B < 10 ^ 20) : ∀ ds : List PyData, finAll ds B = true → PyData.showableAll ds = true ∧ PyData.leavesShortAll 21 ds = true ∧ PyData.weightAll ds ≤ bigAll ds
  | [], _ => ⟨rfl, rfl, Nat.zero_le _⟩
  | x :: xs, h => by
    simp only [finAll, Bool.and_eq_true] at h
    obtain ⟨a1, a2, a3⟩ := fin_facts hB x h.1
    obtain ⟨b1, b2, b3⟩ := fin_factsAll hB xs h.2
    refine ⟨by simp only [PyData.showableAll, a1, b1, Bool.and_self], by simp only [PyData.leavesShortAll, a2, b2, Bool.and_self], ?_⟩
    simp only [PyData.weightAll, bigAll]
    omega
theorem fin_factsKv {B : Nat} (hB : B < 10 ^ 20) : ∀ kvs : List (PyData × PyData), finKv kvs B = true → PyData.showableKv kvs = true ∧ PyData.leavesShortKv 21 kvs = true ∧ PyData.weightKv kvs ≤ bigKv kvs
  | [], _ => ⟨rfl, rfl, Nat.zero_le _⟩
  | (k, v) :: r, h => by
    simp only [finKv, Bool.and_eq_true] at h
    obtain ⟨a1, a2, a3⟩ := fin_facts hB k h.1.1
    obtain ⟨c1, c2, c3⟩ := fin_facts hB v h.1.2
    obtain ⟨b1, b2, b3⟩ := fin_factsKv hB r h.2
    refine ⟨by simp only [PyData.showableKv, a1, b1, c1, Bool.and_self], by simp only [PyData.leavesShortKv, a2, b2, c2, Bool.and_self], ?_⟩
    simp only [PyData.weightKv, bigKv]
    omega
end
/-- data that may be shown, of any kind -/
structure Show (d : PyData) : Prop where
  a : d.showable = true
  c : d.depth ≤ 40
  e : d.shown.length ≤ sizeLine
theorem Show.of {d : PyData} {B : Nat} (hB : B < 10 ^ 20) (h : fin d B = true) (hd : d.depth ≤ 40) (hc : big d ≤ 500000) : Show d := by
  obtain ⟨a1, a2, a3⟩ := fin_facts hB d h
  refine ⟨a1, hd, ?_⟩
  have h1 := PyData.shown_le 21 (by decide) d a2
  have h3 : sizeLine = 16777216 := sizeLine_eq
  omega
theorem call_reprV {X : Cx} {k : Nat} (M : Addr → Prop) (hr : Room k X.A) (hg : X.A.guards = some []) : CallR X (.builtin "repr") (fun xs H Q => ∃ v d, xs = [v] ∧ Dv M X.K H v d ∧ Show d ∧ Q (.str d.shown) H) := by
  intro pins s σ H xs us Q I r h
  obtain ⟨v, d, rfl, hd, sh, q⟩ := h
  obtain ⟨u, rfl, ru⟩ := vals1 r
  have hun := hr.units
  have hc := sh.c
  obtain ⟨as, rd, na⟩ := Dv.reads I hd ru
  cases hd with
  | non =>
    cases ru
    exact PySem.P.repr_of_none ⟨.str _, H, I.tok _, ⟨_, rfl⟩, q⟩
  | bl b =>
    cases ru
    exact PySem.P.repr_of_bool ⟨.str _, H, I.tok _, ⟨_, rfl⟩, q⟩
  | int i =>
    obtain ⟨t, rfl⟩ := ru
    exact PySem.P.repr_of_int (of_decide_eq_true sh.a) ⟨.str _, H, I.tok _, ⟨_, rfl⟩, q⟩
  | str x =>
    obtain ⟨t, rfl⟩ := ru
    exact PySem.P.repr_of_str ⟨.str _, H, I.tok _, ⟨_, rfl⟩, q⟩ sh.e
  | lst _ _ _ _ =>
    cases ru
    exact repr_of_reads' rd sh.a (fun _ => na) hg (by omega) (fun _ _ e => e) (fun h' t tk hk => ⟨.str _, H, I.kept (t' := tk) hk, ⟨_, rfl⟩, q⟩) sh.e
  | tupK _ _ =>
    cases ru
    exact repr_of_reads' rd sh.a (fun _ => na) hg (by omega) (fun _ _ e => e) (fun h' t tk hk => ⟨.str _, H, I.kept (t' := tk) hk, ⟨_, rfl⟩, q⟩) sh.e
  | tup _ _ _ =>
    cases ru
    exact repr_of_reads' rd sh.a (fun _ => na) hg (by omega) (fun _ _ e => e) (fun h' t tk hk => ⟨.str _, H, I.kept (t' := tk) hk, ⟨_, rfl⟩, q⟩) sh.e
  | dct _ _ _ _ _ =>
    cases ru
    exact repr_of_reads' rd sh.a (fun _ => na) hg (by omega) (fun _ _ e => e) (fun h' t tk hk => ⟨.str _, H, I.kept (t' := tk) hk, ⟨_, rfl⟩, q⟩) sh.e
/-- a list of written items, its place told apart from the table of modules -/
def tLstN (t : TA) : TE := fun σ H Q => t σ H fun xs H1 => xs.length ≤ sizeLine ∧ ∀ p, H1 p = none → (p == sysModules) = false → Q (.ref p) (upd H1 p (.lst xs))
theorem not_modules {X : Cx} {pins : List (Addr × Obj)} {σ : L2.St} {H : Hp} {s : Shared} (I : Inv X pins σ H s) : (s.heap.objs.size == sysModules) = false := beq_eq_false_iff_ne.mpr (Nat.ne_of_gt I.big)
theorem pe_lstN {X : Cx} {es : List Expr} {t : TA} {pos : Pos} (h : PA X es t) : PE X (.List es pos) (tLstN t) :=
  ⟨fun pins s σ H Q I hq => wpAny_List_spliced (thn (h.run pos pins s σ H _ I hq) fun us s1 ⟨xs, H1, I1, r, z, q⟩ => ⟨by rw [← r.length]; exact z, .ref s1.heap.objs.size, upd H1 s1.heap.objs.size (.lst xs),
    I1.laid (t' := s1.toks) (fun b u e => Heap.get?_push_of_some _ e) (Nat.le_refl _) ⟨z, us, 0, r, Heap.get?_push_size _ rfl⟩, rfl, q _ (I1.hok.fresh (Nat.le_refl _)) (not_modules I1)⟩)⟩
/-- what isinstance says of such a value -/
def tyD : PyData → Value
  | .none => .type "NoneType"
  | .bool _ => .type "bool"
  | .int _ => .type "int"
  | .str _ => .type "str"
  | .list _ => .type "list"
  | .tuple _ => .type "tuple"
  | .dict _ => .type "dict"
theorem Dv.ty {M : Addr → Prop} {K : PySem.W.Frag} {H : Hp} {v : V} {d : PyData} (h : Dv M K H v d) : TyX K H v (tyD d) := by
  cases h with
  | non => exact .base .non
  | bl b => exact .base (.bl b)
  | int i => exact .base (.int i)
  | str x => exact .base (.str x)
  | lst h _ _ _ => exact .base (.lst h)
  | tup h _ _ =>
    rcases h with h | ⟨o, h⟩
    · exact .base (.tup h)
    · exact .fTuple h
  | tupK h _ =>
    obtain ⟨o, _, _, e, c, _⟩ := h
    exact .kTuple e c
  | dct h _ _ _ _ => exact .base (.dK h)
def isTup : PyData → Bool
  | .tuple _ => true
  | _ => false
def isIn : PyData → Bool
  | .int _ | .bool _ => true
  | _ => false
def isBo : PyData → Bool
  | .bool _ => true
  | _ => false
theorem kit_tup {K : PySem.W.Frag} (d : PyData) : PySem.W.kitOne K (tyD d) (.type "tuple") = some (isTup d) := by
  have t : ∀ x ∈ ["NoneType", "bool", "int", "str", "list", "dict"], kitB x "tuple" = some false := by decide +kernel
  cases d with
  | none => exact L2.kit_ty (t "NoneType" (by decide))
  | bool _ => exact L2.kit_ty (t "bool" (by decide))
  | int _ => exact L2.kit_ty (t "int" (by decide))
  | str _ => exact L2.kit_ty (t "str" (by decide))
  | list _ => exact L2.kit_ty (t "list" (by decide))
  | dict _ => exact L2.kit_ty (t "dict" (by decide))
  | tuple _ => exact L2.kit_ty (show kitB "tuple" "tuple" = some true by decide +kernel)
theorem kit_int {K : PySem.W.Frag} (d : PyData) : PySem.W.kitOne K (tyD d) (.type "int") = some (isIn d) := by
  have t : ∀ x ∈ ["NoneType", "str", "list", "tuple", "dict"], kitB x "int" = some false := by decide +kernel
  have u : ∀ x ∈ ["bool", "int"], kitB x "int" = some true := by decide +kernel
  cases d with
  | none => exact L2.kit_ty (t "NoneType" (by decide))
  | bool _ => exact L2.kit_ty (u "bool" (by decide))
  | int _ => exact L2.kit_ty (u "int" (by decide))
  | str _ => exact L2.kit_ty (t "str" (by decide))
  | list _ => exact L2.kit_ty (t "list" (by decide))
  | dict _ => exact L2.kit_ty (t "dict" (by decide))
  | tuple _ => exact L2.kit_ty (t "tuple" (by decide))
theorem kit_bool {K : PySem.W.Frag} (d : PyData) : PySem.W.kitOne K (tyD d) (.type "bool") = some (isBo d) := by
  have t : ∀ x ∈ ["NoneType", "int", "str", "list", "tuple", "dict"], kitB x "bool" = some false := by decide +kernel
  cases d with
  | none => exact L2.kit_ty (t "NoneType" (by decide))
  | int _ => exact L2.kit_ty (t "int" (by decide))
  | str _ => exact L2.kit_ty (t "str" (by decide))
  | list _ => exact L2.kit_ty (t "list" (by decide))
  | dict _ => exact L2.kit_ty (t "dict" (by decide))
  | tuple _ => exact L2.kit_ty (t "tuple" (by decide))
  | bool _ => exact L2.kit_ty (show kitB "bool" "bool" = some true by decide +kernel)
end Gk
namespace Gk
open PySem PySem.Spec PyProof.Rows L2
/-! ### expressions that make data -/
theorem same_new2 {H : Hp} {p : Addr} {o o' : HO} (h : H p = none) : Same H (upd (upd H p o) p o') := fun a u e => by
  rw [upd_ne (ne_of_none e h), upd_ne (ne_of_none e h)]; exact e
/-- what M speaks of stands on the heap -/
def Stands (M : Addr → Prop) (H : Hp) : Prop := ∀ a, M a → ∃ o, H a = some o
theorem Stands.same {M : Addr → Prop} {H H' : Hp} (h : Stands M H) (s : Same H H') : Stands M H' := fun a m => by
  obtain ⟨o, e⟩ := h a m
  exact ⟨o, s _ _ e⟩
theorem Stands.new {M : Addr → Prop} {H : Hp} {p : Addr} (h : Stands M H) (n : H p = none) : ¬ M p := fun m => by
  obtain ⟨o, e⟩ := h p m
  rw [n] at e; cases e
def Mk (M : Addr → Prop) (K : PySem.W.Frag) (t : TE) (σ : L2.St) (H0 : Hp) (d : PyData) : Prop :=
  ∀ (H : Hp) (M' : Addr → Prop) (Q : VK), Same H0 H → (∀ a, M a → M' a) → (∀ a, M' a → M a ∨ H0 a = none) → Stands M' H → (∀ v H', Same H H' → Dv M' K H' v d → Q v H') → t σ H Q
def MkA (M : Addr → Prop) (K : PySem.W.Frag) (t : TA) (σ : L2.St) (H0 : Hp) (ds : List PyData) : Prop :=
  ∀ (H : Hp) (M' : Addr → Prop) (Q : List V → Hp → Prop), Same H0 H → (∀ a, M a → M' a) → (∀ a, M' a → M a ∨ H0 a = none) → Stands M' H → (∀ vs H', Same H H' → DvAll M' K H' vs ds → Q vs H') → t σ H Q
theorem none_of {H H' : Hp} {p : Addr} (s : Same H H') (n : H' p = none) : H p = none := by
  cases e : H p with
  | none => rfl
  | some o => rw [s _ _ e] at n; cases n
section
variable {M : Addr → Prop} {K : PySem.W.Frag} {σ : L2.St} {H0 : Hp}
theorem mk_c {v : V} {d : PyData} (h : ∀ M H, Dv M K H v d) : Mk M K (tC v) σ H0 d := fun H M' Q s u w z q => q _ _ (Same.refl _) (h M' H)
theorem mk_int {i : Int} : Mk M K (tC (.int i)) σ H0 (.int i) := mk_c fun _ _ => .int i
theorem mk_str {x : Str} : Mk M K (tC (.str x)) σ H0 (.str x) := mk_c fun _ _ => .str x
theorem mk_non : Mk M K (tC .non) σ H0 .none := mk_c fun _ _ => .non
theorem mk_bl {b : Bool} : Mk M K (tC (.bl b)) σ H0 (.bool b) := mk_c fun _ _ => .bl b
theorem mk_neg {i : Int} : Mk M K (tUn (rU fun i => .int (-i)) (tC (.int i))) σ H0 (.int (-i)) := fun H M' Q s u w z q => ⟨_, rfl, q _ _ (Same.refl _) (.int _)⟩
theorem mk_pow {i j : Int} (c : CPow i j) : Mk M K (tOp (rI CPow fun i j => .int (i ^ j.toNat)) (tC (.int i)) (tC (.int j))) σ H0 (.int (i ^ j.toNat)) :=
  fun H M' Q s u w z q => ⟨_, _, rfl, rfl, c, q _ _ (Same.refl _) (.int _)⟩
theorem mk_var {i : Nat} {v : V} {d : PyData} (e : σ[i]? = some (some v)) (h : Dv M K H0 v d) : Mk M K (tVar i) σ H0 d := fun H M' Q s u w z q =>
  ⟨v, e, q _ _ (Same.refl _) (h.keep (Off.same s) fun a o ea na ma => (w a ma).elim na fun en => by rw [ea] at en; cases en)⟩
theorem mkA_nil : MkA M K tNil σ H0 [] := fun H M' Q s u w z q => q _ _ (Same.refl _) .nil
theorem mkA_cons {t : TE} {r : TA} {d : PyData} {ds : List PyData} (h : Mk M K t σ H0 d) (hr : MkA M K r σ H0 ds) : MkA M K (tCons t r) σ H0 (d :: ds) := fun H M' Q s u w z q =>
  h H M' _ s u w z fun v H1 s1 e1 => hr H1 M' _ (s.trans s1) u w (z.same s1) fun vs H2 s2 e2 => q _ _ (s1.trans s2) (.cons (e1.off (Off.same s2)) e2)
theorem mk_tup {t : TA} {ds : List PyData} (h : MkA M K t σ H0 ds) (l : ds.length ≤ 1000) : Mk M K (tTup t) σ H0 (.tuple ds) := fun H M' Q s u w z q =>
  h H M' _ s u w z fun vs H1 s1 e1 => ⟨by rw [e1.len, sizeLine_eq]; omega, fun p n => q _ _ (s1.trans (same_new n)) (.tup (.inl upd_same) ((z.same s1).new n) (e1.off (Off.same (same_new n))))⟩
theorem mk_lst {t : TA} {ds : List PyData} (h : MkA M K t σ H0 ds) (l : ds.length ≤ 1000) : Mk M K (tLstN t) σ H0 (.list ds) := fun H M' Q s u w z q =>
  h H M' _ s u w z fun vs H1 s1 e1 => ⟨by rw [e1.len, sizeLine_eq]; omega, fun p n y => q _ _ (s1.trans (same_new n)) (.lst upd_same ((z.same s1).new n) y (e1.off (Off.same (same_new n))))⟩
theorem mk_dct {t : TE} {k : Str} {d : PyData} (h : Mk M K t σ H0 d) : Mk M K (tDisp [(tC (.str k), t)]) σ H0 (.dict [(.str k, d)]) := fun H M' Q s u w z q => by
  intro p n
  show t σ _ _
  refine h _ (fun a => M' a ∨ a = p) _ (s.trans (same_new n)) (fun a ma => .inl (u a ma)) (fun a ma => ma.elim (w a) fun e => .inr (by rw [e]; exact none_of s n)) (fun a ma => ?_) fun v H1 s1 e1 => ?_
  · rcases ma with ma | rfl
    · obtain ⟨o, e⟩ := z a ma
      exact ⟨o, same_new n _ _ e⟩
    · exact ⟨_, upd_same⟩
  · have hp : H1 p = some (.dK []) := s1 _ _ upd_same
    have sm : Same H (upd H1 p (.dK [(Sum.inr k, v)])) := fun a o e => by
      rw [upd_ne (ne_of_none e n)]
      exact s1 _ _ (same_new n _ _ e)
    refine ⟨hp, [(Sum.inr k, v)], rfl, by show 1 ≤ 15; decide, q _ _ sm ?_⟩
    exact Dv.dct (ks := [k]) (xs := [v]) (ds := [d]) upd_same (z.new n) rfl rfl (.cons (e1.keep (Off.mut (.inr rfl)) fun a o _ na ma => na (.inl ma)) .nil)
theorem mk_dct0 : Mk M K tDNewK σ H0 (.dict []) := fun H M' Q s u w z q => by
  intro p n
  exact q _ _ (same_new n) (.dct (ks := []) (xs := []) (ds := []) upd_same (z.new n) rfl rfl .nil)
/-- a list of made things -/
theorem mk_some {t : TA} {ds : List PyData} {Q : VK} (h : MkA M K t σ H0 ds) (z : Stands M H0) (l : ds.length ≤ 1000) (q : ∀ p xs H', Same H0 H' → H0 p = none → H' p = some (.lst xs) → DvAll M K H' xs ds → xs.length = ds.length → Q (.ref p) H') : tLst t σ H0 Q :=
  h H0 M _ (Same.refl _) (fun _ m => m) (fun _ m => .inl m) z fun vs H1 s1 e1 => ⟨by rw [e1.len, sizeLine_eq]; omega, fun p n => q p vs _ (s1.trans (same_new n)) (none_of s1 n) upd_same (e1.off (Off.same (same_new n))) e1.len⟩
end
end Gk
namespace Gk
open PySem PySem.Spec PyProof.Rows L2 HT
/-! ### a tuple from behind -/
section
variable {prog : Program} {w : World} {A : Around} {E : Value → Shared → Prop} {s : Shared}
theorem adjust_rev (n : Nat) : Builtin.Slice.sliceAdjust none none (-1) (n : Int) = ((n : Int) - 1, -1) := by
  have h1 : ((-1 : Int) < 0) := by decide
  unfold Builtin.Slice.sliceAdjust
  simp only [h1, if_true]
theorem places_rev (n : Nat) : Builtin.Slice.slicePlaces ((n : Int) - 1) (-1) (-1) = n := by
  unfold Builtin.Slice.slicePlaces
  have h1 : ¬ ((-1 : Int) > 0) := by decide
  have h2 : (-(-1) : Int) = 1 := by decide
  simp only [h1, if_false, h2, Int.ediv_one]
  split <;> omega
theorem applied_rev {sl : Addr} {vs : Value} {n : Nat} {Q : Int × Int × Nat → Shared → Prop} (hs : s.heap.IsSliceOf sl .none .none vs) (ps : IsPart vs (some (-1)))
    (h : Q ((n : Int) - 1, -1, n) s) : wpAny (model prog w) A (Builtin.Slice.sliceApplied (.ref sl) (pure (n : Int))) Q E s := by
  obtain ⟨os, hos, hcs, hds⟩ := id hs
  unfold Builtin.Slice.sliceApplied Builtin.Slice.sliceFields
  refine wpAny_bind (wpAny_bind (wpAny_field hos hds (x := .none) rfl (wpAny_bind (wpAny_field hos hds (x := .none) rfl (wpAny_bind (wpAny_field hos hds (x := vs) rfl (wpAny_pure ?_)))))))
  refine wpAny_bind (slicePart_ ps ?_)
  show wpAny _ _ (if ((-1 : Int) == 0) = true then _ else _) _ _ s
  rw [if_neg (by decide)]
  refine wpAny_bind (slicePart_none (wpAny_bind (slicePart_none (wpAny_bind (wpAny_pure ?_)))))
  show wpAny _ _ (match Builtin.Slice.sliceAdjust none none (-1) (n : Int) with | (lo, hi) => pure (lo, (-1 : Int), Builtin.Slice.slicePlaces lo hi (-1))) _ _ s
  rw [adjust_rev n]
  show wpAny _ _ (pure ((n : Int) - 1, (-1 : Int), Builtin.Slice.slicePlaces ((n : Int) - 1) (-1) (-1))) _ _ s
  rw [places_rev]
  exact wpAny_pure h
theorem fm_congr {α β : Type} {f g : α → Option β} : ∀ l : List α, (∀ m ∈ l, f m = g m) → l.filterMap f = l.filterMap g
  | [], _ => rfl
  | a :: l, h => by
    rw [List.filterMap_cons, List.filterMap_cons, h a List.mem_cons_self, fm_congr l fun m hm => h m (List.mem_cons_of_mem _ hm)]
theorem pick_rev (xs : Array Value) : ((List.range xs.size).filterMap fun (m : Nat) => xs[(((xs.size : Int) - 1) + (m : Int) * (-1)).toNat]?).toArray = xs.toList.reverse.toArray := by
  have e : ((List.range xs.size).filterMap fun (m : Nat) => xs[(((xs.size : Int) - 1) + (m : Int) * (-1)).toNat]?) = ((List.range xs.size).map fun k => xs.size - 1 - k).filterMap (xs[·]?) := by
    rw [List.filterMap_map]
    refine fm_congr _ fun m hm => ?_
    have hm := List.mem_range.mp hm
    show xs[(((xs.size : Int) - 1) + (m : Int) * (-1)).toNat]? = xs[xs.size - 1 - m]?
    have : (((xs.size : Int) - 1) + (m : Int) * (-1)).toNat = xs.size - 1 - m := by omega
    rw [this]
  rw [e, PySem.W.krv_range, List.filterMap_reverse, PySem.W.krv_all]
theorem getItem_tuple_rev {t sl : Addr} {items : Array Value} {vs : Value} {Q : Value → Shared → Prop} (ht : IsTup s.heap t items) (hs : s.heap.IsSliceOf sl .none .none vs) (ps : IsPart vs (some (-1)))
    (h : Q (.ref s.heap.objs.size) { s with heap := s.heap.push { cls := .type "tuple", data := .seq items.toList.reverse.toArray } })
    (hsz : items.size ≤ sizeLine) : wpAny (model prog w) A (getItem (.ref t) (.ref sl)) Q E s := by
  have htake : sizeOk (.seq items.toList.reverse.toArray) := by
    show items.toList.reverse.toArray.size ≤ sizeLine
    rw [List.size_toArray, List.length_reverse, Array.length_toList]
    exact hsz
  obtain ⟨os, hos, hcs, hds⟩ := id hs
  have hTs : s.TypeIs (.ref sl) "slice" := ⟨os, hos, hcs⟩
  unfold getItem
  try with_reducible refine wpAny_holding ?_
  first | refine wpAny_bind (wpAny_pure ?_) | skip
  refine wpAny_bind (wpAny_sequenceKey ht.typeIs (by decide) ?_)
  refine wpAny_bind (wpAny_callSpecial?_slot (name := Str.ofString "__getitem__") ht.typeIs PyProof.Rows.slot_tuple_getitem
    (wpAny_call_entry PyProof.Rows.slot_tuple_getitem ht.typeIs entry_tuple_getitem ?_ (args_tuple_getitem _ _)))
  show wpAny _ _ (Builtin.Tuple.tupleItemsOf (.ref t) >>= _) _ _ s
  refine wpAny_bind (tupleItemsOf_ ht ?_)
  refine wpAny_bind (wpAny_typeOf hTs ?_)
  rw [if_pos (by decide)]
  refine wpAny_bind (applied_rev hs ps ?_)
  have hno : ¬ (((((items.size : Int) - 1) : Int) == 0 && (-1 : Int) == 1 && items.size == items.size) = true) := by simp
  show wpAny _ _ (if ((((items.size : Int) - 1) : Int) == 0 && (-1 : Int) == 1 && items.size == items.size) = true then _ else _) _ _ s
  rw [if_neg hno, pick_rev]
  first
    | exact wpAny_bind (m := Builtin.Tuple.tupleExact _) (wpAny_newObj_type (wpAny_pure ⟨_, rfl, wpAny_pure h⟩) htake)
    | exact wpAny_bind (m := Builtin.Tuple.tupleExact _) (wpAny_newObj_type (wpAny_bind (wpAny_pure (wpAny_pure ⟨_, rfl, wpAny_pure h⟩))) htake)
    | exact wpAny_bind (wpAny_bind (m := Builtin.Tuple.tupleExact _) (wpAny_newObj_type (wpAny_pure (wpAny_pure ⟨_, rfl, wpAny_pure h⟩)) htake))
    | exact wpAny_bind (wpAny_bind (m := Builtin.Tuple.tupleExact _) (wpAny_newObj_type (wpAny_pure ⟨_, rfl, wpAny_pure h⟩) htake))
end
def tRevU (K : PySem.W.Frag) (te : TE) : TE := fun σ H Q => te σ H fun x H1 => ∃ a xs, x = .ref a ∧ SqT K H1 a xs ∧ ∀ p, H1 p = none → Q (.ref p) (upd H1 p (.tup xs.reverse))
theorem pe_revU {X : Cx} {e : Expr} {te : TE} {k : Nat} {p1 p2 p3 pos : Pos} (he : PE X e te) : PE X (.Subscript e (.Slice none none (some (.UnaryOp .USub (.Constant (.int 1) k p1) p2)) p3) pos) (tRevU X.K te) := by
  refine ⟨fun pins s σ H Q I h => ?_⟩
  refine Subscript_ (thn (he.run pins s σ H _ I h) fun v s1 ⟨x, H1, I1, r1, q1⟩ => ?_)
  obtain ⟨a, xs, ex, hx, q⟩ := q1
  subst ex
  cases r1
  have hst : PO X (some (.UnaryOp .USub (.Constant (.int 1) k p1) p2)) (tPart (tUn (rU fun i => .int (-i)) (tC (.int 1)))) := po_some (pe_un un_neg pe_int)
  refine wpAny_Slice (thn (po_none.run pins s1 σ H1 (fun o H2 => o = none ∧ H2 = H1) I1 ⟨rfl, rfl⟩) fun vl s2 ⟨l, H2, I2, pl, el, e2⟩ => ?_)
  subst el e2
  refine thn (po_none.run pins s2 σ H2 (fun o H3 => o = none ∧ H3 = H2) I2 ⟨rfl, rfl⟩) fun vu s3 ⟨u, H3, I3, pu, eu, e3⟩ => ?_
  subst eu e3
  refine thn (hst.run pins s3 σ H3 (fun o H4 => o = some (-1) ∧ H4 = H3) I3 ⟨1, rfl, -1, rfl, rfl, rfl⟩) fun vs s4 ⟨o, H4, I4, ps, eo, e4⟩ => ?_
  subst eo e4
  cases pl
  cases pu
  have I5 : Inv X pins σ H4 { s4 with heap := s4.heap.push { cls := .type "slice", data := .fields #[.none, .none, vs] } } := I4.kept (t' := s4.toks) fun b ob q => Heap.get?_push_of_some _ q
  obtain ⟨its, r, ht, hz⟩ := I5.tuple hx
  have hlen := r.length
  refine tail_any (ops := [.ref a, .ref s4.heap.objs.size]) ht.typeIs (PyProof.Rows.slot_tuple_getitem.lookup) ?_ (by with_unfolding_all rfl)
  refine getItem_tuple_rev ht (Heap.IsSliceOf.new _ .none .none vs) ps ?_ (by rw [List.size_toArray]; omega)
  refine ⟨.ref _, _, I5.laid (t' := s4.toks) (o := .tup xs.reverse) (fun b ob q => Heap.get?_push_of_some _ q) (Nat.le_refl _) ?_, rfl, q _ (I5.hok.fresh (Nat.le_refl _))⟩
  exact ⟨by rw [List.length_reverse]; exact hz, _, r.reverse, IsTup.new _ _⟩
/-! ### whether a tuple is not () -/
def rNe0 (K : PySem.W.Frag) : R2 := fun x y H Q => ∃ a b xs, x = .ref a ∧ y = .ref b ∧ SqT K H a xs ∧ SqT K H b [] ∧ Q (.bl (!decide (xs = []))) H
theorem op_ne0 {X : Cx} (hu : X.A.units < cLine) : OpR X (compareOp .NotEq) (rNe0 X.K) := by
  intro pins s σ H x y v u Q I rx ry h
  obtain ⟨a, b, xs, rfl, rfl, ha, hb, q⟩ := h
  cases rx
  cases ry
  obtain ⟨its, r1, p1, _⟩ := I.tuple ha
  obtain ⟨its2, r2, p2, _⟩ := I.tuple hb
  cases r2
  have t1 : s.heap.IsTuple a its.toArray := by
    obtain ⟨o, ho, hc, n, hd⟩ := p1
    exact ⟨o, ho, hc, n, hd⟩
  have t2 : s.heap.IsTuple b ([] : List Value).toArray := by
    obtain ⟨o, ho, hc, n, hd⟩ := p2
    exact ⟨o, ho, hc, n, hd⟩
  refine SeqAt.RcNeAt.tuples (e := fun _ => true) t1 t2 hu (fun j h1 h2 => absurd h2 (Nat.not_lt_zero _)) X.prog X.w X.xe (EP X pins σ Q) ⟨.bl _, H, I, ?_, q⟩
  have hl := r1.length
  show Value.bool _ = Value.bool _
  congr 1
  cases xs with
  | nil =>
    cases r1
    rfl
  | cons x xs =>
    cases r1
    simp
end Gk
namespace Gk
open PySem PySem.Spec PyProof.Rows L2
/-! ### math.lcm; small things for any law -/
def rLcm : List V → Hp → VK → Prop := fun vs H Q => ∃ a b : Int, vs = [.int a, .int b] ∧ a.natAbs < 2 ^ 64 ∧ b.natAbs < 2 ^ 64 ∧ Q (.int ((a.natAbs.lcm b.natAbs : Nat) : Int)) H
theorem cr_lcm {X : Cx} : CallR X (.builtin "math.lcm") rLcm := by
  intro pins s σ H vs us Q I r h
  obtain ⟨a, b, rfl, ha, hb, q⟩ := h
  obtain ⟨t, u, rfl⟩ := Vals.int2 r
  exact PySem.W.mc_lcm ha hb fun _ => ⟨.int _, H, I.tok _, ⟨_, rfl⟩, q⟩
theorem Same.seqLL {K : PySem.W.Frag} {H H' : Hp} {a : Addr} {xs : List V} (e : Same H H') (h : SqL K H a xs) : SqL K H' a xs := by
  rcases h with (h | ⟨o, h⟩) | h
  · exact .inl (.inl (e _ _ h))
  · exact .inl (.inr ⟨o, e _ _ h⟩)
  · exact .inr h
theorem tame2 {a b : Int} (ha : a.natAbs < 10 ^ 20) (hb : b.natAbs < 10 ^ 20) : Gk.tame (.tuple [.int a, .int b]) = true := by
  simp only [Gk.tame, tameAll, ha, hb, decide_true, Bool.and_self]
theorem depth2 {a b : Int} : (PyData.tuple [.int a, .int b]).depth ≤ 40 := by
  simp only [PyData.depth, PyData.depthAll]
  omega
theorem fine2 {a b : Int} (ha : a.natAbs < 10 ^ 20) (hb : b.natAbs < 10 ^ 20) : Fine (.tuple [.int a, .int b]) :=
  Fine.tame (tame2 ha hb) depth2 (by simp only [Gk.cost, costAll]; omega)
theorem dp2 {K : PySem.W.Frag} {H : Hp} {p : Addr} {a b : Int} (h : SqT K H p [.int a, .int b]) : Dp K H (.ref p) (.tuple [.int a, .int b]) := .tup h (.cons (.int a) (.cons (.int b) .nil))
theorem flatLen {α : Type} (n : Nat) (l : List α) : ((List.replicate n l).flatten).length = n * l.length := by
  induction n with
  | zero => simp
  | succ n ih => rw [List.replicate_succ, List.flatten_cons, List.length_append, ih, Nat.succ_mul, Nat.add_comm]
theorem pairs_sq {K : PySem.W.Frag} {H : Hp} {p : Addr} {l : List (Int × Int)} (h : PairsAt K H p l) : ∃ xs, SqT K H p xs ∧ xs.length = l.length ∧ DpAll K H xs (l.map pd) := by
  cases h with
  | tup h1 h2 => exact ⟨_, h1, lc_len h2, h2⟩
theorem keepSeqL {K : PySem.W.Frag} {H1 H' : Hp} {a b : Addr} {o : HO} {xs : List V} (hS : SqL K H1 a xs) (nb : H1 b = none) (e : But b (upd H1 b o) H') : SqL K H' a xs := by
  rcases hS with (h | ⟨u, h⟩) | h
  · exact .inl (.inl (e _ _ (ne_of_none h nb) (same_new nb _ _ h)))
  · exact .inl (.inr ⟨u, e _ _ (ne_of_none h nb) (same_new nb _ _ h)⟩)
  · exact .inr h
theorem butLocal {b D : Addr} {H H1 H2 : Hp} (nD : H D = none) (h : But b H H1) (g : ∀ a o, a ≠ b → a ≠ D → H1 a = some o → H2 a = some o) : But b H H2 := fun a o n e => g a o n (fun z => by rw [z, nD] at e; cases e) (h a o n e)
theorem pt_mid {X : Cx} {e : Expr} {t : TT} (h : PT X e t) : PT X e (tMidT t) :=
  ⟨fun pins s σ H Q I ⟨M, h1, h2⟩ => thn (h.run pins s σ H M I h1) fun b s1 ⟨H1, I1, q⟩ => ⟨H1, I1, h2 b H1 q⟩⟩
end Gk
namespace Gk
open PySem PySem.Spec PyProof.Rows L2 RZ
/-! ### texts of signs 0 and 1 -/
def sgn (b : Bool) : Nat := if b then 49 else 48
def txt (l : List Bool) : Str := ⟨(l.map sgn).toArray⟩
theorem txt_size (l : List Bool) : (txt l).cps.size = l.length := by
  show (l.map sgn).toArray.size = _
  rw [List.size_toArray, List.length_map]
theorem txt_at {l : List Bool} {i c : Nat} (h : (txt l).cps[i]? = some c) : ∃ b, l[i]? = some b ∧ c = sgn b := by
  have h' : (l.map sgn).toArray[i]? = some c := h
  rw [List.getElem?_toArray, List.getElem?_map] at h'
  cases e : l[i]? with
  | none => rw [e] at h'; cases h'
  | some b => rw [e] at h'; exact ⟨b, rfl, (Option.some.inj h').symm⟩
theorem txt_app (a b : List Bool) : txt a ++ txt b = txt (a ++ b) := by
  show (⟨(a.map sgn).toArray ++ (b.map sgn).toArray⟩ : Str) = ⟨((a ++ b).map sgn).toArray⟩
  rw [List.map_append]
  simp
theorem txt_length (l : List Bool) : (txt l).length = l.length := txt_size l
theorem fold_rep (l : List Nat) : ∀ (n : Nat) (acc : List Nat), (List.replicate n l.toArray).foldl (· ++ ·) acc.toArray = (acc ++ (List.replicate n l).flatten).toArray
  | 0, acc => by simp
  | n + 1, acc => by
    rw [List.replicate_succ, List.foldl_cons, show acc.toArray ++ l.toArray = (acc ++ l).toArray by simp, fold_rep l n, List.replicate_succ, List.flatten_cons, List.append_assoc]
theorem txt_mul (l : List Bool) (n : Nat) : Txt.mul (txt l) (n : Int) = txt (List.replicate n l).flatten := by
  unfold Txt.mul
  by_cases h0 : (n : Int) < 1
  · have : n = 0 := by omega
    subst this
    rw [if_pos h0]
    rfl
  · rw [if_neg h0]
    by_cases h1 : n = 1
    · subst h1
      rw [if_pos (by simp)]
      simp
    · by_cases h2 : l = []
      · subst h2
        rw [if_pos (by rw [txt_length]; simp)]
        have : (List.replicate n ([] : List Bool)).flatten = [] := by
          rw [List.flatten_eq_nil_iff]
          intro x hx
          exact (List.mem_replicate.mp hx).2
        rw [this]
      · have h3 : ¬ (((n : Int) == 1 || (txt l).length == 0) = true) := by
          rw [txt_length]
          simp only [Bool.or_eq_true, beq_iff_eq, not_or]
          exact ⟨by omega, fun z => h2 (List.length_eq_zero_iff.mp z)⟩
        rw [if_neg h3]
        have := fold_rep (l.map sgn) n []
        show (⟨(List.replicate (n : Int).toNat (l.map sgn).toArray).foldl (· ++ ·) #[]⟩ : Str) = _
        rw [Int.toNat_natCast]
        refine congrArg Str.mk (this.trans ?_)
        rw [List.nil_append]
        congr 1
        rw [List.map_flatten, List.map_replicate]
theorem mulOk_txt {l : List Bool} {n : Nat} (hl : l.length ≤ 100) (hn : n ≤ 1000) : MulOk (txt l) (n : Int) := by
  refine ⟨by simp; omega, fun h0 _ => ?_, fun _ _ => ?_⟩
  · rw [txt_length]
    have h1 : (0 : Int) < n := by omega
    have : (1000 : Int) ≤ (2 ^ 63 - 1) / n := by
      refine Int.le_ediv_of_mul_le h1 ?_
      omega
    omega
  · rw [txt_length]
    show decide (_ > sizeLine) = false
    refine decide_eq_false ?_
    rw [sizeLine_eq, Int.toNat_natCast]
    have := Nat.mul_le_mul hl hn
    omega
theorem txt_cut (l : List Bool) (a b : Nat) (h : a ≤ b) (hb : b ≤ l.length) : cutS (txt l) (some (a : Int)) (some (b : Int)) = txt ((l.drop a).take (b - a)) := by
  unfold cutS
  rw [HT.sIx_nat, HT.sIx_nat, txt_length, Nat.min_eq_left (show a ≤ l.length by omega), Nat.min_eq_left (show b ≤ l.length from hb)]
  show (⟨((((l.map sgn).toArray).toList.drop a).take (b - a)).toArray⟩ : Str) = ⟨(((l.drop a).take (b - a)).map sgn).toArray⟩
  rw [List.map_take, List.map_drop]
theorem glue_txt : ∀ (bs acc : List Bool), (bs.map fun b => txt [b]).foldl (fun (z : Array Nat) (p : Str) => z ++ (Str.empty).cps ++ p.cps) (txt acc).cps = (txt (acc ++ bs)).cps
  | [], acc => by simp
  | b :: bs, acc => by
    rw [List.map_cons, List.foldl_cons]
    have : (txt acc).cps ++ (Str.empty).cps ++ (txt [b]).cps = (txt (acc ++ [b])).cps := by
      have := congrArg Str.cps (txt_app acc [b])
      rw [← this]
      show (txt acc).cps ++ #[] ++ (txt [b]).cps = (txt acc).cps ++ (txt [b]).cps
      simp
    rw [this, glue_txt bs (acc ++ [b]), List.append_assoc]
    rfl
theorem join_txt (bs : List Bool) : Txt.join ("" : Str) (bs.map fun b => txt [b]) = txt bs := by
  show Builtin.Str.glued ("" : Str) (bs.map fun b => txt [b]) = _
  unfold Builtin.Str.glued
  cases bs with
  | nil => rfl
  | cons b bs =>
    have := glue_txt bs [b]
    exact congrArg Str.mk this
theorem str_bit (b : Bool) : (Str.ofString (toString (if b then (1 : Int) else 0))) = txt [b] := by cases b <;> decide +kernel
theorem int_at {os : List Int} {i : Nat} {x : V} (hx : (os.map V.int)[i]? = some x) : ∃ o, os[i]? = some o ∧ x = .int o := by
  rw [List.getElem?_map] at hx
  cases e : os[i]? with
  | none => rw [e] at hx; cases hx
  | some o =>
    rw [e] at hx
    exact ⟨o, rfl, (Option.some.inj hx).symm⟩
/-- outcomes as digits -/
def bo (os : List Int) : List Bool := os.map fun o => decide (o = 1)
theorem bo_len (os : List Int) : (bo os).length = os.length := List.length_map ..
/-- so many digits from a place on, round and round -/
def run (bs : List Bool) (a k : Nat) : List Bool := (List.range k).map fun j => bs.getD ((a + j) % bs.length) false
/-- the last digits of so many that passed, zeros ahead -/
def past (bs : List Bool) (p L : Nat) : List Bool := List.replicate (L - min p L) false ++ run bs (p - min p L) (min p L)
theorem run_len (bs : List Bool) (a k : Nat) : (run bs a k).length = k := by
  unfold run
  rw [List.length_map, List.length_range]
theorem past_len (bs : List Bool) (p L : Nat) : (past bs p L).length = L := by
  unfold past
  rw [List.length_append, List.length_replicate, run_len]
  omega
theorem rep_at {α : Type} (l : List α) (h : 0 < l.length) : ∀ (m i : Nat), i < m * l.length → ((List.replicate m l).flatten)[i]? = l[i % l.length]?
  | 0, i, hi => by simp at hi
  | m + 1, i, hi => by
    rw [List.replicate_succ, List.flatten_cons]
    by_cases g : i < l.length
    · rw [List.getElem?_append_left g, Nat.mod_eq_of_lt g]
    · rw [List.getElem?_append_right (by omega), rep_at l h m (i - l.length) (by rw [Nat.succ_mul] at hi; omega)]
      congr 1
      exact (Nat.mod_eq_sub_mod (by omega)).symm
theorem run_cut {bs : List Bool} (h : 0 < bs.length) (a k m : Nat) (hm : a % bs.length + k ≤ m * bs.length) : (((List.replicate m bs).flatten).drop (a % bs.length)).take k = run bs a k := by
  refine List.ext_getElem? fun i => ?_
  by_cases hi : i < k
  · rw [List.getElem?_take_of_lt hi, List.getElem?_drop, rep_at bs h m _ (by omega)]
    unfold run
    rw [List.getElem?_map, List.getElem?_range hi]
    have hlt : (a + i) % bs.length < bs.length := Nat.mod_lt _ h
    have e : (a % bs.length + i) % bs.length = (a + i) % bs.length := by rw [Nat.mod_add_mod]
    rw [e, List.getElem?_eq_getElem hlt]
    show _ = some (bs.getD ((a + i) % bs.length) false)
    rw [List.getD_eq_getElem?_getD, List.getElem?_eq_getElem hlt]
    rfl
  · rw [List.getElem?_eq_none (by rw [List.length_take]; omega), List.getElem?_eq_none (by rw [run_len]; omega)]
theorem rep_length (n : Nat) (l : List Bool) : ((List.replicate n l).flatten).length = n * l.length := by
  induction n with
  | zero => simp
  | succ n ih => rw [List.replicate_succ, List.flatten_cons, List.length_append, ih, Nat.succ_mul, Nat.add_comm]
theorem enough (n k a : Nat) (h : 0 < n) : a % n + k ≤ (k / n + 2) * n := by
  have h1 := Nat.div_add_mod k n
  have h2 := Nat.mod_lt k h
  have h3 := Nat.mod_lt a h
  rw [Nat.add_mul, Nat.mul_comm (k / n) n]
  omega
theorem sgn_inj {a b : Bool} (h : sgn a = sgn b) : a = b := by
  revert h
  cases a <;> cases b <;> decide
theorem sgns_inj : ∀ {a b : List Bool}, a.map sgn = b.map sgn → a = b
  | [], [], _ => rfl
  | x :: xs, y :: ys, h => by
    rw [List.map_cons, List.map_cons] at h
    injection h with h1 h2
    rw [sgn_inj h1, sgns_inj h2]
  | [], _ :: _, h => by simp at h
  | _ :: _, [], h => by simp at h
theorem txt_inj {a b : List Bool} (h : txt a = txt b) : a = b := by
  have h1 : (a.map sgn).toArray = (b.map sgn).toArray := congrArg Str.cps h
  exact sgns_inj (by simpa using h1)
theorem txt_tail (l : List Bool) : cutS (txt l) (some 1) none = txt (l.drop 1) := by
  unfold cutS
  rw [show (some (1 : Int)) = some ((1 : Nat) : Int) from rfl, HT.sIx_none, HT.sIx_nat, txt_length]
  show (⟨((((l.map sgn).toArray).toList.drop (min 1 l.length)).take (l.length - min 1 l.length)).toArray⟩ : Str) = ⟨((l.drop 1).map sgn).toArray⟩
  congr 2
  rw [List.map_drop]
  cases l with
  | nil => rfl
  | cons b r =>
    rw [show min 1 (b :: r).length = 1 by rw [List.length_cons]; omega]
    refine List.take_of_length_le ?_
    rw [List.length_drop]
    simp
theorem walk_zipT {K : PySem.W.Frag} {a b : Addr} {xs ys : List V} (hl : xs.length = ys.length) : Walk (ItzT K a b) xs.length (fun H => SqT K H a xs ∧ SqT K H b ys) (fun i H v H' => ∃ T x y, v = .ref T ∧ H T = none ∧ xs[i]? = some x ∧ ys[i]? = some y ∧ H' = upd H T (.tup [x, y])) :=
  ⟨fun i _ hi q => ⟨xs, ys, xs[i], ys[i]'(by omega), q.1, q.2, List.getElem?_eq_getElem hi, List.getElem?_eq_getElem (by omega)⟩, fun _ q => ⟨xs, ys, q.1, q.2, .inl (Nat.le_refl _)⟩, fun i H v H' _ q y => by
    obtain ⟨T, x, z, h1, h2, h3, h4, h5⟩ := y
    exact ⟨T, x, z, h1, h2, h4 xs q.1, h5 ys q.2, h3⟩⟩

theorem bit_txt (b : Bool) : (.str (Str.ofString (toString (((if b then 1 else 0 : Nat) : Int)))) : V) = .str (txt [b]) := by
  cases b <;> decide +kernel
theorem op_inK {X : Cx} (K : PySem.W.Frag) (h : X.K = K := by rfl) : OpR X (compareOp .In) (rIn K false) := by
  subst h
  exact op_in_seq
/-! ### whether a tuple is () -/
def rEq0 (K : PySem.W.Frag) : R2 := fun x y H Q => ∃ a b xs, x = .ref a ∧ y = .ref b ∧ SqT K H a xs ∧ SqT K H b [] ∧ Q (.bl (decide (xs = []))) H
theorem op_eq0 {X : Cx} (hu : X.A.units < cLine) : OpR X (compareOp .Eq) (rEq0 X.K) := by
  intro pins s σ H x y v u Q I rx ry h
  obtain ⟨a, b, xs, rfl, rfl, ha, hb, q⟩ := h
  cases rx
  cases ry
  obtain ⟨its, r1, ⟨o1, e1, c1, n1, d1⟩, _⟩ := I.tuple ha
  obtain ⟨its2, r2, ⟨o2, e2, c2, n2, d2⟩, _⟩ := I.tuple hb
  cases r2
  refine SeqAt.RcAt.tuples (e := fun _ => true) (items := its.toArray) (items2 := ([] : List Value).toArray) ⟨o1, e1, c1, n1, d1⟩ ⟨o2, e2, c2, n2, d2⟩ hu (fun j h1 h2 => absurd h2 (Nat.not_lt_zero _)) X.prog X.w X.xe (EP X pins σ Q) ⟨.bl _, H, I, ?_, q⟩
  show Value.bool _ = Value.bool _
  congr 1
  cases xs with
  | nil => cases r1; rfl
  | cons x xs => cases r1; simp
theorem txt_init (l : List Bool) : cutS (txt l) none (some (-1)) = txt l.dropLast := by
  unfold cutS
  have e : HT.sIx (txt l).length (txt l).length (some (-1)) = l.length - 1 := by
    rw [txt_length]
    unfold HT.sIx
    first
      | (simp only []; omega)
      | (simp; omega)
      | (split <;> omega)
  rw [HT.sIx_none, e]
  show (⟨((((l.map sgn).toArray).toList.drop 0).take (l.length - 1 - 0)).toArray⟩ : Str) = ⟨(l.dropLast.map sgn).toArray⟩
  rw [List.drop_zero, Nat.sub_zero, List.dropLast_eq_take, List.map_take]
end Gk
namespace Pf
open PySem PySem.Spec PyProof.Rows L2 Gk RZ
/-- the digits of a number, the highest one first -/
def bitsI (s n : Nat) : List Int := (List.range s).map fun i => ((n / 2 ^ (s - 1 - i) % 2 : Nat) : Int)
theorem bitsI_len (s n : Nat) : (bitsI s n).length = s := by
  unfold bitsI
  rw [List.length_map, List.length_range]
theorem bitsI_bits (s n : Nat) : Bits (bitsI s n) := fun o ho => by
  obtain ⟨i, _, rfl⟩ := List.mem_map.mp ho
  omega
end Pf
namespace Gk
open PySem PySem.Spec PyProof.Rows L2
/-! ### len(set(..)) of ints and texts, with what comes twice -/
def hasK (acc : List L2.Key) (k : L2.Key) : Bool := acc.any fun y => decide (y = k)
theorem hasK_iff {acc : List L2.Key} {k : L2.Key} : hasK acc k = true ↔ k ∈ acc := by
  unfold hasK
  rw [List.any_eq_true]
  constructor
  · rintro ⟨y, hy, e⟩
    rw [← of_decide_eq_true e]
    exact hy
  · intro h
    exact ⟨k, h, decide_eq_true rfl⟩
def distS (acc : List L2.Key) (k : L2.Key) : List L2.Key := if hasK acc k = true then acc else acc ++ [k]
/-- each key once, where it comes first -/
def dist (ks : List L2.Key) : List L2.Key := ks.foldl distS []
theorem dist_snoc (ks : List L2.Key) (k : L2.Key) : dist (ks ++ [k]) = distS (dist ks) k := by
  unfold dist
  rw [List.foldl_append]
  rfl
theorem dist_mem (ks : List L2.Key) : ∀ k, k ∈ dist ks ↔ k ∈ ks := by
  have : ∀ (l acc : List L2.Key) (k : L2.Key), k ∈ l.foldl distS acc ↔ k ∈ acc ∨ k ∈ l := by
    intro l
    induction l with
    | nil => intro acc k; simp
    | cons a t ih =>
      intro acc k
      rw [List.foldl_cons, ih]
      unfold distS
      split
      · rename_i h
        have h := hasK_iff.mp h
        simp only [List.mem_cons]
        constructor
        · rintro (h1 | h1)
          · exact .inl h1
          · exact .inr (.inr h1)
        · rintro (h1 | rfl | h1)
          · exact .inl h1
          · exact .inl h
          · exact .inr h1
      · simp only [List.mem_append, List.mem_cons, List.not_mem_nil, or_false, or_assoc]
  intro k
  unfold dist
  rw [this]
  simp
theorem dist_nodup (ks : List L2.Key) : (dist ks).Nodup := by
  have : ∀ (l acc : List L2.Key), acc.Nodup → (l.foldl distS acc).Nodup := by
    intro l
    induction l with
    | nil => intro acc h; exact h
    | cons a t ih =>
      intro acc h
      rw [List.foldl_cons]
      refine ih _ ?_
      unfold distS
      split
      · exact h
      · rename_i hn
        rw [List.nodup_append]
        exact ⟨h, List.pairwise_singleton _ _, fun x hx y hy e => hn (hasK_iff.mpr (by rw [List.mem_singleton] at hy; rw [← hy, ← e]; exact hx))⟩
  exact this ks [] List.nodup_nil
theorem dist_len_le (ks : List L2.Key) : (dist ks).length ≤ ks.length := by
  have : ∀ (l acc : List L2.Key), (l.foldl distS acc).length ≤ acc.length + l.length := by
    intro l
    induction l with
    | nil => intro acc; simp
    | cons a t ih =>
      intro acc
      rw [List.foldl_cons, List.length_cons]
      refine Nat.le_trans (ih _) ?_
      unfold distS
      split
      · omega
      · rw [List.length_append, List.length_singleton]
        omega
  have := this ks []
  simpa [dist] using this
section
variable {P : Program} {w : World} {A : Around} {E : Value → Shared → Prop} {s : Shared}
theorem key_row {ks : List L2.Key} {its : List Value} (r : Vals (ks.map kV) its) {i : Nat} {v : Value} (h : its.toArray[i]? = some v) : ∃ k, ks[i]? = some k ∧ RelV (kV k) v := by
  rw [List.getElem?_toArray] at h
  have hi : i < its.length := (List.getElem?_eq_some_iff.mp h).1
  have hl := r.length
  rw [List.length_map] at hl
  have hk : (ks.map kV)[i]? = some (kV (ks[i]'(by omega))) := by
    rw [List.getElem?_map, List.getElem?_eq_getElem (show i < ks.length by omega)]
    rfl
  obtain ⟨u, hu, ru⟩ := r.get hk
  rw [h] at hu
  obtain rfl := Option.some.inj hu
  exact ⟨_, List.getElem?_eq_getElem (by omega), ru⟩
theorem key_is {k : L2.Key} {v : Value} (r : RelV (kV k) v) : (mixKind P w).is k v = true := by
  cases k with
  | inl i =>
    obtain ⟨t, rfl⟩ := r
    exact keyIs_int i t
  | inr x =>
    obtain ⟨t, rfl⟩ := r
    exact keyIs_str x t
/-- the set that the first i keys make -/
def Stage (P : Program) (w : World) (ks : List L2.Key) (S i : Nat) (h : Heap) : Prop := h.SetOf (mixKind P w) S (fun k => hasK (dist (ks.take i)) k) (dist (ks.take i)).length
theorem fill_keys {I : Addr} {fp wr : List Addr} {G : Array GenState → Array GenState → Prop} {n : Nat} {Pv : Nat → Value → Prop} {St : Nat → Shared → Prop} {R : Result → Shared → Prop}
    (W : WalksS P w A.in1 I fp wr G n Pv St) (S : Addr) (hSf : S ∉ fp) (ks : List L2.Key) (hn : n = ks.length) (hb : ks.length + 1 < scanBound) (hval : ∀ i v, Pv i v → ∃ k, ks[i]? = some k ∧ RelV (kV k) v) :
    ∀ (m i : Nat) (s : Shared), n - i = m → i ≤ n → St i s → Stage P w ks S i s.heap →
      (∀ s', Moved (S :: wr) G s s' → Stage P w ks S n s'.heap → R (.ok (.ret .none)) s') →
      codeAny (model P w) A (.builtin "set.update.loop" ⟨[.ref S, .ref I], []⟩) R s := by
  have away : S ∉ wr := fun h => hSf (W.sub _ h)
  have more : ∀ b ∈ wr, b ∈ S :: wr := fun b hb => List.mem_cons_of_mem _ hb
  have stays : ∀ {i : Nat} {h h' : Heap}, Stage P w ks S i h → (∀ o, h.get? S = some o → h'.get? S = some o) → Stage P w ks S i h' := fun {i h h'} q k => by
    obtain ⟨o, es, ep, tb, ho, rest⟩ := q
    exact ⟨o, es, ep, tb, k o ho, rest⟩
  intro m
  induction m with
  | zero =>
    intro i s hk' hi hst hS hR
    have hin : i = n := by omega
    subst hin
    refine codeAny_builtin F.entry_set_update_loop ?_
    rw [Around.under_plainId F.plain_set_update_loop _]
    refine wpAny_bind (m := pyNext (.ref I)) (W.done s _ _ hst fun s' hm => ?_)
    exact wpAny_pure (hR s' (hm.mono more) (stays hS fun o e => hm.heap S o away e))
  | succ m ih =>
    intro i s hk' hi hst hS hR
    have hlt : i < n := by omega
    refine codeAny_builtin F.entry_set_update_loop ?_
    rw [Around.under_plainId F.plain_set_update_loop _]
    refine wpAny_bind (m := pyNext (.ref I)) (W.item i s _ _ hlt hst fun v s' hP hst' hm => ?_)
    obtain ⟨k, hk, rk⟩ := hval i v hP
    have hS' := stays hS (fun o e => hm.heap S o away e)
    refine wpAny_bind (m := holding [v] (setAdd S v)) (wpAny_holding ?_)
    unfold setAdd
    refine wpAny_holding ?_
    refine wpAny_bind ((mixKind P w).pyHash (k := k) (key_is rk) ?_)
    have few : (dist (ks.take i)).length + 1 < scanBound := by
      have h1 := dist_len_le (ks.take i)
      have h2 : (ks.take i).length ≤ ks.length := by rw [List.length_take]; exact Nat.min_le_right _ _
      omega
    refine wpAny_setAddHashed_of (knd := mixKind P w) (s := { s' with toks := s'.toks + 1 }) (key_is rk) (key_scan rk) hS' few fun h' hsb hS2 => ?_
    have hS3 : Stage P w ks S (i + 1) h' := by
      unfold Stage
      rw [List.take_add_one, hk]
      show h'.SetOf _ _ (fun k' => hasK (dist (ks.take i ++ [k])) k') (dist (ks.take i ++ [k])).length
      rw [dist_snoc]
      unfold distS
      by_cases hm2 : hasK (dist (ks.take i)) k = true
      · rw [if_pos hm2]
        rw [if_pos hm2] at hS2
        have e : (fun k' => hasK (dist (ks.take i)) k' || decide (k' = k)) = fun k' => hasK (dist (ks.take i)) k' := funext fun k' => by
          by_cases e : k' = k
          · rw [e, hm2]
            rfl
          · rw [decide_eq_false e, Bool.or_false]
        rw [e] at hS2
        exact hS2
      · rw [if_neg hm2]
        rw [if_neg hm2] at hS2
        have e : (fun k' => hasK (dist (ks.take i)) k' || decide (k' = k)) = fun k' => hasK (dist (ks.take i) ++ [k]) k' := funext fun k' => by
          unfold hasK
          rw [List.any_append]
          simp [eq_comm]
        rw [e] at hS2
        rw [List.length_append]
        exact hS2
    refine wpAny_pure ⟨plainId_quiet F.plain_set_update_loop _, ih (i + 1) _ (by omega) hlt (W.frame _ s' _ _ hst' (Nat.le_succ _) fun b hb o e => ?_) hS3 fun s'' hm'' hS'' => ?_⟩
    · rw [hsb.2 b (fun h : b = S => hSf (by rw [← h]; exact hb))]; exact e
    · refine hR s'' (Moved.trans W.gtrans ((hm.mono more).then_heap (Nat.le_succ _) fun b o hb e => ?_) hm'') hS''
      rw [hsb.2 b (fun h : b = S => hb (by rw [h]; exact List.mem_cons_self))]; exact e

set_option maxHeartbeats 6400000 in
theorem set_of_tuple {l : Addr} {its : List Value} {ks : List L2.Key} {Q : Value → Shared → Prop} (hh : A.handled = none) (hl : s.heap.IsTuple l its.toArray) (r : Vals (ks.map kV) its) (hb : ks.length + 1 < scanBound)
    (h : ∀ (h' : Heap) (tk : Nat), Stage P w ks s.heap.objs.size ks.length h' → (∀ b o, s.heap.get? b = some o → h'.get? b = some o) → Q (.ref s.heap.objs.size) { s with heap := h', toks := tk }) :
    wpAny (model P w) A (call (.type "set") [.ref l]) Q E s := by
  have many : its.toArray.size = ks.length := by rw [List.size_toArray, ← r.length, List.length_map]
  obtain ⟨c, tl, hmro⟩ := F.called_set.mro
  have made := F.called_set.made
  have subs := F.called_set.sub
  refine wpAny_call (codeAny_of_tree ?_)
  show wpAny _ _ (callAny (.type "set") _) _ _ _
  refine wpAny_pure ⟨Code.quiet_builtin _ (by decide +kernel), codeAny_builtin F.entry_type_call ?_⟩
  rw [Around.under_plain (weight_type_call_type "set" [.ref l] []) rfl]
  have f1 := F.called_set.notType
  have f2 := F.called_set.canCreate
  have f3 := F.typeCall_set_1 (.ref l)
  repeat (any_goals (first | assumption | wp_step))
  refine codeAny_mono (code_set_new_1 (.ref l) (E := E) (Q₁ := fun obj s₁ => ∃ led : Bool, obj = .ref s.heap.objs.size ∧ s₁ = { s with heap := s.heap.push { cls := .type "set", dict := none, data := .set #[] 0 (.fresh 0 0 led) } }) fun led => ⟨led, rfl, rfl⟩) fun res s₁ got => ?_
  cases res with
  | error e => exact got
  | ok fl =>
    cases fl with
    | ret obj =>
      obtain ⟨led, rfl, rfl⟩ := got
      have at0 : (s.heap.push { cls := .type "set", dict := none, data := .set #[] 0 (.fresh 0 0 led) }).get? s.heap.objs.size = some { cls := .type "set", dict := none, data := .set #[] 0 (.fresh 0 0 led) } := Heap.get?_push_size _ rfl
      have ty0 : Shared.TypeIs { s with heap := s.heap.push { cls := .type "set", dict := none, data := .set #[] 0 (.fresh 0 0 led) } } (.ref s.heap.objs.size) "set" := ⟨_, at0, rfl⟩
      have f4 := F.called_set.init.lookup
      have f5 := F.called_set.init.bind (.ref s.heap.objs.size)
      repeat (any_goals (first | assumption | wp_step))
      refine codeAny_mono (codeAny_call_builtin (R := wants (fun v s₂ => v = .none ∧ ∃ h' tk, s₂ = { s with heap := h', toks := tk } ∧ Stage P w ks s.heap.objs.size ks.length h' ∧ (∀ b o, s.heap.get? b = some o → h'.get? b = some o)) E)
        F.called_set.init.plain F.entry_set_init (check_set_init_1 ty0 ?_)) fun r₂ s₂ got₂ => ?_
      · obtain ⟨ol, hol, hcl, nl, hdl⟩ := hl
        obtain ⟨ocls, odict, odata, oslots⟩ := ol
        simp only at hcl hdl
        subst hcl; subst hdl
        have held : (s.heap.push { cls := .type "set", dict := none, data := .set #[] 0 (.fresh 0 0 led) }).get? l = some { cls := .type "tuple", dict := odict, data := .seq its.toArray nl, slots := oslots } := Heap.get?_push_of_some _ hol
        have g1 := F.sub_tuple_set
        have g2 := F.sub_tuple_frozenset
        have g3 : (Value.type "tuple" == Value.type "dict") = false := by decide
        have seen : (s.heap.push { cls := .type "set", dict := none, data := .set #[] 0 (.fresh 0 0 led) }).IsTuple l its.toArray := ⟨_, held, rfl, nl, rfl⟩
        unfold Builtin.«set.__init__» noKeywords Builtin.Frozenset.updateFrom
        generalize hPI : pyIter = PI
        wp_walk
        subst hPI
        refine wpAny_pyIter_tuple seen ?_
        refine wpAny_bind (wpAny_runValue ?_)
        have old : l < s.heap.objs.size := Heap.lt_size hol
        have none3 : A.in1.in1.in1.handled = none := by simp [hh]
        have ne1 : l ≠ (s.heap.push { cls := .type "set", dict := none, data := .set #[] 0 (.fresh 0 0 led) }).objs.size := by
          rw [Heap.size_push]; exact Nat.ne_of_lt (Nat.lt_succ_of_lt old)
        have off : s.heap.objs.size ∉ [(s.heap.push { cls := .type "set", dict := none, data := .set #[] 0 (.fresh 0 0 led) }).objs.size, l] := by
          rw [Heap.size_push]; simp only [List.mem_cons, List.mem_singleton, List.not_mem_nil, or_false, not_or]
          exact ⟨Nat.ne_of_lt (Nat.lt_succ_self _), Nat.ne_of_gt old⟩
        refine fill_keys ((Walks.tuple none3 _ l ne1 its.toArray).toS) s.heap.objs.size off ks many hb (fun i v hv => key_row r hv) (its.toArray.size - 0) 0 _ (by omega) (Nat.zero_le _)
          ⟨⟨_, Heap.get?_push_size _ rfl, rfl, rfl⟩, (seen.push _)⟩ ?hS0 ?hR
        case hS0 =>
          have hget : ((s.heap.push { cls := .type "set", dict := none, data := .set #[] 0 (.fresh 0 0 led) }).push { cls := .type "tuple_iterator", data := .fields #[.ref l, .int 0 0] }).get? s.heap.objs.size = some { cls := .type "set", dict := none, data := .set #[] 0 (.fresh 0 0 led) } := Heap.get?_push_of_some _ at0
          refine ⟨_, #[], 0, .fresh 0 0 led, hget, ⟨rfl, rfl, rfl⟩, rfl, fun e he => (by simp at he), fun k => ?_, by decide, rfl, rfl⟩
          show hasK (dist []) k = true ↔ _
          simp [dist, hasK]
        case hR =>
          intro s' hm hS'
          obtain ⟨h', g', d', tk', os'⟩ := s'
          have eg : g' = s.gens := hm.gens
          have ed : d' = s.drawn := hm.drawn
          have eo : os' = s.os := hm.os
          subst eg; subst ed; subst eo
          show wpAny _ _ _ _ _ _
          refine wpAny_pure ?_
          show wpAny _ _ (ret Value.none) _ _ _
          rw [many] at hS'
          refine wpAny_pure ⟨rfl, h', tk', rfl, hS', fun b o e => ?_⟩
          have hb0 : b < s.heap.objs.size := Heap.lt_size e
          have hb1 : b ≠ s.heap.objs.size := Nat.ne_of_lt hb0
          have hb2 : b ≠ (s.heap.push { cls := .type "set", dict := none, data := .set #[] 0 (.fresh 0 0 led) }).objs.size := by
            rw [Heap.size_push]; exact Nat.ne_of_lt (Nat.lt_succ_of_lt hb0)
          exact hm.heap b o (by simp only [List.mem_cons, List.mem_singleton, List.not_mem_nil, or_false, not_or]; exact ⟨hb1, hb2⟩) (Heap.get?_push_of_some _ (Heap.get?_push_of_some _ e))
      · cases r₂ with
        | error e => exact got₂
        | ok f₂ =>
          cases f₂ with
          | ret v =>
            obtain ⟨rfl, h', tk, rfl, hS', hk⟩ := got₂
            repeat (any_goals (first | assumption | wp_step))
            exact h h' tk hS' hk
          | _ => exact got₂
    | _ => exact got

set_option maxHeartbeats 6400000 in
theorem set_of_list {l : Addr} {its : List Value} {ks : List L2.Key} {Q : Value → Shared → Prop} (hh : A.handled = none) (hl : s.heap.IsList l its.toArray) (r : Vals (ks.map kV) its) (hb : ks.length + 1 < scanBound)
    (h : ∀ (h' : Heap) (tk : Nat), Stage P w ks s.heap.objs.size ks.length h' → (∀ b o, s.heap.get? b = some o → h'.get? b = some o) → Q (.ref s.heap.objs.size) { s with heap := h', toks := tk }) :
    wpAny (model P w) A (call (.type "set") [.ref l]) Q E s := by
  have many : its.toArray.size = ks.length := by rw [List.size_toArray, ← r.length, List.length_map]
  obtain ⟨c, tl, hmro⟩ := F.called_set.mro
  have made := F.called_set.made
  have subs := F.called_set.sub
  refine wpAny_call (codeAny_of_tree ?_)
  show wpAny _ _ (callAny (.type "set") _) _ _ _
  refine wpAny_pure ⟨Code.quiet_builtin _ (by decide +kernel), codeAny_builtin F.entry_type_call ?_⟩
  rw [Around.under_plain (weight_type_call_type "set" [.ref l] []) rfl]
  have f1 := F.called_set.notType
  have f2 := F.called_set.canCreate
  have f3 := F.typeCall_set_1 (.ref l)
  repeat (any_goals (first | assumption | wp_step))
  refine codeAny_mono (code_set_new_1 (.ref l) (E := E) (Q₁ := fun obj s₁ => ∃ led : Bool, obj = .ref s.heap.objs.size ∧ s₁ = { s with heap := s.heap.push { cls := .type "set", dict := none, data := .set #[] 0 (.fresh 0 0 led) } }) fun led => ⟨led, rfl, rfl⟩) fun res s₁ got => ?_
  cases res with
  | error e => exact got
  | ok fl =>
    cases fl with
    | ret obj =>
      obtain ⟨led, rfl, rfl⟩ := got
      have at0 : (s.heap.push { cls := .type "set", dict := none, data := .set #[] 0 (.fresh 0 0 led) }).get? s.heap.objs.size = some { cls := .type "set", dict := none, data := .set #[] 0 (.fresh 0 0 led) } := Heap.get?_push_size _ rfl
      have ty0 : Shared.TypeIs { s with heap := s.heap.push { cls := .type "set", dict := none, data := .set #[] 0 (.fresh 0 0 led) } } (.ref s.heap.objs.size) "set" := ⟨_, at0, rfl⟩
      have f4 := F.called_set.init.lookup
      have f5 := F.called_set.init.bind (.ref s.heap.objs.size)
      repeat (any_goals (first | assumption | wp_step))
      refine codeAny_mono (codeAny_call_builtin (R := wants (fun v s₂ => v = .none ∧ ∃ h' tk, s₂ = { s with heap := h', toks := tk } ∧ Stage P w ks s.heap.objs.size ks.length h' ∧ (∀ b o, s.heap.get? b = some o → h'.get? b = some o)) E)
        F.called_set.init.plain F.entry_set_init (check_set_init_1 ty0 ?_)) fun r₂ s₂ got₂ => ?_
      · obtain ⟨ol, hol, hcl, nl, hdl⟩ := hl
        obtain ⟨ocls, odict, odata, oslots⟩ := ol
        simp only at hcl hdl
        subst hcl; subst hdl
        have held : (s.heap.push { cls := .type "set", dict := none, data := .set #[] 0 (.fresh 0 0 led) }).get? l = some { cls := .type "list", dict := odict, data := .seq its.toArray nl, slots := oslots } := Heap.get?_push_of_some _ hol
        have g1 := F.sub_list_set
        have g2 := F.sub_list_frozenset
        have g3 : (Value.type "list" == Value.type "dict") = false := by decide
        have seen : (s.heap.push { cls := .type "set", dict := none, data := .set #[] 0 (.fresh 0 0 led) }).IsList l its.toArray := ⟨_, held, rfl, nl, rfl⟩
        unfold Builtin.«set.__init__» noKeywords Builtin.Frozenset.updateFrom
        generalize hPI : pyIter = PI
        wp_walk
        subst hPI
        refine wpAny_pyIter_list seen ?_
        refine wpAny_bind (wpAny_runValue ?_)
        have old : l < s.heap.objs.size := Heap.lt_size hol
        have none3 : A.in1.in1.in1.handled = none := by simp [hh]
        have ne1 : l ≠ (s.heap.push { cls := .type "set", dict := none, data := .set #[] 0 (.fresh 0 0 led) }).objs.size := by
          rw [Heap.size_push]; exact Nat.ne_of_lt (Nat.lt_succ_of_lt old)
        have off : s.heap.objs.size ∉ [(s.heap.push { cls := .type "set", dict := none, data := .set #[] 0 (.fresh 0 0 led) }).objs.size, l] := by
          rw [Heap.size_push]; simp only [List.mem_cons, List.mem_singleton, List.not_mem_nil, or_false, not_or]
          exact ⟨Nat.ne_of_lt (Nat.lt_succ_self _), Nat.ne_of_gt old⟩
        refine fill_keys ((Walks.list none3 _ l ne1 its.toArray).toS) s.heap.objs.size off ks many hb (fun i v hv => key_row r hv) (its.toArray.size - 0) 0 _ (by omega) (Nat.zero_le _)
          ⟨⟨_, Heap.get?_push_size _ rfl, rfl, rfl⟩, (seen.push _)⟩ ?hS0 ?hR
        case hS0 =>
          have hget : ((s.heap.push { cls := .type "set", dict := none, data := .set #[] 0 (.fresh 0 0 led) }).push { cls := .type "list_iterator", data := .fields #[.ref l, .int 0 0] }).get? s.heap.objs.size = some { cls := .type "set", dict := none, data := .set #[] 0 (.fresh 0 0 led) } := Heap.get?_push_of_some _ at0
          refine ⟨_, #[], 0, .fresh 0 0 led, hget, ⟨rfl, rfl, rfl⟩, rfl, fun e he => (by simp at he), fun k => ?_, by decide, rfl, rfl⟩
          show hasK (dist []) k = true ↔ _
          simp [dist, hasK]
        case hR =>
          intro s' hm hS'
          obtain ⟨h', g', d', tk', os'⟩ := s'
          have eg : g' = s.gens := hm.gens
          have ed : d' = s.drawn := hm.drawn
          have eo : os' = s.os := hm.os
          subst eg; subst ed; subst eo
          show wpAny _ _ _ _ _ _
          refine wpAny_pure ?_
          show wpAny _ _ (ret Value.none) _ _ _
          rw [many] at hS'
          refine wpAny_pure ⟨rfl, h', tk', rfl, hS', fun b o e => ?_⟩
          have hb0 : b < s.heap.objs.size := Heap.lt_size e
          have hb1 : b ≠ s.heap.objs.size := Nat.ne_of_lt hb0
          have hb2 : b ≠ (s.heap.push { cls := .type "set", dict := none, data := .set #[] 0 (.fresh 0 0 led) }).objs.size := by
            rw [Heap.size_push]; exact Nat.ne_of_lt (Nat.lt_succ_of_lt hb0)
          exact hm.heap b o (by simp only [List.mem_cons, List.mem_singleton, List.not_mem_nil, or_false, not_or]; exact ⟨hb1, hb2⟩) (Heap.get?_push_of_some _ (Heap.get?_push_of_some _ e))
      · cases r₂ with
        | error e => exact got₂
        | ok f₂ =>
          cases f₂ with
          | ret v =>
            obtain ⟨rfl, h', tk, rfl, hS', hk⟩ := got₂
            repeat (any_goals (first | assumption | wp_step))
            exact h h' tk hS' hk
          | _ => exact got₂
    | _ => exact got
end
def tLenSetK (K : PySem.W.Frag) (ta : TE) : TE := fun σ H Q => ta σ H fun x H1 => ∃ l, ∃ ks : List L2.Key, x = .ref l ∧ (SqL K H1 l (ks.map kV) ∨ SqT K H1 l (ks.map kV)) ∧ ks.length ≤ 4000 ∧ Q (.int (dist ks).length) H1
theorem pe_lenSetK {X : Cx} {a : Expr} {ta : TE} {p p2 q pos : Pos} (hc : X.calm = true) (hg : Gl X "len") (hm : X.mg "len" = none) (hg2 : Gl X "set") (hm2 : X.mg "set" = none) (ha : PE X a ta)
    (na : starEach [a] X.env = (false, eval a X.env) :: starEach [] X.env := by rfl) : PE X (.Call (.Name "len" p) [.Call (.Name "set" p2) [a] [] q] [] pos) (tLenSetK X.K ta) := by
  refine ⟨fun pins s σ H Q I h => ?_⟩
  refine Call_ (ld_blt I hg hm boot_len (PyProof.Rows.callWith_builtin1 (PyProof.Rows.args_cons (Call_ (ld_blt I hg2 hm2 boot_set (PyProof.Rows.callWith_type1 (PyProof.Rows.args_cons
    (thn (ha.run pins s σ H _ I h) fun v s1 ⟨x, H1, I1, r1, l, ks, ex, hq, hz, q1⟩ => PyProof.Rows.args_nil ?_) na) na rfl))) rfl) rfl rfl))
  subst ex
  cases r1
  have fin : ∀ (h' : Heap) (tk : Nat), Stage X.prog X.w ks s1.heap.objs.size ks.length h' → (∀ b o, s1.heap.get? b = some o → h'.get? b = some o) →
      wpAny (model X.prog X.w) X.A (spliced (backTo pos (starEach [] X.env))) (fun vs s₂ => wpAny (model X.prog X.w) X.A (call (.builtin "len") (Value.ref s1.heap.objs.size :: vs)) (EP X pins σ Q) X.xe s₂) X.xe { s1 with heap := h', toks := tk } := fun h' tk hS hk => by
    refine PyProof.Rows.args_nil ?_
    unfold Stage at hS
    rw [List.take_length] at hS
    obtain ⟨o, es, ep, t, ho, hex, hd, _, _, _, hf, hn⟩ := hS
    have I2 : Inv X pins σ H1 { s1 with heap := h', toks := tk } := I1.kept hk
    have few := dist_len_le ks
    exact call_len_set ho hex hd hf (by rw [hn]; omega) ⟨.int (dist ks).length, H1, I2.tok _, ⟨_, by rw [hn]⟩, q1⟩
  rcases hq with hq | hq
  · obtain ⟨its, r, pl, _⟩ := I1.list hq
    exact set_of_list (I1.ok.hd hc) pl.isList r (by unfold scanBound; omega) fin
  · obtain ⟨its, r, pl, _⟩ := I1.tuple hq
    exact set_of_tuple (I1.ok.hd hc) pl r (by unfold scanBound; omega) fin
end Gk
namespace Gk
open PySem PySem.Spec PyProof.Rows L2
/-! ### a list without what comes twice -/
theorem dist_same {ks : List L2.Key} : (dist ks).length = ks.length ↔ ks.Nodup := by
  have up : ∀ (l acc : List L2.Key), (l.foldl distS acc).length ≤ acc.length + l.length := by
    intro l
    induction l with
    | nil => intro acc; simp
    | cons a t ih =>
      intro acc
      rw [List.foldl_cons, List.length_cons]
      refine Nat.le_trans (ih _) ?_
      unfold distS
      split
      · omega
      · rw [List.length_append, List.length_singleton]
        omega
  have to : ∀ (l acc : List L2.Key), (l.foldl distS acc).length = acc.length + l.length → (∀ k ∈ l, k ∉ acc) ∧ l.Nodup := by
    intro l
    induction l with
    | nil => intro acc _; exact ⟨fun k h => (nomatch h), List.nodup_nil⟩
    | cons a t ih =>
      intro acc h
      rw [List.foldl_cons, List.length_cons] at h
      have h1 := up t (distS acc a)
      by_cases c : hasK acc a = true
      · have e : distS acc a = acc := by unfold distS; rw [if_pos c]
        rw [e] at h1 h
        omega
      · have e : distS acc a = acc ++ [a] := by unfold distS; rw [if_neg c]
        rw [e] at h
        obtain ⟨i1, i2⟩ := ih (acc ++ [a]) (by rw [h, List.length_append, List.length_singleton]; omega)
        refine ⟨fun k hk => ?_, List.nodup_cons.mpr ⟨fun z => ?_, i2⟩⟩
        · rcases List.mem_cons.mp hk with rfl | hk
          · exact fun z => c (hasK_iff.mpr z)
          · exact fun z => i1 k hk (List.mem_append_left _ z)
        · exact i1 a z (List.mem_append_right _ (List.mem_singleton.mpr rfl))
  have back : ∀ (l acc : List L2.Key), (∀ k ∈ l, k ∉ acc) → l.Nodup → (l.foldl distS acc).length = acc.length + l.length := by
    intro l
    induction l with
    | nil => intro acc _ _; simp
    | cons a t ih =>
      intro acc h hn
      obtain ⟨n1, n2⟩ := List.nodup_cons.mp hn
      rw [List.foldl_cons, List.length_cons]
      have e : distS acc a = acc ++ [a] := by
        unfold distS
        rw [if_neg fun z => h a List.mem_cons_self (hasK_iff.mp z)]
      rw [e, ih (acc ++ [a]) (fun k hk z => ?_) n2, List.length_append, List.length_singleton]
      · omega
      · rcases List.mem_append.mp z with z | z
        · exact h k (List.mem_cons_of_mem _ hk) z
        · rw [List.mem_singleton.mp z] at hk
          exact n1 hk
  constructor
  · intro h
    exact (to ks [] (by simpa [dist] using h)).2
  · intro h
    have := back ks [] (fun k _ z => (nomatch z)) h
    simpa [dist] using this
theorem nodup_txt {ws : List (List Bool)} : (ws.map fun l => (Sum.inr (txt l) : L2.Key)).Nodup ↔ ws.Nodup := by
  induction ws with
  | nil => simp
  | cons a t ih =>
    rw [List.map_cons, List.nodup_cons, List.nodup_cons, ih]
    refine and_congr_left fun _ => not_congr ⟨fun h => ?_, fun h => List.mem_map.mpr ⟨a, h, rfl⟩⟩
    obtain ⟨b, hb, e⟩ := List.mem_map.mp h
    rw [← txt_inj (Sum.inr.inj e)]
    exact hb
end Gk
namespace Gk
open PySem PySem.Spec PyProof.Rows L2 RZ
/-- joined, within a comprehension -/
theorem pe_joinK {X : Cx} (K : PySem.W.Frag) {o e : Expr} {to te : TE} {apos pos : Pos} (ho : PE X o to) (he : PE X e te) (hK : X.K = K := by rfl) (hs : starEach [e] X.env = [(false, eval e X.env)] := by rfl) (hbase : attributeBase o "join" X.env (eval o X.env) = eval o X.env := by rfl) (hline : (apos.endLine == pos.line) = true := by rfl) :
    PE X (.Call (.Attribute o "join" apos) [e] [] pos) (tM1 (fun x xs H Q => ∃ a p, ∃ ys : List Str, x = .str a ∧ xs = [.ref p] ∧ (SqL K H p (ys.map V.str) ∨ SqT K H p (ys.map V.str)) ∧
      (ys.map (·.length)).sum + ys.length * a.length ≤ 16777216 ∧ Q (.str (Txt.join a ys)) H) to te) := by
  subst hK
  exact pe_join ho he hs hbase hline
/-- a text, as a value -/
def tv (l : List Bool) : V := .str (txt l)
theorem sums_txt : ∀ bs : List Bool, ((bs.map fun b => txt [b]).map (·.length)).sum = bs.length
  | [] => rfl
  | b :: bs => by
    have ih := sums_txt bs
    simp only [List.map_cons, List.sum_cons, List.length_cons, ih, txt_length, List.length_nil]
    omega
theorem sums_fit {bs : List Bool} (h : bs.length ≤ 1000000) : ((bs.map fun b => txt [b]).map (·.length)).sum + (bs.map fun b => txt [b]).length * ("" : Str).length ≤ 16777216 := by
  rw [sums_txt, List.length_map]
  show bs.length + bs.length * 0 ≤ 16777216
  omega
theorem of_bits {i : Nat} {v : V} (h : [V.str "0", V.str "1"][i]? = some v) : ∃ c : Bool, v = .str (txt [c]) := by
  match i, h with
  | 0, h => exact ⟨false, (Option.some.inj h).symm.trans (by decide +kernel)⟩
  | 1, h => exact ⟨true, (Option.some.inj h).symm.trans (by decide +kernel)⟩
  | n + 2, h => simp at h
end Gk
namespace Gk
open PySem PySem.Spec PyProof.Rows L2
/-! ### sets of tuples of ints -/
section
variable {X : Cx}
def rSAddT (K : PySem.W.Frag) (P : Program) (w : World) : V → List V → Hp → VK → Prop := fun x xs H Q => ∃ (a b : Addr) (k : List Int) (L : List (Addr × List Int)), x = .ref a ∧ xs = [.ref b] ∧ H a = some (SetTO P w a L) ∧ (∀ p ∈ L, SqT K H p.1 (p.2.map V.int)) ∧ SqT K H b (k.map V.int) ∧ L.length + 1 < 64 ∧
  ∀ L', (k ∈ L.map (·.2) → L' = L) → (k ∉ L.map (·.2) → L'.Perm ((b, k) :: L)) → Q .non (upd H a (SetTO P w a L'))
theorem setT_at {pins : List (Addr × Obj)} {σ : L2.St} {H : Hp} {s : Shared} {a : Addr} {L : List (Addr × List Int)} (I : Inv X pins σ H s) (ha : H a = some (SetTO X.prog X.w a L)) (ht : ∀ p ∈ L, SqT X.K H p.1 (p.2.map V.int)) : ∃ es ep t, SetTR X.prog X.w s.heap a L es ep t := by
  have x : ObjOk X.prog X.w H s.heap a (.ext fun h => SetT0 X.prog X.w h a L) := I.hok a _ ha
  exact x.1.full fun p hp => I.isT (ht p hp)
theorem mt_saddT (hu : X.A.units + 64 < cLine) : MtR X "set.add" (rSAddT X.K X.prog X.w) := by
  intro pins s σ H x xs v us Q I rx rxs h
  obtain ⟨a, b, k, L, rfl, rfl, ha, ht, hb, hl, q⟩ := h
  cases rx
  cases rxs with
  | cons ry rt =>
    cases rt
    cases ry
    obtain ⟨es, ep, t, R⟩ := setT_at I ha ht
    have hx := I.isT hb
    obtain ⟨o, ho, hex, hd⟩ := R.ob
    refine wpAny_call_entry F.slot_set_add ⟨o, ho, hex.1⟩ F.entry_set_add ?_ (F.args_set_add_2 _ _)
    unfold Builtin.«set.add» Builtin.Frozenset.oneOther
    simp only [List.isEmpty_nil, bind_assoc]
    unfold Builtin.Frozenset.addrOf setAdd
    refine wpAny_bind (wpAny_pure ?_)
    try dsimp only
    refine wpAny_bind (wpAny_pure ?_)
    try dsimp only
    refine wpAny_bind ?_
    refine wpAny_holding ?_
    refine wpAny_bind (wpAny_pyHash_tuple (by show X.A.units + 1 < cLine; omega) hx ?_)
    refine add_at (s := { s with toks := s.toks + (k.length + 1) }) R hx (by show X.A.units + 1 < cLine; omega) hl fun bb h' L' es' ep' t' sb R2 c1 c2 => ?_
    show wpAny _ _ (ret Value.none) _ _ _
    have he : ∃ u, h'.get? a = some u := by
      obtain ⟨o2, ho2, _⟩ := R2.ob
      exact ⟨o2, ho2⟩
    exact wpAny_pure ⟨_, rfl, .non, upd H a (SetTO X.prog X.w a L'), I.write (e := a) (t' := s.toks + (k.length + 1)) (by rw [ha]; trivial) (.inl rfl) (fun b u hb hu => (sb.2 b hb).trans hu) he (setTO_new R2.t0), rfl, q L' c1 c2⟩
/-- len of such a set -/
def rLenSetT (K : PySem.W.Frag) (P : Program) (w : World) : List V → Hp → VK → Prop := fun xs H Q => ∃ (a : Addr) (L : List (Addr × List Int)), xs = [.ref a] ∧ H a = some (SetTO P w a L) ∧ (∀ p ∈ L, SqT K H p.1 (p.2.map V.int)) ∧ Q (.int L.length) H
theorem cr_lenSetT : CallR X (.builtin "len") (rLenSetT X.K X.prog X.w) := by
  intro pins s σ H xs us Q I r h
  obtain ⟨a, L, rfl, ha, ht, q⟩ := h
  rw [Vals.ref1 r]
  obtain ⟨es, ep, t, R⟩ := setT_at I ha ht
  obtain ⟨o, ho, hex, hd⟩ := R.ob
  have hn := R.size
  have few := R.few
  exact call_len_set ho hex hd R.fits (by rw [hn]; omega) ⟨.int L.length, H, (I.tok _).tok _, ⟨_, by rw [hn]⟩, q⟩
end
section
variable {X : Cx}
/-- {elt for target in iter}, the items tuples of ints: D is the new set -/
def tSit (K : PySem.W.Frag) (P : Program) (w : World) (src : TI) (g : TG) (te : TE) (own : List Nat) : TE := fun σ H Q => src σ H fun J G => ∀ D, G D = none → ∃ Stage : Nat → Nat → Hp → Prop,
  (∃ k, Stage 0 k (upd G D (L2.SetTO P w D []))) ∧ ∀ i k G', Stage i k G' → (J.stop i G' ∧ Q (.ref D) G') ∨
    (J.go i G' ∧ ∃ After : Hp → Prop, (∀ G2, After G2 → ∃ j, j < k ∧ Stage (i + 1) j G2) ∧ ∀ x G2, J.yld i G' x G2 → g x (wipe σ own) G2 fun τ G3 => wipe τ own = wipe σ own ∧
      te τ G3 fun y G4 => rSAddT K P w (.ref D) [y] G4 fun _ G5 => After G5)
theorem pe_sit {elt tg iter : Expr} {scope : Scope} {own : List (PySem.Str × Nat)} {pos : Pos} {src : TI} {g : TG} {te : TE} (calm : X.calm = true) (hu : X.A.units + 64 < cLine) (nd : X.N.Nodup) (walk : PI X tg iter src) (blk : BlkOk X.N X.env.scope scope own)
    (put : ∀ (s : Shared) (G : Hp) (C : Addr) (cl : List (PySem.Str × Addr)) (fp : List Addr), PG (X.blk s G scope (compEnvC scope cl C X.env) fp) tg g)
    (val : ∀ (s : Shared) (G : Hp) (C : Addr) (cl : List (PySem.Str × Addr)) (fp : List Addr), PE (X.blk s G scope (compEnvC scope cl C X.env) fp) elt te)
    (plain : ∀ x, foldedSetIterable iter X.env x = pure x := by intro _; rfl) : PE X (.SetComp elt [⟨tg, iter, [], 0⟩] scope pos) (tSit X.K X.prog X.w src g te (own.map (·.2))) := by
  refine ⟨fun pins s σ H Q inv want => ?_⟩
  rw [PpSet.eval_SetComp]
  have free : ∀ y ∈ scope.names, y.2 = .free → ∃ c, X.env.cells.lookup y.1 = some c := fun y hy e =>
    (blk.free y hy e).elim (fun k => inv.ok.has _ (.inl k)) fun k => inv.ok.has _ (.inr k)
  refine wpAny_comprehension_free (use := none) rfl plain (closure_ok free) blk.kind (fun y hy e => by rw [blk.uniq y hy, e]) (thn (walk.run pins s σ H _ inv want) fun xv s1 got => thn got fun itv a have2 => ?_)
  obtain ⟨it, fp, tn, J, G, rfl, invA, T, stA, frA, go⟩ := have2
  refine PpSet.newSet_ok (newEnv_comp ?_)
  generalize eD : a.heap.objs.size = D
  have D0 : G D = none := invA.hok.fresh (Nat.le_of_eq eD)
  obtain ⟨Stage, ⟨k0, first⟩, turn⟩ := go D D0
  generalize eNew : ({ cls := .type "set", dict := none, data := .set #[] 0 (.fresh 0 0 (!X.w.params.followText "set-order")) } : Obj) = new
  generalize eB : ({ a with heap := a.heap.push new } : Shared) = b
  have hB : b.heap = a.heap.push new := by rw [← eB]
  have keepB : ∀ (c : Addr) (o : Obj), a.heap.get? c = some o → b.heap.get? c = some o := fun c o e => by rw [hB]; exact Heap.get?_push_of_some _ e
  have made : SetT0 X.prog X.w b.heap D [] := by
    rw [hB, ← eNew, ← eD]
    exact (setTR_fresh (Heap.get?_push_size _ rfl)).t0
  have invB : L2.Inv X pins σ (upd G D (L2.SetTO X.prog X.w D [])) b := by
    rw [← eB]
    refine invA.laid (t' := a.toks) (fun c o e => Heap.get?_push_of_some _ e) (Nat.le_of_eq eD) ?_
    have := L2.setTO_new (H := upd G D (L2.SetTO X.prog X.w D [])) made
    rwa [hB] at this
  have small : ∀ c ∈ fp, c < a.heap.objs.size := fun c hc => let ⟨o, e, _⟩ := T.obj _ _ stA c hc; Heap.lt_size e
  have frB : ∀ c ∈ fp, FpOk X pins (upd G D (L2.SetTO X.prog X.w D [])) c ∧ c < b.heap.objs.size := fun c hc => by
    have lt := small c hc
    refine ⟨⟨?_, (frA c hc).2⟩, by rw [hB, Heap.size_push]; exact Nat.lt_succ_of_lt lt⟩
    rw [upd_ne (show c ≠ D by rw [← eD]; exact Nat.ne_of_lt lt)]
    exact (frA c hc).1
  have stB : tn 0 b.heap := T.keep _ _ _ stA fun c _ o e => keepB c o e
  generalize eG : upd G D (L2.SetTO X.prog X.w D []) = GB at first invB frB
  have invC := block_start invB blk nd frB
  have free0 : ∀ c ∈ fp, GB c = none := fun c hc => (frB c hc).1.1
  generalize eCl : cellsFrom (b.heap.objs.size + 1) scope.names (cloFrom X.env.cells scope.names []) = cl at invC
  have aim := put b GB b.heap.objs.size cl fp
  have made2 := val b GB b.heap.objs.size cl fp
  show codeAny (model X.prog X.w) X.A (.compStart (.SetComp elt [⟨tg, iter, [], 0⟩] scope pos) 0 (.ref it) (.ref D) (compEnvC scope cl b.heap.objs.size X.env)) (compPost (model X.prog X.w) X.A X.xe none (EP X pins σ Q) (.ref D) b.heap.objs.size) { b with heap := pushCells (b.heap.push { cls := .type "dict", data := .dict #[] }) scope.names }
  generalize eCe : compEnvC scope cl b.heap.objs.size X.env = ce at invC aim made2 ⊢
  have place : ce.locals = b.heap.objs.size := by rw [← eCe]; rfl
  generalize eC : ({ b with heap := pushCells (b.heap.push { cls := .type "dict", data := .dict #[] }) scope.names } : Shared) = c0 at invC ⊢
  have stC : tn 0 c0.heap := T.keep _ _ _ stB fun c _ o e => by
    rw [← eC]
    exact pushCells_keeps _ _ _ _ (Heap.get?_push_of_some _ e)
  have inside : ∀ {τ : L2.St} {G' : Hp} {s' : Shared}, L2.Inv (X.blk b GB scope ce fp) [] τ G' s' → (∀ c ∈ fp, G' c = none) → ∀ c ∈ fp, FpOk (X.blk b GB scope ce fp) [] G' c := fun {τ G' s'} inv' no c hc =>
    ⟨no c hc, (inv'.ok.exf c hc).1, inv'.ok.exfs c hc, .inl hc, fun x d e => (inv'.ok.exf c hc).2 x d e, fun p hp => absurd (show p ∈ ([] : List (Addr × Obj)) ++ [] from hp) (by simp)⟩
  have whole : codeAny (model X.prog X.w) X.A (.compLoop (.SetComp elt [⟨tg, iter, [], 0⟩] scope pos) 0 (.ref it) (.ref D) ce) (compPost (model X.prog X.w) X.A X.xe none (EP X pins σ Q) (.ref D) b.heap.objs.size) c0 := by
    refine PpSet.compLoopS_any (fun k s' => ∃ i G', L2.Inv (X.blk b GB scope ce fp) [] (wipe σ (own.map (·.2))) G' s' ∧ tn i s'.heap ∧ (∀ c ∈ fp, G' c = none) ∧ Stage i k G') (fun k s5 now => ?_) k0 ⟨0, GB, invC, stC, free0, first⟩
    obtain ⟨i, G5, inv5, st5, no5, stage⟩ := now
    rcases turn i k G5 stage with ⟨stop, fin⟩ | ⟨more, After, less, step⟩
    · refine thnF (T.done (X.blk b GB scope ce fp) rfl rfl rfl calm i [] s5 _ G5 (fun _ _ => False) inv5 (inside inv5 no5) st5 stop) fun r s6 ⟨hr, inv6⟩ => ?_
      subst hr
      have out := invB.call' (ch := fp) inv6.os inv6.base inv6.hok inv6.bare fun c hc => ⟨(frB c hc).1.2.2.2.1, (frB c hc).1.2.1, (frB c hc).1.2.2.2.2.1, (frB c hc).1.2.2.2.2.2⟩
      have nC : G5 b.heap.objs.size = none := by
        have z : G5 ce.locals = none := inv6.free
        rwa [place] at z
      obtain ⟨names, hm, _⟩ := inv6.loc
      have hm : s6.heap.Ns ce.locals names := hm
      rw [place] at hm
      obtain ⟨f0, f1, _, f3, f4, f5⟩ := invB.fpOk (Nat.le_refl _) nC
      exact ⟨names, hm, fun h2 sb => ⟨.ref D, G5, out.turned (t' := s6.toks) (fun c o hc e => (sb.2 c hc).trans e) f0 f1 f3 f4 f5, rfl, fin⟩⟩
    · refine thnF (T.item (X.blk b GB scope ce fp) rfl rfl rfl calm i [] s5 _ G5 (fun _ _ => False) inv5 (inside inv5 no5) st5 more) fun r s6 ⟨u, hr, h6⟩ => ?_
      subst hr
      refine thnF h6 fun _ s7 ⟨x, G7, inv7, rx, y7, st7, no7⟩ => ?_
      refine thnF (aim.run _ s7 _ G7 x u _ (inv7.pinned (inside inv7 no7) (T.obj _ _ st7)) rx (step x G7 y7)) fun _ s8 ⟨τ, G8, inv8, same8, q8⟩ => ?_
      show wpAny _ _ (pure true) _ _ s8
      refine wpAny_pure ?_
      simp only [if_true]
      refine thnF (made2.run _ s8 τ G8 _ inv8 q8) fun z s9 ⟨yv, G9, inv9, rz, aft⟩ => ?_
      refine thnF (mt_saddT (X := X.blk b GB scope ce fp) hu _ s9 τ G9 (.ref D) [yv] (.ref D) [z] (fun _ G10 => After G10) inv9 rfl (.cons rz .nil) aft) fun _ s10 ⟨_, G10, inv10, _, aft10⟩ => ?_
      obtain ⟨j, lt, stage2⟩ := less G10 aft10
      have pin : ∀ c ∈ fp, ∀ o, s7.heap.get? c = some o → s10.heap.get? c = some o ∧ G10 c = none := fun c hc o e =>
        let held := inv10.pin (c, o) (List.mem_append_right _ (List.mem_append_right _ (mem_pinsAt hc e)))
        ⟨held.1, held.2.1⟩
      refine ⟨j, lt, i + 1, G10, (inv10.unpinned (pins := [])).weak (by rw [← same8, wipe_length]) (fun q v e => ?_), T.keep _ _ _ st7 fun c hc o e => (pin c hc o e).1, fun c hc => ?_, stage2⟩
      · rw [← same8] at e
        exact (wipe_some e).1
      · obtain ⟨o, e, _⟩ := T.obj _ _ st7 c hc
        exact (pin c hc o e).2
  exact PpSet.codeAny_compStart_set whole (T.self X.A 0 _ _ _ stC whole)
theorem sit_walk {K : PySem.W.Frag} {P : Program} {w : World} {J : It} {n : Nat} {Gd : Hp → Prop} {Y : Nat → Hp → V → Hp → Prop} {g : TG} {te : TE} {vs : List Nat} {σ : L2.St} {H1 : Hp} {D : Addr} {Qd : Hp → Prop} (wk : Walk J n Gd Y) (Pv : Nat → Hp → Prop) (h0 : Pv 0 (upd H1 D (SetTO P w D []))) (hg : ∀ i H, Pv i H → Gd H)
    (hs : ∀ i x H H', i < n → Pv i H → Y i H x H' → g x (wipe σ vs) H' fun τ G3 => wipe τ vs = wipe σ vs ∧ te τ G3 fun y G4 => rSAddT K P w (.ref D) [y] G4 fun _ G5 => Pv (i + 1) G5)
    (hd : ∀ H, Pv n H → Qd H) : ∃ Stage : Nat → Nat → Hp → Prop, (∃ k, Stage 0 k (upd H1 D (SetTO P w D []))) ∧ ∀ i k G', Stage i k G' → (J.stop i G' ∧ Qd G') ∨
    (J.go i G' ∧ ∃ After : Hp → Prop, (∀ G2, After G2 → ∃ j, j < k ∧ Stage (i + 1) j G2) ∧ ∀ x G2, J.yld i G' x G2 → g x (wipe σ vs) G2 fun τ G3 => wipe τ vs = wipe σ vs ∧
      te τ G3 fun y G4 => rSAddT K P w (.ref D) [y] G4 fun _ G5 => After G5) := by
  refine ⟨fun i k G => k = n - i ∧ i ≤ n ∧ Pv i G, ⟨n, by simp, Nat.zero_le _, h0⟩, ?_⟩
  rintro i k G ⟨rfl, hi, p⟩
  by_cases lt : i < n
  · exact .inr ⟨wk.goes i G lt (hg i G p), Pv (i + 1), fun G2 p2 => ⟨n - (i + 1), by omega, rfl, lt, p2⟩, fun x G2 y => hs i x G G2 lt p (wk.yields i G x G2 lt (hg i G p) y)⟩
  · have e : i = n := by omega
    subst e
    exact .inl ⟨wk.stops G (hg i G p), hd G p⟩
end
theorem sl_tupUK {X : Cx} (K : PySem.W.Frag) (h : X.K = K := by rfl) : SlR X (rSlU K) := by
  subst h
  exact sl_tupU
theorem cut_mid {xs : List V} (a b : Nat) (h : a ≤ b) (hb : b ≤ xs.length) : cutV xs (some (a : Int)) (some (b : Int)) = (xs.drop a).take (b - a) := by
  unfold cutV
  rw [HT.sIx_nat, HT.sIx_nat, Nat.min_eq_left (show a ≤ xs.length by omega), Nat.min_eq_left hb]
end Gk
namespace Pf
open PySem PySem.Spec PyProof.Rows L2 Gk RZ
abbrev sDig : Stmt := topS 3
abbrev nDig : List Str := ["number", "size", "place"]
theorem scDig : FnScope nDig ["number", "size"] (defScope sDig) := ⟨rfl, rfl, rfl, by decide +kernel, rfl, by decide +kernel, by decide +kernel⟩
abbrev sFT : Stmt := topS 4
abbrev nFT : List Str := ["number", "size", "greatest", "turned", "_"]
theorem scFT : FnScope nFT ["number", "size"] (defScope sFT) := ⟨rfl, rfl, rfl, by decide +kernel, rfl, by decide +kernel, by decide +kernel⟩
abbrev sRW : Stmt := topS 5
abbrev nRW : List Str := ["root", "length", "enough", "twice", "at"]
theorem scRW : FnScope nRW ["root", "length"] (defScope sRW) := ⟨rfl, rfl, rfl, by decide +kernel, rfl, by decide +kernel, by decide +kernel⟩
/-! ### the turns of a number -/
def rotN (s t : Nat) : Nat := t % 2 ^ (s - 1) * 2 + t / 2 ^ (s - 1)
def rotK (s n : Nat) : Nat → Nat
  | 0 => n
  | i + 1 => rotN s (rotK s n i)
def firstTurn (s n : Nat) : Bool := (List.range (s - 1)).all fun i => decide (n < rotK s n (i + 1))
theorem rotN_lt {s t : Nat} (h : 1 ≤ s) (ht : t < 2 ^ s) : rotN s t < 2 ^ s := by
  unfold rotN
  obtain ⟨u, rfl⟩ : ∃ u, s = u + 1 := ⟨s - 1, by omega⟩
  rw [Nat.add_sub_cancel]
  rw [Nat.pow_succ] at ht ⊢
  have hp : 0 < 2 ^ u := Nat.pos_of_ne_zero (by intro z; have := Nat.one_le_two_pow (n := u); omega)
  have m := Nat.mod_lt t hp
  have d : t / 2 ^ u < 2 := Nat.div_lt_of_lt_mul (by rw [Nat.mul_comm]; exact Nat.lt_of_lt_of_eq ht (Nat.mul_comm _ _))
  omega
theorem rotK_lt {s n : Nat} (h : 1 ≤ s) (hn : n < 2 ^ s) : ∀ i, rotK s n i < 2 ^ s
  | 0 => hn
  | i + 1 => rotN_lt h (rotK_lt h hn i)
theorem low_is {s t : Nat} (h : 1 ≤ s) : (((t : Nat) : Int) * 2 ^ (1 : Int).toNat) % 2 ^ s = ((t % 2 ^ (s - 1) : Nat) : Int) * 2 ^ 1 := by
  obtain ⟨u, rfl⟩ : ∃ u, s = u + 1 := ⟨s - 1, by omega⟩
  have e1 : (((t : Nat) : Int) * 2 ^ (1 : Int).toNat) = ((t * 2 : Nat) : Int) := by rw [Int.natCast_mul]; rfl
  have e2 : ((2 : Int) ^ (u + 1)) = ((2 ^ (u + 1) : Nat) : Int) := by rw [Int.natCast_pow]; rfl
  rw [e1, e2, ← Int.natCast_emod, Nat.add_sub_cancel, Nat.pow_succ, Nat.mul_mod_mul_right, Int.natCast_mul]
  rfl
/-! ### the histories of a pattern -/
def wins (os : List Int) (L : Nat) : List (List Int) := (List.range os.length).map fun at_ => ((os ++ os).drop at_).take L
def reachO (os : List Int) (L : Nat) : Bool := decide ((wins os (min L os.length)).Nodup)
def turnsF (s L : Nat) : Nat := ((List.range (2 ^ s)).filter fun n => firstTurn s n && reachO (bitsI s n) L).length
/-- from 1 on below k: what divides n -/
def parts (n k : Nat) : List Nat := ((List.range k).map (· + 1)).filter fun d => decide (n % d = 0)
theorem parts_succ (n k : Nat) : parts n (k + 1) = parts n k ++ if n % (k + 1) = 0 then [k + 1] else [] := by
  unfold parts
  rw [List.range_succ, List.map_append, List.filter_append]
  congr 1
  by_cases h : n % (k + 1) = 0
  · rw [if_pos h]
    simp [h]
  · rw [if_neg h]
    simp [h]
theorem parts_len (n k : Nat) : (parts n k).length ≤ k := by
  unfold parts
  refine Nat.le_trans (List.length_filter_le _ _) ?_
  rw [List.length_map, List.length_range]
  exact Nat.le_refl _
theorem parts_le {n k : Nat} : ∀ d ∈ parts n k, 1 ≤ d ∧ d ≤ k := fun d hd => by
  unfold parts at hd
  obtain ⟨u, hu, e⟩ := List.mem_map.mp (List.mem_filter.mp hd).1
  have := List.mem_range.mp hu
  omega
def countF (m L : Nat) : Nat := ((parts m m).map fun d => d * turnsF d L).sum
section
variable {P : Program} {w : World} {K : PySem.W.Frag} {mg : Str → Option Value} {base : Heap}
def spDig (K : PySem.W.Frag) : Sp := fun vs H Q _ => ∃ n s : Nat, vs = [.int (n : Int), .int (s : Int)] ∧ 1 ≤ s ∧ s ≤ 64 ∧ ∀ H' p, Same H H' → SqT K H' p ((bitsI s n).map V.int) → Q (.ref p) H'
theorem ok_dig {f : Addr} {fd : FuncData} {k : Nat} (mr : mg "range" = none) (mv : mg "reversed" = none) (mt : mg "tuple" = none) (F : L2.Fun K "_digits" "_digits" sDig f fd) : FnOk P w K mg base L2.CX0 (k + 1) f fd ["number", "size"] (spDig K) := by
  refine F.ok scDig (fun vs H Q E h => ?_) (fun cdv A outer s H vs Q E hr h => ?_)
  · obtain ⟨n, s, rfl, _⟩ := h
    rfl
  · obtain ⟨n, s, rfl, s1, s64, q⟩ := h
    refine ⟨_, pss_one (ps_ret (pe_callTy call_tuple_of (by rfl) mt (by decide +kernel) (pa_cons (pe_lc (own := [("place", 2)]) (g := gName 2) (by rfl) scDig.nd (pi_revR (by rfl) mv (prg_1 (by rfl) mr (pv 1))) (blkOk_by (N := nDig) (sc := defScope sDig) (by decide +kernel))
        (fun _ _ _ _ _ => pg_name (i := 2) scDig.nd rfl (.inl rfl)) (fun _ _ _ _ _ => pts_nil) (fun _ _ _ _ _ => pe_op op_odd (pe_mid (pe_op op_shr (pv 0) (pv 2))) pe_int)) pa_nil))), ?_⟩
    refine ⟨.int (s : Int), rfl, _, rfl, by decide, by decide, by omega, by omega, fun D nD => ?_⟩
    refine lc_it walk_rangeC (fun i H' => Same H H' ∧ H' D = some (.lst (((bitsI s n).take i).map V.int))) ⟨same_new nD, upd_same⟩ (fun i H' _ hp => trivial) (fun i v H4 H5 hi hp hy => ?_) (fun H4 hp => ?_)
    · obtain ⟨rfl, rfl⟩ := hy
      obtain ⟨sm, hD⟩ := hp
      have hi : i < s := by omega
      refine ⟨rfl, fun v G => G = H5 ∧ v = .int ((n / 2 ^ (s - 1 - i) : Nat) : Int), ⟨.int (n : Int), rfl, _, rfl, _, _, rfl, rfl, by omega, rfl, ?_⟩, fun v G hv => ?_⟩
      · show V.int ((n : Int) / 2 ^ (0 + (((s : Int) - 0).toNat : Int) - 1 + ((i : Nat) : Int) * (-1)).toNat) = _
        rw [show (0 + (((s : Int) - 0).toNat : Int) - 1 + ((i : Nat) : Int) * (-1)).toNat = s - 1 - i by omega]
        rfl
      · obtain ⟨rfl, rfl⟩ := hv
        refine ⟨_, rfl, rfl, _, hD, ?_, ?_, ?_⟩
        · rw [List.length_map, List.length_take]
          exact small1000 (by omega)
        · intro a o h
          rw [upd_ne (ne_of_none h nD)]
          exact sm a o h
        · have g : (bitsI s n)[i]? = some ((n / 2 ^ (s - 1 - i) % 2 : Nat) : Int) := by
            unfold bitsI
            rw [List.getElem?_map, List.getElem?_range hi]
            rfl
          rw [upd_same, List.take_add_one, g, List.map_append]
          rfl
    · obtain ⟨sm, hD⟩ := hp
      rw [show ((s : Int) - 0).toNat = (bitsI s n).length by rw [bitsI_len]; omega, List.take_length] at hD
      refine ⟨D, _, rfl, .inl ⟨SqL.of hD, fun p np => ?_⟩⟩
      exact q _ p (sm.trans (same_new np)) (SqT.of upd_same)
def spFT : Sp := fun vs H Q _ => ∃ n s : Nat, vs = [.int (n : Int), .int (s : Int)] ∧ 1 ≤ s ∧ s ≤ 64 ∧ n < 2 ^ s ∧ Q (.bl (firstTurn s n)) H
theorem ok_ft {f : Addr} {fd : FuncData} {k : Nat} (mr : mg "range" = none) (F : L2.Fun K "_is_first_turn" "_is_first_turn" sFT f fd) : FnOk P w K mg base L2.CX0 (k + 1) f fd ["number", "size"] spFT := by
  refine F.ok scFT (fun vs H Q E h => ?_) (fun cdv A outer s H vs Q E hr h => ?_)
  · obtain ⟨n, s, rfl, _⟩ := h
    rfl
  · obtain ⟨n, s, rfl, s1, s64, ns, q⟩ := h
    refine ⟨_, pss_cons (ps_set (i := 2) scFT.nd rfl (.inl rfl) (pe_op op_sub (pe_op op_oneShl pe_int (pv 1)) pe_int))
      (pss_cons (ps_set (i := 3) scFT.nd rfl (.inl rfl) (pv 0))
      (pss_cons (ps_for PassesOwn.never rfl (pi_range1 rfl mr (pa_cons (pe_op op_sub (pv 1) pe_int) pa_nil)) (pg_name (i := 4) scFT.nd rfl (.inl rfl))
        (pss_cons (ps_set (i := 3) scFT.nd rfl (.inl rfl) (pe_op op_orL (pe_op op_andM (pe_op op_shl (pv 3) pe_int) (pv 2)) (pe_op op_shrN (pv 3) (pe_op op_sub (pv 1) pe_int))))
        (pss_one (ps_if (pt_cmpR op_le (pv 3) (pv 0) (nomark _)) (pss_one (ps_ret pe_bl)) pss_nil))))
      (pss_one (ps_ret pe_bl)))), ?_⟩
    refine ⟨.int (s : Int), rfl, s, rfl, rfl, by omega, _, _, rfl, rfl, .int (n : Int), rfl, .int (s : Int), rfl, _, _, rfl, rfl, _, rfl, by omega, by omega, ?_⟩
    refine for_range (lo := 0) (n := ((s : Int) - 1).toNat) (fun i σ H' => H' = H ∧ (∃ y, σ = [some (.int (n : Int)), some (.int (s : Int)), some (.int (2 ^ s - 1)), some (.int ((rotK s n i : Nat) : Int)), y]) ∧ ((List.range i).all fun j => decide (n < rotK s n (j + 1))) = true) ⟨rfl, ⟨none, rfl⟩, rfl⟩ (fun i σ H1 hi hp => ?_) (fun σ H1 hp => ?_)
    · obtain ⟨rfl, ⟨y, rfl⟩, al⟩ := hp
      have hi : i < s - 1 := by omega
      have tl := rotK_lt s1 ns i
      have p64 : (2 : Nat) ^ s ≤ 2 ^ 64 := Nat.pow_le_pow_right (by decide) s64
      generalize ht : rotK s n i = t at tl
      have er : rotK s n (i + 1) = rotN s t := by rw [← ht]; rfl
      have tdiv : t / 2 ^ (s - 1) < 2 := by
        refine Nat.div_lt_of_lt_mul ?_
        rw [← Nat.pow_succ]
        show t < 2 ^ (s - 1 + 1)
        rw [show s - 1 + 1 = s by omega]
        exact tl
      have ed : ((t : Int) / 2 ^ (s - 1)) = ((t / 2 ^ (s - 1) : Nat) : Int) := by
        rw [Int.natCast_ediv, Int.natCast_pow]
        rfl
      refine ⟨.int (t : Int), rfl, _, _, rfl, rfl, ⟨by decide, by decide, by rw [Int.natAbs_natCast]; omega⟩, .int (2 ^ s - 1), rfl, _, s, rfl, rfl, .int (t : Int), rfl, .int (s : Int), rfl, _, _, rfl, rfl, _, s - 1, rfl, congrArg V.int (by omega), ((t % 2 ^ (s - 1) : Nat) : Int), ((t / 2 ^ (s - 1) : Nat) : Int), 1, congrArg V.int (low_is s1), congrArg V.int ed,
        ⟨Int.natCast_nonneg _, Int.natCast_nonneg _, by omega⟩, ?_⟩
      have ev : ((t % 2 ^ (s - 1) : Nat) : Int) * 2 ^ 1 + ((t / 2 ^ (s - 1) : Nat) : Int) = ((rotK s n (i + 1) : Nat) : Int) := by
        rw [er]
        unfold rotN
        rw [Int.natCast_add, Int.natCast_mul]
        rfl
      rw [ev]
      have keyR : ((List.range (i + 1)).all fun j => decide (n < rotK s n (j + 1))) = decide (n < rotK s n (i + 1)) := by
        rw [List.range_succ, List.all_append, al, Bool.true_and]
        simp
      refine ⟨_, rfl, .int (n : Int), rfl, _, _, rfl, rfl, _, rfl, ite2 (fun e => ?_) (fun e => ?_)⟩
      · have e := of_decide_eq_true e
        have ff : firstTurn s n = false := by
          unfold firstTurn
          rw [List.all_eq_false]
          exact ⟨i, List.mem_range.mpr hi, by simp; omega⟩
        rw [ff] at q
        exact q
      · have e : ¬ ((rotK s n (i + 1) : Nat) : Int) ≤ (n : Int) := fun z => e (decide_eq_true z)
        exact ⟨rfl, ⟨_, rfl⟩, by rw [keyR, decide_eq_true_eq]; omega⟩
    · obtain ⟨rfl, ⟨y, rfl⟩, al⟩ := hp
      have ff : firstTurn s n = true := by
        unfold firstTurn
        rw [← al, show ((s : Int) - 1).toNat = s - 1 by omega]
      rw [ff] at q
      exact q
theorem wins_len (os : List Int) (L : Nat) : (wins os L).length = os.length := by
  unfold wins
  rw [List.length_map, List.length_range]
def spRW (K : PySem.W.Frag) : Sp := fun vs H Q _ => ∃ (r : Addr) (os : List Int) (L : Nat), vs = [.ref r, .int (L : Int)] ∧ SqT K H r (os.map V.int) ∧ 1 ≤ os.length ∧ os.length ≤ 30 ∧ L ≤ 1000 ∧ ∀ H', Same H H' → Q (.bl (reachO os L)) H'
theorem ok_rw {f : Addr} {fd : FuncData} {k : Nat} (mr : mg "range" = none) (mn : mg "min" = none) (ml : mg "len" = none) (F : L2.Fun K "_is_reach_within" "_is_reach_within" sRW f fd) : FnOk P w K mg base L2.CX0 (k + 1) f fd ["root", "length"] (spRW K) := by
  refine F.ok scRW (fun vs H Q E h => ?_) (fun cdv A outer s H vs Q E hr h => ?_)
  · obtain ⟨r, os, L, rfl, _⟩ := h
    rfl
  · obtain ⟨r, os, L, rfl, sq, o1, o30, L1000, q⟩ := h
    refine ⟨_, pss_cons (ps_if (pt_cmpR op_lt (pv 1) pe_int (nomark _)) (pss_one (ps_ret pe_bl)) pss_nil)
      (pss_cons (ps_set (i := 2) scRW.nd rfl (.inr rfl) (pe_callB (call_min2 rfl) (by rfl) mn (by decide +kernel) (pa_cons (pv 1) (pa_cons (pe_callB call_len_seq (by rfl) ml PySem.boot_len (pa_cons (pv 0) pa_nil)) pa_nil))))
      (pss_cons (ps_set (i := 3) scRW.nd rfl (.inr rfl) (pe_op op_catU (pv 0) (pv 0)))
      (pss_one (ps_ret (pe_cmpR op_eq (pe_callB cr_lenSetT (by rfl) ml PySem.boot_len (pa_cons (pe_sit (own := [("at", 4)]) (g := gName 4) rfl hr.units scRW.nd (pi_range1 rfl mr (pa_cons (pe_callB call_len_seq (by rfl) ml PySem.boot_len (pa_cons (pv 0) pa_nil)) pa_nil)) (blkOk_by (N := nRW) (sc := defScope sRW) (by decide +kernel))
          (fun _ _ _ _ _ => pg_name (i := 4) scRW.nd rfl (.inl rfl)) (fun _ _ _ _ _ => pe_slice (sl_tupUK K) (pv 3) (po_some (pv 4)) (po_some (pe_op op_add (pv 4) (pv 2))))) pa_nil)) (pe_callB call_len_seq (by rfl) ml PySem.boot_len (pa_cons (pv 0) pa_nil)) (nomark _)))))), ?_⟩
    have hlen : (os.map V.int).length = os.length := List.length_map ..
    have hs : sizeLine = 16777216 := sizeLine_eq
    refine ⟨.int (L : Int), rfl, _, _, rfl, rfl, _, rfl, ite2 (fun e => absurd (of_decide_eq_true e) (by omega)) (fun _ => ?_)⟩
    refine ⟨.int (L : Int), rfl, .ref r, rfl, r, _, rfl, .inr sq, _, _, rfl, .ref r, rfl, .ref r, rfl, r, r, _, _, rfl, rfl, sq, sq, by rw [hlen]; omega, fun tw H1 s1 st => ?_⟩
    have em : (if (((os.map V.int).length : Nat) : Int) < (L : Int) then (((os.map V.int).length : Nat) : Int) else (L : Int)) = ((min L os.length : Nat) : Int) := by
      rw [hlen]
      split <;> omega
    rw [em]
    have W : wins os (min L os.length) = wins os (min L os.length) := rfl
    generalize hk : min L os.length = k at *
    have kl : k ≤ os.length := by omega
    have wl : (wins os k).length = os.length := wins_len os k
    refine ⟨.ref r, rfl, r, _, rfl, .inr (Same.seqT s1 sq), _, rfl, by rw [hlen]; omega, by rw [hlen]; omega, fun D nD => ?_⟩
    refine sit_walk walk_range (fun i H' => Same H1 H' ∧ ∃ M : List (Addr × List Int), H' D = some (SetTO P w D M) ∧ (∀ p ∈ M, SqT K H' p.1 (p.2.map V.int)) ∧ (∀ z, z ∈ M.map (·.2) ↔ z ∈ (wins os k).take i) ∧ M.length ≤ i ∧ (M.length = i ↔ ((wins os k).take i).Nodup)) ⟨same_new nD, [], upd_same, fun p hp => (nomatch hp), fun z => by simp, Nat.le_refl _, by simp⟩ (fun _ _ _ => trivial) (fun i x H2 H3 hi hp hy => ?_) (fun H2 hp => ?_)
    · obtain ⟨rfl, rfl⟩ := hy
      obtain ⟨sm, M, hD, mt, me, ml', mn'⟩ := hp
      have hi : i < os.length := by rw [hlen] at hi; omega
      have gw : (wins os k)[i]? = some (((os ++ os).drop i).take k) := by
        unfold wins
        rw [List.getElem?_map, List.getElem?_range hi]
        rfl
      refine ⟨rfl, .ref tw, rfl, _, rfl, _, rfl, .int (0 + (i : Nat)), rfl, .int (k : Int), rfl, _, _, rfl, rfl, _, rfl, tw, _, rfl, Same.seqT sm st, fun r2 H4 s4 t4 => ?_⟩
      have ec : cutV (os.map V.int ++ os.map V.int) (some (0 + ((i : Nat) : Int))) (some (0 + ((i : Nat) : Int) + (k : Int))) = (((os ++ os).drop i).take k).map V.int := by
        have := cut_mid (xs := os.map V.int ++ os.map V.int) i (i + k) (by omega) (by rw [List.length_append, hlen]; omega)
        rw [show (0 + ((i : Nat) : Int)) = ((i : Nat) : Int) by omega, show (((i : Nat) : Int) + (k : Int)) = ((i + k : Nat) : Int) by omega, this, show i + k - i = k by omega, List.map_take, List.map_drop, List.map_append]
      rw [ec] at t4
      generalize ((os ++ os).drop i).take k = z0 at gw t4
      have take1 : (wins os k).take (i + 1) = (wins os k).take i ++ [z0] := by
        rw [List.take_add_one, gw]
        rfl
      refine ⟨D, r2, z0, M, rfl, rfl, s4 _ _ hD, fun p hp => Same.seqT s4 (mt p hp), t4, by omega, fun M' c1 c2 => ?_⟩
      have put : ∀ {a xs}, SqT K H4 a xs → SqT K (upd H4 D (SetTO P w D M')) a xs := fun {a xs} h => by
        have ne : ∀ {u : HO}, H4 a = some u → (∀ o, u ≠ .ext o) → a ≠ D := fun {u} e h z => by
          rw [z, s4 _ _ hD] at e
          exact h _ (Option.some.inj e).symm
        rcases h with (h | ⟨o, h⟩) | h
        · exact .inl (.inl (by rw [upd_ne (ne h fun o z => HO.noConfusion z)]; exact h))
        · exact .inl (.inr ⟨o, by rw [upd_ne (ne h fun o z => HO.noConfusion z)]; exact h⟩)
        · exact .inr h
      refine ⟨fun a o h => by rw [upd_ne (ne_of_none h nD)]; exact s4 a o (sm a o h), M', upd_same, ?_⟩
      by_cases c : z0 ∈ M.map (·.2)
      · have e := c1 c
        subst e
        refine ⟨fun p hp => put (Same.seqT s4 (mt p hp)), fun z => ?_, by omega, ?_⟩
        · rw [take1, List.mem_append, List.mem_singleton, ← me z]
          exact ⟨.inl, fun h => h.elim id fun e => by rw [e]; exact c⟩
        · rw [take1, List.nodup_append]
          constructor
          · intro h; omega
          · rintro ⟨_, _, h⟩
            exact absurd rfl (h z0 ((me z0).mp c) z0 (List.mem_singleton.mpr rfl))
      · have pm := c2 c
        have plen := pm.length_eq
        rw [List.length_cons] at plen
        refine ⟨fun p hp => ?_, fun z => ?_, by omega, ?_⟩
        · rcases List.mem_cons.mp (pm.mem_iff.mp hp) with e | hp
          · rw [e]; exact put t4
          · exact put (Same.seqT s4 (mt p hp))
        · have : z ∈ M'.map (·.2) ↔ z ∈ ((r2, z0) :: M).map (·.2) := (pm.map (·.2)).mem_iff
          rw [this, List.map_cons, List.mem_cons, me z, take1, List.mem_append, List.mem_singleton]
          exact or_comm
        · rw [take1, List.nodup_append, plen]
          constructor
          · intro h
            refine ⟨mn'.mp (by omega), List.pairwise_singleton _ _, fun x hx y hy e => ?_⟩
            rw [List.mem_singleton.mp hy] at e
            exact c ((me z0).mpr (e ▸ hx))
          · rintro ⟨h, _, _⟩
            have := mn'.mpr h
            omega
    · obtain ⟨sm, M, hD, mt, me, ml', mn'⟩ := hp
      have en : (((os.map V.int).length : Int)).toNat = (wins os k).length := by rw [wl, hlen]; rfl
      rw [en, List.take_length] at mn'
      refine ⟨D, M, rfl, hD, mt, .ref r, rfl, r, _, rfl, .inr (Same.seqT (s1.trans sm) sq), rfl, ?_⟩
      have := q H2 (s1.trans sm)
      unfold reachO at this
      rw [hk] at this
      have ed : decide (V.int ((M.length : Nat) : Int) = V.int (((os.map V.int).length : Nat) : Int)) = decide ((wins os k).Nodup) := by
        rw [Bool.eq_iff_iff, decide_eq_true_eq, decide_eq_true_eq, ← mn', wl, hlen]
        exact ⟨fun z => by have := V.int.inj z; omega, fun z => by rw [z]⟩
      rw [ed]
      exact this
end
end Pf
namespace Pf
open PySem PySem.Spec PyProof.Rows L2 Gk RZ
abbrev sTurns : Stmt := topS 2
abbrev nTurns : List Str := ["size", "length", "first_turns", "number"]
theorem scTurns : FnScope nTurns ["size", "length"] (defScope sTurns) := ⟨rfl, rfl, rfl, by decide +kernel, rfl, by decide +kernel, by decide +kernel⟩
abbrev sCount : Stmt := topS 1
abbrev nCount : List Str := ["outcomes", "length", "sizes", "size"]
theorem scCount : FnScope nCount ["outcomes", "length"] (defScope sCount) := ⟨rfl, rfl, rfl, by decide +kernel, rfl, by decide +kernel, by decide +kernel⟩
abbrev sWaysC : Stmt := topS 7
theorem scWaysC : FnScope ["length", "nodes"] ["length", "nodes"] (defScope sWaysC) := ⟨rfl, rfl, rfl, by decide +kernel, rfl, by decide +kernel, by decide +kernel⟩
section
variable {P : Program} {w : World} {K : PySem.W.Frag} {mg : Str → Option Value} {base : Heap}
def spTurns : Sp := fun vs H Q _ => ∃ s L : Nat, vs = [.int (s : Int), .int (L : Int)] ∧ 1 ≤ s ∧ s ≤ 14 ∧ L ≤ 1000 ∧ ∀ H', Same H H' → Q (.int (turnsF s L : Nat)) H'
theorem ok_turns {f : Addr} {fd : FuncData} (DD : Dfn P w K mg base 1 "_digits" ["number", "size"] (spDig K)) (DF : Dfn P w K mg base 1 "_is_first_turn" ["number", "size"] spFT) (DR : Dfn P w K mg base 1 "_is_reach_within" ["root", "length"] (spRW K)) (mr : mg "range" = none) (ml : mg "len" = none)
    (F : L2.Fun K "turns_count" "turns_count" sTurns f fd) : FnOk P w K mg base L2.CX0 2 f fd ["size", "length"] spTurns := by
  refine F.ok scTurns (fun vs H Q E h => ?_) (fun cdv A outer s H vs Q E hr h => ?_)
  · obtain ⟨s, L, rfl, _⟩ := h
    rfl
  · obtain ⟨s, L, rfl, s1, s14, lL, q⟩ := h
    refine ⟨_, pss_cons (ps_if (pt_cmpR op_lt (pv 0) pe_int (nomark _)) (pss_one (ps_ret pe_int)) pss_nil)
      (pss_cons (ps_setLc (i := 2) (own := [("number", 3)]) (g := gName 3) (by rfl) scTurns.nd rfl rfl (sw_true rfl rfl rfl (by decide +kernel)) (pi_range1 rfl mr (pa_cons (pe_op op_oneShl pe_int (pv 0)) pa_nil)) (blkOk_by (N := nTurns) (sc := defScope sTurns) (by decide +kernel))
          (fun _ _ _ _ _ => pg_name (i := 3) scTurns.nd rfl (.inl rfl)) (fun _ _ _ _ _ => pts_one (pt_val (pe_d DF hr (by decide) (by rfl) (pa_cons (pv 3) (pa_cons (pv 0) pa_nil))))) (fun _ _ _ _ _ => pv 3))
      (pss_one (ps_ret (pe_callB call_len_seq (by rfl) ml PySem.boot_len (pa_cons (pe_lc (own := [("number", 3)]) (g := gName 3) (by rfl) scTurns.nd (pi_list (pv 2)) (blkOk_by (N := nTurns) (sc := defScope sTurns) (by decide +kernel))
          (fun _ _ _ _ _ => pg_name (i := 3) scTurns.nd rfl (.inl rfl)) (fun _ _ _ _ _ => pts_one (pt_val (pe_d DR hr (by decide) (by rfl) (pa_cons (pe_d DD hr (by decide) (by rfl) (pa_cons (pv 3) (pa_cons (pv 0) pa_nil))) (pa_cons (pv 1) pa_nil))))) (fun _ _ _ _ _ => pv 3)) pa_nil))))), ?_⟩
    have p14 : (2 : Nat) ^ s ≤ 2 ^ 14 := Nat.pow_le_pow_right (by decide) s14
    have c14 : (2 : Nat) ^ 14 = 16384 := rfl
    have hs : sizeLine = 16777216 := sizeLine_eq
    have e2 : ((2 : Int) ^ s) = ((2 ^ s : Nat) : Int) := by rw [Int.natCast_pow]; rfl
    have pz : (0 : Int) < 2 ^ s := Int.pow_pos (by decide)
    have pu : (2 : Int) ^ s ≤ 16384 := by rw [e2]; exact Int.ofNat_le.mpr p14
    refine ⟨.int (s : Int), rfl, _, _, rfl, rfl, _, rfl, ite2 (fun e => absurd (of_decide_eq_true e) (by omega)) (fun _ => ?_)⟩
    refine ⟨.int (s : Int), rfl, s, rfl, rfl, by omega, _, rfl, by omega, by omega, fun D nD => ?_⟩
    have fl : ∀ i, ((List.range i).filter (firstTurn s)).length ≤ i := fun i => Nat.le_trans (List.length_filter_le _ _) (by rw [List.length_range]; exact Nat.le_refl _)
    refine lc_range (lo := 0) (n := ((2 : Int) ^ s).toNat) (fun i H' => Same H H' ∧ H' D = some (.lst (((List.range i).filter (firstTurn s)).map fun n : Nat => V.int (n : Int)))) ⟨same_new nD, upd_same⟩ (fun i H1 hi hp => ?_) (fun H1 hp => ?_)
    · obtain ⟨sm, hD⟩ := hp
      have hi : i < 2 ^ s := by rw [e2] at hi; exact hi
      refine ⟨rfl, .int (0 + (i : Nat)), rfl, .int (s : Int), rfl, i, s, congrArg (fun z => [V.int z, V.int (s : Int)]) (by omega), s1, by omega, hi, _, rfl, ite2 (fun e => ?_) (fun e => ?_)⟩
      · refine ⟨.int (0 + (i : Nat)), rfl, _, hD, ?_, ?_, ?_⟩
        · rw [List.length_map]
          have := fl i
          omega
        · intro a o h
          rw [upd_ne (ne_of_none h nD)]
          exact sm a o h
        · rw [upd_same, List.range_succ, List.filter_append, List.map_append, show (0 + ((i : Nat) : Int)) = ((i : Nat) : Int) by omega]
          simp [e]
      · refine ⟨sm, ?_⟩
        rw [List.range_succ, List.filter_append]
        simp [e]
        exact hD
    · obtain ⟨sm, hD⟩ := hp
      have et : ((2 : Int) ^ s).toNat = 2 ^ s := by rw [e2]; rfl
      rw [et] at hD
      have mem : ∀ n ∈ (List.range (2 ^ s)).filter (firstTurn s), n < 2 ^ s := fun n hn => List.mem_range.mp (List.mem_filter.mp hn).1
      have due : turnsF s L = (((List.range (2 ^ s)).filter (firstTurn s)).filter fun n => reachO (bitsI s n) L).length := by
        unfold turnsF
        rw [List.filter_filter]
        congr 1
        refine List.filter_congr fun n _ => ?_
        exact Bool.and_comm _ _
      have ll := fl (2 ^ s)
      rw [due] at q
      generalize (List.range (2 ^ s)).filter (firstTurn s) = ft at *
      refine ⟨.ref D, rfl, D, rfl, ⟨_, SqL.of hD⟩, fun D2 nD2 => ?_⟩
      refine lc_list (K := K) (a := D) (xs := ft.map fun n : Nat => V.int (n : Int)) (fun i H' => Same H1 H' ∧ ∃ ys, H' D2 = some (.lst ys) ∧ ys.length = ((ft.take i).filter fun n => reachO (bitsI s n) L).length) ⟨same_new nD2, [], upd_same, rfl⟩ (fun i H' _ hp => SqL.of (hp.1 _ _ hD)) (fun i x H2 hx hp => ?_) (fun H2 hp => ?_)
      · obtain ⟨sm2, ys, hD2, yl⟩ := hp
        rw [List.getElem?_map] at hx
        cases e : ft[i]? with
        | none => rw [e] at hx; cases hx
        | some n =>
          rw [e] at hx
          obtain rfl := Option.some.inj hx
          have il : i < ft.length := (List.getElem?_eq_some_iff.mp e).1
          refine ⟨rfl, .int (n : Int), rfl, .int (s : Int), rfl, n, s, rfl, s1, by omega, fun H3 p s3 sq => ⟨.int (L : Int), rfl, p, bitsI s n, L, rfl, sq, by rw [bitsI_len]; exact s1, by rw [bitsI_len]; omega, lL, fun H4 s4 => ⟨_, rfl, ?_⟩⟩⟩
          have s34 := s3.trans s4
          have tk : (ft.take (i + 1)) = ft.take i ++ [n] := by rw [List.take_add_one, e]; rfl
          refine ite2 (fun e2 => ?_) (fun e2 => ?_)
          · refine ⟨.int (n : Int), rfl, ys, s34 _ _ hD2, ?_, ?_, ys ++ [.int (n : Int)], upd_same, ?_⟩
            · have f1 := List.length_filter_le (fun n => reachO (bitsI s n) L) (ft.take i)
              rw [List.length_take] at f1
              omega
            · intro a o h
              rw [upd_ne (ne_of_none h nD2)]
              exact s34 a o (sm2 a o h)
            · rw [tk, List.filter_append, List.length_append, List.length_append, yl]
              simp [e2]
          · refine ⟨sm2.trans s34, ys, s34 _ _ hD2, ?_⟩
            rw [tk, List.filter_append, List.length_append, yl]
            simp [e2]
      · obtain ⟨sm2, ys, hD2, yl⟩ := hp
        rw [List.length_map, List.take_length] at yl
        refine ⟨D2, ys, rfl, .inl (SqL.of hD2), ?_⟩
        rw [yl]
        exact q H2 (sm.trans sm2)
def spCount : Sp := fun vs H Q _ => ∃ m L : Nat, vs = [.int (m : Int), .int (L : Int)] ∧ 1 ≤ m ∧ m ≤ 14 ∧ L ≤ 1000 ∧ ∀ H', Same H H' → Q (.int (countF m L : Nat)) H'
theorem ok_count {f : Addr} {fd : FuncData} (DT : Dfn P w K mg base 2 "turns_count" ["size", "length"] spTurns) (mr : mg "range" = none) (ms : mg "sum" = none)
    (F : L2.Fun K "count_patterns" "count_patterns" sCount f fd) : FnOk P w K mg base L2.CX0 3 f fd ["outcomes", "length"] spCount := by
  refine F.ok scCount (fun vs H Q E h => ?_) (fun cdv A outer s H vs Q E hr h => ?_)
  · obtain ⟨m, L, rfl, _⟩ := h
    rfl
  · obtain ⟨m, L, rfl, m1, m14, lL, q⟩ := h
    refine ⟨_, pss_cons (ps_setLc (i := 2) (own := [("size", 3)]) (g := gName 3) (by rfl) scCount.nd rfl rfl (sw_true rfl rfl rfl (by decide +kernel)) (pi_range2 (by rfl) mr (pa_cons pe_int (pa_cons (pe_op op_add (pv 0) pe_int) pa_nil))) (blkOk_by (N := nCount) (sc := defScope sCount) (by decide +kernel))
          (fun _ _ _ _ _ => pg_name (i := 3) scCount.nd rfl (.inl rfl)) (fun _ _ _ _ _ => pts_one (pt_cmpR op_eq (pe_op op_mod (pv 0) (pv 3)) pe_int (nomark _))) (fun _ _ _ _ _ => pv 3))
      (pss_one (ps_ret (pe_callB (cr_sum rfl) (by rfl) ms (by decide +kernel) (pa_cons (pe_lc (own := [("size", 3)]) (g := gName 3) (by rfl) scCount.nd (pi_list (pv 2)) (blkOk_by (N := nCount) (sc := defScope sCount) (by decide +kernel))
          (fun _ _ _ _ _ => pg_name (i := 3) scCount.nd rfl (.inl rfl)) (fun _ _ _ _ _ => pts_nil) (fun _ _ _ _ _ => pe_op op_mul (pv 3) (pe_d DT hr (by decide) (by rfl) (pa_cons (pv 3) (pa_cons (pv 1) pa_nil))))) pa_nil)))), ?_⟩
    refine ⟨.int (m : Int), rfl, _, _, rfl, rfl, _, _, rfl, ⟨by decide, by decide, by omega, by omega⟩, fun D nD => ?_⟩
    refine lc_range (lo := 1) (n := ((m : Int) + 1 - 1).toNat) (fun j H' => Same H H' ∧ H' D = some (.lst ((parts m j).map fun d : Nat => V.int (d : Int)))) ⟨same_new nD, upd_same⟩ (fun j H2 hj hp => ?_) (fun H2 hp => ?_)
    · obtain ⟨sm, hD⟩ := hp
      have hj : j < m := by omega
      have em : ((m : Int) % (1 + (j : Int))) = ((m % (j + 1) : Nat) : Int) := by
        rw [show (1 + (j : Int)) = ((j + 1 : Nat) : Int) by omega]
        exact (Int.natCast_emod _ _).symm
      refine ⟨rfl, .int (m : Int), rfl, .int (1 + (j : Nat)), rfl, _, _, rfl, rfl, by omega, rfl, _, rfl, ite2 (fun e => ?_) (fun e => ?_)⟩
      · have e := V.int.inj (of_decide_eq_true e)
        rw [em] at e
        have e0 : m % (j + 1) = 0 := by omega
        refine ⟨.int (1 + (j : Nat)), rfl, _, hD, ?_, ?_, ?_⟩
        · rw [List.length_map]
          exact small1000 (by have := parts_len m j; omega)
        · intro b o h
          rw [upd_ne (ne_of_none h nD)]
          exact sm b o h
        · rw [upd_same, parts_succ, if_pos e0, List.map_append, show (1 + ((j : Nat) : Int)) = ((j + 1 : Nat) : Int) by omega]
          rfl
      · have e0 : ¬ m % (j + 1) = 0 := fun z => e (decide_eq_true (congrArg V.int (by rw [em, z]; rfl)))
        refine ⟨sm, ?_⟩
        rw [parts_succ, if_neg e0, List.append_nil]
        exact hD
    · obtain ⟨sm, hD⟩ := hp
      rw [show ((m : Int) + 1 - 1).toNat = m by omega] at hD
      have mem : ∀ d ∈ parts m m, 1 ≤ d ∧ d ≤ m := parts_le
      have plen := parts_len m m
      unfold countF at q
      generalize parts m m = ps at hD mem plen q
      refine ⟨.ref D, rfl, D, rfl, ⟨_, SqL.of hD⟩, fun D2 nD2 => ?_⟩
      refine lc_list (K := K) (a := D) (xs := ps.map fun d : Nat => V.int (d : Int)) (fun j H' => Same H2 H' ∧ H' D2 = some (.lst (((ps.take j).map fun d : Nat => ((d * turnsF d L : Nat) : Int)).map V.int))) ⟨same_new nD2, upd_same⟩ (fun j H' _ hp => SqL.of (hp.1 _ _ hD)) (fun j x H3 hx hp => ?_) (fun H3 hp => ?_)
      · obtain ⟨sm3, hD2⟩ := hp
        rw [List.getElem?_map] at hx
        cases e : ps[j]? with
        | none => rw [e] at hx; cases hx
        | some d =>
          rw [e] at hx
          obtain rfl := Option.some.inj hx
          obtain ⟨d1, d2⟩ := mem d (List.mem_of_getElem? e)
          refine ⟨rfl, .int (d : Int), rfl, .int (d : Int), rfl, .int (L : Int), rfl, d, L, rfl, d1, by omega, lL, fun H4 s4 => ⟨_, _, rfl, rfl, .inl ⟨by omega, by omega⟩, _, s4 _ _ hD2, ?_, ?_, ?_⟩⟩
          · rw [List.length_map, List.length_map, List.length_take]
            exact small1000 (by omega)
          · intro b o h
            rw [upd_ne (ne_of_none h nD2)]
            exact s4 b o (sm3 b o h)
          · rw [upd_same, List.take_add_one, e, List.map_append, List.map_append]
            show some (HO.lst (_ ++ [V.int ((d : Int) * (turnsF d L : Nat))])) = _
            rw [← Int.natCast_mul]
            rfl
      · obtain ⟨sm3, hD2⟩ := hp
        rw [List.length_map, List.take_length] at hD2
        refine ⟨D2, _, rfl, SqL.of hD2, ?_⟩
        have es : ∀ l : List Nat, (l.map fun d : Nat => ((d * turnsF d L : Nat) : Int)).sum = (((l.map fun d => d * turnsF d L).sum : Nat) : Int) := fun l => by
          induction l with
          | nil => rfl
          | cons d l ih => rw [List.map_cons, List.sum_cons, List.map_cons, List.sum_cons, ih, Int.natCast_add]
        rw [es]
        exact q H3 (sm.trans sm3)
theorem ok_waysC {f : Addr} {fd : FuncData} (DT : Dfn P w K mg base 2 "turns_count" ["size", "length"] spTurns) (F : L2.Fun K "ways_count" "ways_count" sWaysC f fd) : FnOk P w K mg base L2.CX0 3 f fd ["length", "nodes"] (fun vs H Q _ => ∃ s L : Nat, vs = [.int (L : Int), .int (s : Int)] ∧ 1 ≤ s ∧ s ≤ 14 ∧ L ≤ 1000 ∧ ∀ H', Same H H' → Q (.int (turnsF s L : Nat)) H') := by
  refine F.ok scWaysC (fun vs H Q E h => ?_) (fun cdv A outer s H vs Q E hr h => ?_)
  · obtain ⟨s, L, rfl, _⟩ := h
    rfl
  · obtain ⟨s, L, rfl, s1, s14, lL, q⟩ := h
    exact ⟨_, pss_one (ps_ret (pe_d DT hr (by decide) (by rfl) (pa_cons (pv 1) (pa_cons (pv 0) pa_nil)))), .int (s : Int), rfl, .int (L : Int), rfl, s, L, rfl, s1, s14, lL, q⟩
end
end Pf
namespace Pf
open PySem PySem.Spec PyProof.Rows L2 Gk RZ
abbrev sClosed : Stmt := topS 11
abbrev nClosed : List Str := ["_law_size", "_law_many", "_law_found", "_law_first", "_law_waiting", "_law_walked", "_law_here", "_law_deed", "_law_later"]
theorem scClosed : FnScope nClosed ["_law_size", "_law_many"] (defScope sClosed) := ⟨rfl, rfl, rfl, by decide +kernel, rfl, by decide +kernel, by decide +kernel⟩
/-! ### closed walks, step by step -/
abbrev WS := Nat × List (List Nat × Nat)
def stepD (S many first : Nat) (walked : List Nat) (here : Nat) (fs : WS) (deed : Nat) : WS :=
  let later := (2 * here + deed) % 2 ^ S
  if later = first ∧ walked.length = many then (fs.1 + 1, fs.2)
  else if first < later ∧ later ∉ walked ∧ walked.length < many then (fs.1, fs.2 ++ [(walked ++ [later], later)])
  else fs
def popC (S many first : Nat) (fs : WS) : WS := match fs.2.getLast? with
  | none => fs
  | some (w, h) => stepD S many first w h (stepD S many first w h (fs.1, fs.2.dropLast) 0) 1
def itC (S many first : Nat) : Nat → WS → WS
  | 0, fs => fs
  | k + 1, fs => popC S many first (itC S many first k fs)
def stepsD (S many first : Nat) (w : List Nat) (h : Nat) : Nat → WS → WS
  | 0, fs => fs
  | j + 1, fs => stepD S many first w h (stepsD S many first w h j fs) j
theorem itC_stuck {S many first : Nat} {fs : WS} {k : Nat} (e : (itC S many first k fs).2 = []) : ∀ j, itC S many first (k + j) fs = itC S many first k fs
  | 0 => rfl
  | j + 1 => by
    show popC S many first (itC S many first (k + j) fs) = _
    rw [itC_stuck e j]
    unfold popC
    rw [e]
    rfl
theorem pop_steps {S many first : Nat} {fs : WS} {p : List Nat × Nat} (e : fs.2.getLast? = some p) : popC S many first fs = stepsD S many first p.1 p.2 2 (fs.1, fs.2.dropLast) := by
  unfold popC
  rw [e]
  rfl
def closedF (S many : Nat) : Nat := (List.range (2 ^ S)).foldl (fun f first => (itC S many first 300 (f, [([first], first)])).1) 0
theorem ends : ∀ S, S < 4 → ∀ many, many < 12 → ∀ first, first < 2 ^ (S + 1) → (itC (S + 1) (many + 1) first 300 (0, [([first], first)])).2 = [] := by decide +kernel
theorem stepD_snd (S many first : Nat) (w : List Nat) (h f g : Nat) (st : List (List Nat × Nat)) (d : Nat) : (stepD S many first w h (f, st) d).2 = (stepD S many first w h (g, st) d).2 := by
  unfold stepD
  dsimp only
  split
  · rfl
  · split <;> rfl
theorem stepD_eta (S many first : Nat) (w : List Nat) (h : Nat) (fs gs : WS) (e : fs.2 = gs.2) (d : Nat) : (stepD S many first w h fs d).2 = (stepD S many first w h gs d).2 := by
  obtain ⟨f, st⟩ := fs
  obtain ⟨g, tt⟩ := gs
  have e : st = tt := e
  subst e
  exact stepD_snd _ _ _ _ _ _ _ _ _
theorem popC_snd (S many first : Nat) (fs gs : WS) (e : fs.2 = gs.2) : (popC S many first fs).2 = (popC S many first gs).2 := by
  unfold popC
  rw [e]
  cases gs.2.getLast? with
  | none => exact e
  | some p =>
    obtain ⟨w, h⟩ := p
    exact stepD_eta S many first w h _ _ (stepD_eta S many first w h (fs.1, gs.2.dropLast) (gs.1, gs.2.dropLast) rfl 0) 1
theorem itC_snd (S many first : Nat) (fs gs : WS) (e : fs.2 = gs.2) : ∀ k, (itC S many first k fs).2 = (itC S many first k gs).2
  | 0 => e
  | k + 1 => popC_snd _ _ _ _ _ (itC_snd S many first fs gs e k)
theorem stepD_len (S many first : Nat) (w : List Nat) (h : Nat) (fs : WS) (d : Nat) : (stepD S many first w h fs d).2.length ≤ fs.2.length + 1 := by
  unfold stepD
  dsimp only
  split
  · exact Nat.le_succ _
  · split
    · rw [List.length_append]; exact Nat.le_refl _
    · exact Nat.le_succ _
theorem popC_len (S many first : Nat) (fs : WS) : (popC S many first fs).2.length ≤ fs.2.length + 1 := by
  unfold popC
  cases h : fs.2.getLast? with
  | none => exact Nat.le_succ _
  | some p =>
    have h1 := stepD_len S many first p.1 p.2 (stepD S many first p.1 p.2 (fs.1, fs.2.dropLast) 0) 1
    have h2 := stepD_len S many first p.1 p.2 (fs.1, fs.2.dropLast) 0
    have h3 : fs.2.dropLast.length = fs.2.length - 1 := List.length_dropLast ..
    have ne : fs.2 ≠ [] := fun z => by rw [z] at h; cases h
    have h4 : 1 ≤ fs.2.length := List.length_pos_iff.mpr ne
    show (stepD S many first p.1 p.2 (stepD S many first p.1 p.2 (fs.1, fs.2.dropLast) 0) 1).2.length ≤ _
    have h5 : (fs.1, fs.2.dropLast).2.length = fs.2.dropLast.length := rfl
    omega
theorem itC_len (S many first f : Nat) (p : List Nat × Nat) : ∀ k, (itC S many first k (f, [p])).2.length ≤ k + 1
  | 0 => Nat.le_refl _
  | k + 1 => by
    have h1 := popC_len S many first (itC S many first k (f, [p]))
    have h2 := itC_len S many first f p k
    show (popC S many first (itC S many first k (f, [p]))).2.length ≤ _
    omega
/-- what waits: short walks -/
def Short (many : Nat) (st : List (List Nat × Nat)) : Prop := ∀ p ∈ st, p.1.length ≤ many ∧ p.2 < 10000
theorem stepD_short {S many first : Nat} {w : List Nat} {h : Nat} {fs : WS} {d : Nat} (hS : S ≤ 4) (hf : Short many fs.2) (hw : w.length ≤ many) : Short many (stepD S many first w h fs d).2 := by
  unfold stepD
  dsimp only
  have p4 : (2 : Nat) ^ S ≤ 2 ^ 4 := Nat.pow_le_pow_right (by decide) hS
  have p0 : 0 < (2 : Nat) ^ S := Nat.pos_of_ne_zero (by have := Nat.one_le_two_pow (n := S); omega)
  have c16 : (2 : Nat) ^ 4 = 16 := rfl
  have m := Nat.mod_lt (2 * h + d) p0
  split
  · exact hf
  · split
    · rename_i c
      intro p hp
      rcases List.mem_append.mp hp with hp | hp
      · exact hf p hp
      · rw [List.mem_singleton.mp hp]
        refine ⟨?_, by show (2 * h + d) % 2 ^ S < 10000; omega⟩
        show (w ++ [(2 * h + d) % 2 ^ S]).length ≤ many
        rw [List.length_append]
        show w.length + 1 ≤ many
        omega
    · exact hf
theorem popC_short {S many first : Nat} {fs : WS} (hS : S ≤ 4) (hf : Short many fs.2) : Short many (popC S many first fs).2 := by
  unfold popC
  cases h : fs.2.getLast? with
  | none => exact hf
  | some p =>
    have hp := hf p (List.mem_of_getLast? h)
    have hd : Short many (fs.1, fs.2.dropLast).2 := fun q hq => hf q (by
      have hq : q ∈ fs.2.dropLast := hq
      rw [List.dropLast_eq_take] at hq
      exact List.mem_of_mem_take hq)
    exact stepD_short hS (stepD_short hS hd hp.1) hp.1
theorem itC_short {S many first f : Nat} (hS : S ≤ 4) (hm : 1 ≤ many) (hf : first < 10000) : ∀ k, Short many (itC S many first k (f, [([first], first)])).2
  | 0 => fun p hp => by
    rw [List.mem_singleton.mp hp]
    exact ⟨hm, hf⟩
  | k + 1 => popC_short hS (itC_short hS hm hf k)
/-! ### the stack in memory -/
theorem SqT.put {K : PySem.W.Frag} {H : Hp} {a D : Addr} {xs ys zs : List V} (h : SqT K H a xs) (e : H D = some (.lst ys)) : SqT K (upd H D (.lst zs)) a xs := by
  rcases h with (h | ⟨o, h⟩) | h
  · exact .inl (.inl (by rw [upd_ne (ne_of h e (fun z => HO.noConfusion z))]; exact h))
  · exact .inl (.inr ⟨o, by rw [upd_ne (ne_of h e (fun z => HO.noConfusion z))]; exact h⟩)
  · exact .inr h
def Ent1 (K : PySem.W.Frag) (H : Hp) (x : V) (p : List Nat × Nat) : Prop := ∃ a b, x = .ref a ∧ SqT K H a [.ref b, .int (p.2 : Int)] ∧ SqT K H b (p.1.map fun n : Nat => V.int (n : Int))
def Stk (K : PySem.W.Frag) (H : Hp) : List V → List (List Nat × Nat) → Prop
  | [], [] => True
  | x :: xs, p :: st => Ent1 K H x p ∧ Stk K H xs st
  | _, _ => False
theorem Ent1.keep {K : PySem.W.Frag} {H H' : Hp} {x : V} {p : List Nat × Nat} (k : Keep K H H') (h : Ent1 K H x p) : Ent1 K H' x p := by
  obtain ⟨a, b, e, h1, h2⟩ := h
  exact ⟨a, b, e, k _ _ h1, k _ _ h2⟩
theorem Stk.keep {K : PySem.W.Frag} {H H' : Hp} (k : Keep K H H') : ∀ {xs : List V} {st : List (List Nat × Nat)}, Stk K H xs st → Stk K H' xs st
  | [], [], _ => trivial
  | _ :: _, _ :: _, h => ⟨h.1.keep k, Stk.keep k h.2⟩
theorem Stk.len {K : PySem.W.Frag} {H : Hp} : ∀ {xs : List V} {st : List (List Nat × Nat)}, Stk K H xs st → xs.length = st.length
  | [], [], _ => rfl
  | _ :: _, _ :: _, h => by rw [List.length_cons, List.length_cons, Stk.len h.2]
theorem Stk.snoc {K : PySem.W.Frag} {H : Hp} {x : V} {p : List Nat × Nat} (h1 : Ent1 K H x p) : ∀ {xs : List V} {st : List (List Nat × Nat)}, Stk K H xs st → Stk K H (xs ++ [x]) (st ++ [p])
  | [], [], _ => ⟨h1, trivial⟩
  | _ :: _, _ :: _, h => ⟨h.1, Stk.snoc h1 h.2⟩
theorem Stk.last {K : PySem.W.Frag} {H : Hp} : ∀ {xs : List V} {st : List (List Nat × Nat)}, Stk K H xs st → st ≠ [] → ∃ x p, xs[xs.length - 1]? = some x ∧ st.getLast? = some p ∧ Ent1 K H x p ∧ Stk K H xs.dropLast st.dropLast
  | [x], [p], h, _ => ⟨x, p, rfl, rfl, h.1, trivial⟩
  | x :: y :: xs, p :: q :: st, h, _ => by
    obtain ⟨z, r, e1, e2, e3, e4⟩ := Stk.last h.2 (List.cons_ne_nil _ _)
    refine ⟨z, r, ?_, ?_, e3, ?_⟩
    · simpa using e1
    · rw [List.getLast?_cons_cons]; exact e2
    · rw [List.dropLast_cons₂, List.dropLast_cons₂]
      exact ⟨h.1, e4⟩
  | [_], _ :: _ :: _, h, _ => h.2.elim
  | _ :: _ :: _, [_], h, _ => h.2.elim
  | [], [], _, h => absurd rfl h
/-- as data -/
def entD (p : List Nat × Nat) : PyData := .tuple [.tuple (p.1.map fun n : Nat => PyData.int (n : Int)), .int (p.2 : Int)]
theorem dpn {K : PySem.W.Frag} {H : Hp} : ∀ l : List Nat, DpAll K H (l.map fun n : Nat => V.int (n : Int)) (l.map fun n : Nat => PyData.int (n : Int))
  | [] => .nil
  | n :: l => .cons (.int _) (dpn l)
theorem Stk.dp {K : PySem.W.Frag} {H : Hp} : ∀ {xs : List V} {st : List (List Nat × Nat)}, Stk K H xs st → DpAll K H xs (st.map entD)
  | [], [], _ => .nil
  | _ :: _, p :: _, h => by
    obtain ⟨a, b, e, h1, h2⟩ := h.1
    subst e
    exact .cons (.tup h1 (.cons (.tup h2 (dpn _)) (.cons (.int _) .nil))) (Stk.dp h.2)
theorem lay_nats : ∀ l : List Nat, PyData.canLayAll0 (l.map fun n : Nat => PyData.int (n : Int)) = true ∧ PyData.depthAll (l.map fun n : Nat => PyData.int (n : Int)) ≤ 1
  | [] => ⟨rfl, Nat.zero_le _⟩
  | n :: l => by
    obtain ⟨h1, h2⟩ := lay_nats l
    refine ⟨?_, ?_⟩
    · simp only [List.map_cons, PyData.canLayAll0, PyData.canLay0, h1, Bool.and_self]
    · simp only [List.map_cons, PyData.depthAll, PyData.depth]
      omega
theorem lay_ent (p : List Nat × Nat) : PyData.canLay0 (entD p) = true ∧ PyData.depth (entD p) ≤ 10 := by
  obtain ⟨h1, h2⟩ := lay_nats p.1
  refine ⟨?_, ?_⟩
  · simp only [entD, PyData.canLay0, PyData.canLayAll0, h1, Bool.and_self]
  · simp only [entD, PyData.depth, PyData.depthAll]
    omega
theorem shaped_st (st : List (List Nat × Nat)) : SeqAt.shaped (.list (st.map entD)) = true := by
  have : PyData.canLayAll0 (st.map entD) = true ∧ PyData.depthAll (st.map entD) ≤ 10 := by
    induction st with
    | nil => exact ⟨rfl, Nat.zero_le _⟩
    | cons p st ih =>
      obtain ⟨h1, h2⟩ := lay_ent p
      obtain ⟨i1, i2⟩ := ih
      refine ⟨?_, ?_⟩
      · simp only [List.map_cons, PyData.canLayAll0, h1, i1, Bool.and_self]
      · simp only [List.map_cons, PyData.depthAll]
        omega
  obtain ⟨h1, h2⟩ := this
  unfold SeqAt.shaped
  rw [Bool.and_eq_true]
  refine ⟨h1, ?_⟩
  rw [decide_eq_true_eq]
  show PyData.depthAll (st.map entD) + 1 ≤ 64
  omega
theorem eqv_nil {ds : List PyData} : PyData.eqv (.list ds) (.list []) = decide (ds = []) := by
  cases ds with
  | nil => rfl
  | cons d ds => rfl
theorem inV_nats (a : Nat) (l : List Nat) : inV (.int (a : Int)) (l.map fun n : Nat => V.int (n : Int)) = decide (a ∈ l) := by
  unfold inV
  rw [List.any_map, Bool.eq_iff_iff, List.any_eq_true, decide_eq_true_eq]
  constructor
  · rintro ⟨n, hn, e⟩
    have e : decide ((n : Int) = (a : Int)) = true := e
    have : n = a := by have := of_decide_eq_true e; omega
    rw [← this]; exact hn
  · intro h
    exact ⟨a, h, by show decide ((a : Int) = (a : Int)) = true; simp⟩
end Pf
namespace Pf
open PySem PySem.Spec PyProof.Rows L2 Gk RZ
section
variable {P : Program} {w : World} {K : PySem.W.Frag} {mg : Str → Option Value} {base : Heap}
def spClosed : Sp := fun vs H Q _ => ∃ S many : Nat, vs = [.int (S : Int), .int (many : Int)] ∧ 1 ≤ S ∧ S ≤ 4 ∧ 1 ≤ many ∧ many ≤ 12 ∧ ∀ H', Same H H' → Q (.int (closedF S many : Nat)) H'
theorem ok_closed {f : Addr} {fd : FuncData} {k : Nat} (mr : mg "range" = none) (ml : mg "len" = none) (F : L2.Fun K "_law_closed" "_law_closed" sClosed f fd) : FnOk P w K mg base L2.CX0 (k + 1) f fd ["_law_size", "_law_many"] spClosed := by
  refine F.ok scClosed (fun vs H Q E h => ?_) (fun cdv A outer s H vs Q E hr h => ?_)
  · obtain ⟨S, many, rfl, _⟩ := h
    rfl
  · obtain ⟨S, many, rfl, S1, S4, m1, m12, q⟩ := h
    refine ⟨_, pss_cons (ps_set (i := 2) scClosed.nd rfl (.inl rfl) pe_int)
      (pss_cons (ps_for PassesOwn.never rfl (pi_range1 rfl mr (pa_cons (pe_op op_oneShl pe_int (pv 0)) pa_nil)) (pg_name (i := 3) scClosed.nd rfl (.inl rfl))
        (pss_cons (ps_set (i := 4) scClosed.nd rfl (.inl rfl) (pe_lst (pa_cons (pe_tup (pa_cons (pe_tup (pa_cons (pv 3) pa_nil)) (pa_cons (pv 3) pa_nil))) pa_nil)))
        (pss_one (ps_while PassesOwn.never (pt_mid (pt_cmpR (op_neD hr.units) (pv 4) (pe_lst pa_nil) (nomark _)))
          (pss_cons (ps_asg (pe_bm0 PySem.F.plainAttrs_list PySem.F.slot_list_pop PySem.F.type_list_pop mt_pop (pv 4)) (pg_tup (by rfl) (pgs_cons (pg_name (i := 5) scClosed.nd rfl (.inl rfl)) (pgs_cons (pg_name (i := 6) scClosed.nd rfl (.inl rfl)) pgs_nil))))
          (pss_one (ps_for PassesOwn.never rfl (pi_tup (pe_tup (pa_cons pe_int (pa_cons pe_int pa_nil)))) (pg_name (i := 7) scClosed.nd rfl (.inl rfl))
            (pss_cons (ps_set (i := 8) scClosed.nd rfl (.inl rfl) (pe_op op_mod (pe_op op_add (pe_op op_mul pe_int (pv 6)) (pv 7)) (pe_op op_oneShl pe_int (pv 0))))
            (pss_one (ps_if (pt_mid (PW.pt (pw_and (pt_cmpR op_eq (pv 8) (pv 3) (nomark _)) (pw_and1 (pt_cmpR op_eq (pe_callB call_len_seq (by rfl) ml PySem.boot_len (pa_cons (pv 5) pa_nil)) (pv 1) (nomark _))))))
              (pss_one (ps_set (i := 2) scClosed.nd rfl (.inl rfl) (pe_op op_add (pv 2) pe_int)))
              (pss_one (ps_if (pt_mid (PW.pt (pw_and (pt_cmpR op_gt (pv 8) (pv 3) (nomark _)) (pw_and (pt_cmpR op_notIn_seq (pv 8) (pv 5) (by rfl)) (pw_and1 (pt_cmpR op_lt (pe_callB call_len_seq (by rfl) ml PySem.boot_len (pa_cons (pv 5) pa_nil)) (pv 1) (nomark _)))))))
                (pss_one (ps_expr (pe_bm PySem.F.plainAttrs_list PySem.F.slot_list_append PySem.F.type_list_append mt_append (pv 4) (pa_cons (pe_tup (pa_cons (pe_op op_catU (pv 5) (pe_tup (pa_cons (pv 8) pa_nil))) (pa_cons (pv 8) pa_nil))) pa_nil)))) pss_nil))))))))))))
      (pss_one (ps_ret (pv 2)))), ?_⟩
    have p4 : (2 : Nat) ^ S ≤ 2 ^ 4 := Nat.pow_le_pow_right (by decide) S4
    have p0 : 0 < (2 : Nat) ^ S := Nat.pos_of_ne_zero (by have := Nat.one_le_two_pow (n := S); omega)
    have c16 : (2 : Nat) ^ 4 = 16 := rfl
    have hs : sizeLine = 16777216 := sizeLine_eq
    have e2 : ((2 : Int) ^ S) = ((2 ^ S : Nat) : Int) := by rw [Int.natCast_pow]; rfl
    have pz : (0 : Int) < 2 ^ S := Int.pow_pos (by decide)
    have pu : (2 : Int) ^ S ≤ 16 := by rw [e2]; exact Int.ofNat_le.mpr p4
    refine ⟨.int (S : Int), rfl, S, rfl, rfl, by omega, _, rfl, by omega, by omega, ?_⟩
    refine for_range (lo := 0) (n := ((2 : Int) ^ S).toNat) (fun i σ H' => Same H H' ∧ ∃ y3 y4 y5 y6 y7 y8, σ = [some (.int (S : Int)), some (.int (many : Int)), some (.int (((List.range i).foldl (fun f first => (itC S many first 300 (f, [([first], first)])).1) 0 : Nat) : Int)), y3, y4, y5, y6, y7, y8]) ⟨Same.refl H, none, none, none, none, none, none, rfl⟩ (fun i σ H1 hi hp => ?_) (fun σ H1 hp => ?_)
    · obtain ⟨sm, y3, y4, y5, y6, y7, y8, rfl⟩ := hp
      have hi : i < 2 ^ S := by rw [e2] at hi; exact hi
      have fold1 : (List.range (i + 1)).foldl (fun f first => (itC S many first 300 (f, [([first], first)])).1) 0 = (itC S many i 300 ((List.range i).foldl (fun f first => (itC S many first 300 (f, [([first], first)])).1) 0, [([i], i)])).1 := by
        rw [List.range_succ, List.foldl_append]
        rfl
      rw [fold1]
      generalize (List.range i).foldl (fun f first => (itC S many first 300 (f, [([first], first)])).1) 0 = f0
      rw [show (0 + ((i : Nat) : Int)) = ((i : Nat) : Int) by omega]
      refine ⟨.int (i : Nat), rfl, by show 1 ≤ sizeLine; omega, fun b nb => ⟨.int (i : Nat), rfl, by show 2 ≤ sizeLine; omega, fun a na => ⟨by show 1 ≤ sizeLine; omega, fun T nT => ?_⟩⟩⟩
      have s3 : Same H1 (upd (upd (upd H1 b (.tup [.int (i : Int)])) a (.tup [.ref b, .int (i : Int)])) T (.lst [.ref a])) := ((same_new nb).trans (same_new na)).trans (same_new nT)
      have hb3 : SqT K (upd (upd (upd H1 b (.tup [.int (i : Int)])) a (.tup [.ref b, .int (i : Int)])) T (.lst [.ref a])) b [.int (i : Int)] := Same.seqT ((same_new na).trans (same_new nT)) (SqT.of upd_same)
      have ha3 : SqT K (upd (upd (upd H1 b (.tup [.int (i : Int)])) a (.tup [.ref b, .int (i : Int)])) T (.lst [.ref a])) a [.ref b, .int (i : Int)] := Same.seqT (same_new nT) (SqT.of upd_same)
      have hT3 : (upd (upd (upd H1 b (.tup [.int (i : Int)])) a (.tup [.ref b, .int (i : Int)])) T (.lst [.ref a])) T = some (.lst [.ref a]) := upd_same
      have nT1 : H1 T = none := none_of ((same_new nb).trans (same_new na)) nT
      generalize (upd (upd (upd H1 b (.tup [.int (i : Int)])) a (.tup [.ref b, .int (i : Int)])) T (.lst [.ref a])) = H3 at s3 hb3 ha3 hT3
      have st0 : Stk K H3 [.ref a] [([i], i)] := ⟨⟨a, b, rfl, ha3, hb3⟩, trivial⟩
      clear hb3 ha3 na nb nT
      have endS := itC_snd S many i (f0, [([i], i)]) (0, [([i], i)]) rfl 300
      have endE : (itC S many i 300 (f0, [([i], i)])).2 = [] := by
        rw [endS]
        have := ends (S - 1) (by omega) (many - 1) (by omega) i (by rw [show S - 1 + 1 = S by omega]; exact hi)
        rwa [show S - 1 + 1 = S by omega, show many - 1 + 1 = many by omega] at this
      refine ⟨fun m σ G => ∃ (k : Nat) (xs : List V) (y5 y6 y7 y8 : Option V), m = 300 - k ∧ k ≤ 300 ∧ σ = [some (.int (S : Int)), some (.int (many : Int)), some (.int (((itC S many i k (f0, [([i], i)])).1 : Nat) : Int)), some (.int (i : Int)), some (.ref T), y5, y6, y7, y8] ∧ Same H1 G ∧ G T = some (.lst xs) ∧ Stk K G xs (itC S many i k (f0, [([i], i)])).2,
        ⟨300, 0, [.ref a], y5, y6, y7, y8, rfl, by decide, rfl, s3, hT3, st0⟩, fun m σ G hpv => ?_⟩
      obtain ⟨k, xs, y5, y6, y7, y8, rfl, k3, rfl, sG, hT, stG⟩ := hpv
      refine ⟨fun u G2 => u = (!decide ((itC S many i k (f0, [([i], i)])).2 = [])) ∧ Same G G2, ?_, fun u G2 hu => ?_⟩
      · refine ⟨.ref T, rfl, by show 0 ≤ sizeLine; omega, fun d nd => ⟨.list ((itC S many i k (f0, [([i], i)])).2.map entD), .list [], .lst (SqL.of (same_new nd _ _ hT)) (Stk.keep (Same.keep (same_new nd)) stG).dp, .lst (SqL.of upd_same) .nil, shaped_st _, by decide, _, rfl, ?_, same_new nd⟩⟩
        rw [eqv_nil]
        simp
      · obtain ⟨rfl, s2⟩ := hu
        by_cases em : (itC S many i k (f0, [([i], i)])).2 = []
        · rw [if_neg (by simp [em])]
          have stuck := itC_stuck em (300 - k)
          rw [show k + (300 - k) = 300 by omega] at stuck
          rw [stuck]
          refine ⟨sm.trans (sG.trans s2), _, _, _, _, _, _, rfl⟩
        · rw [if_pos (by simp [em])]
          have k300 : k ≠ 300 := fun z => em (by rw [z]; exact endE)
          refine ⟨fun σ' G' => ∃ (xs : List V) (y5 y6 y7 y8 : Option V), σ' = [some (.int (S : Int)), some (.int (many : Int)), some (.int (((itC S many i (k + 1) (f0, [([i], i)])).1 : Nat) : Int)), some (.int (i : Int)), some (.ref T), y5, y6, y7, y8] ∧ Same H1 G' ∧ G' T = some (.lst xs) ∧ Stk K G' xs (itC S many i (k + 1) (f0, [([i], i)])).2, fun σ' G' ⟨xs, z5, z6, z7, z8, e, h1, h2, h3⟩ => ⟨300 - (k + 1), by omega, k + 1, xs, z5, z6, z7, z8, rfl, by omega, e, h1, h2, h3⟩, ?_⟩
          have hT2 := s2 _ _ hT
          have st2 := Stk.keep (Same.keep s2) stG
          obtain ⟨x, p, gx, gp, ex, st3⟩ := Stk.last st2 em
          obtain ⟨a2, b2, rfl, ha2, hb2⟩ := ex
          have sh := itC_short (f := f0) S4 m1 (show i < 10000 by omega) k p (List.mem_of_getLast? gp)
          have now : itC S many i (k + 1) (f0, [([i], i)]) = stepsD S many i p.1 p.2 2 ((itC S many i k (f0, [([i], i)])).1, (itC S many i k (f0, [([i], i)])).2.dropLast) := pop_steps gp
          have len0 : (itC S many i k (f0, [([i], i)])).2.dropLast.length ≤ 400 := by
            have := itC_len S many i f0 ([i], i) k
            rw [List.length_dropLast]
            omega
          rw [now]
          generalize itC S many i k (f0, [([i], i)]) = fs at *
          have ka : Keep K G2 (upd G2 T (.lst xs.dropLast)) := fun _ _ h => SqT.put h hT2
          refine ⟨.ref T, rfl, .inl ⟨rfl, _, SqL.of hT2⟩, T, xs, _, rfl, rfl, hT2, gx, a2, _, rfl, ka _ _ ha2, rfl, _, _, rfl, _, _, rfl, rfl, ?_⟩
          have hT3 : (upd G2 T (.lst xs.dropLast)) T = some (.lst xs.dropLast) := upd_same
          have s13 : Same H1 (upd G2 T (.lst xs.dropLast)) := fun x o h => by
            rw [upd_ne (ne_of_none h nT1)]
            exact s2 _ _ (sG _ _ h)
          have hb3 := ka _ _ hb2
          have st4 := Stk.keep ka st3
          generalize upd G2 T (.lst xs.dropLast) = G3 at hT3 s13 hb3 st4
          refine ⟨by show 2 ≤ sizeLine; omega, fun c nc => ⟨c, rfl, ⟨_, .inl (.inl upd_same)⟩, ?_⟩⟩
          have hc : SqT K (upd G3 c (.tup [.int 0, .int 1])) c [.int 0, .int 1] := .inl (.inl upd_same)
          have s34 := same_new (o := .tup [.int 0, .int 1]) nc
          have hT4 := s34 _ _ hT3
          have s14 := s13.trans s34
          have hb4 := Same.keep s34 _ _ hb3
          have st5 := Stk.keep (Same.keep s34) st4
          refine for_tup (K := K) (a := c) (xs := [.int 0, .int 1]) (fun j σ G => ∃ (xs : List V) (y7 y8 : Option V), σ = [some (.int (S : Int)), some (.int (many : Int)), some (.int (((stepsD S many i p.1 p.2 j (fs.1, fs.2.dropLast)).1 : Nat) : Int)), some (.int (i : Int)), some (.ref T), some (.ref b2), some (.int (p.2 : Int)), y7, y8] ∧ Same H1 G ∧ G T = some (.lst xs) ∧ Stk K G xs (stepsD S many i p.1 p.2 j (fs.1, fs.2.dropLast)).2 ∧ (stepsD S many i p.1 p.2 j (fs.1, fs.2.dropLast)).2.length ≤ 400 + j ∧ SqT K G b2 (p.1.map fun n : Nat => V.int (n : Int)) ∧ SqT K G c [.int 0, .int 1])
            ⟨_, _, _, rfl, s14, hT4, st5, len0, hb4, hc⟩ (fun j σ G _ ⟨_, _, _, _, _, _, _, _, _, h⟩ => h) (fun j x σ G5 hx hp => ?_) (fun σ G5 ⟨xs, z7, z8, e, h1, h2, h3, _⟩ => ⟨xs, _, _, z7, z8, e, h1, h2, h3⟩)
          obtain ⟨xs5, z7, z8, rfl, s15, hT5, st6, len5, hb5, hc5⟩ := hp
          have hj : j < 2 ∧ x = .int (j : Int) := by
            match j, hx with
            | 0, hx => exact ⟨by decide, (Option.some.inj hx).symm⟩
            | 1, hx => exact ⟨by decide, (Option.some.inj hx).symm⟩
          obtain ⟨j2, rfl⟩ := hj
          have nowj : stepsD S many i p.1 p.2 (j + 1) (fs.1, fs.2.dropLast) = stepD S many i p.1 p.2 (stepsD S many i p.1 p.2 j (fs.1, fs.2.dropLast)) j := rfl
          rw [nowj]
          generalize stepsD S many i p.1 p.2 j (fs.1, fs.2.dropLast) = ws at *
          have lat : ((2 : Int) * (p.2 : Int) + (j : Int)) % 2 ^ S = (((2 * p.2 + j) % 2 ^ S : Nat) : Int) := by
            rw [e2, Int.natCast_emod]
            rfl
          refine ⟨.int (p.2 : Int), rfl, _, _, rfl, rfl, .inl ⟨by decide, by decide⟩, .int (j : Int), rfl, _, _, rfl, rfl, .int (S : Int), rfl, S, rfl, rfl, by omega, _, _, rfl, rfl, pz, ?_⟩
          unfold stepD
          dsimp only [gName, List.set]
          rw [lat]
          generalize (2 * p.2 + j) % 2 ^ S = later
          have deci : ∀ a b : Nat, decide (V.int (a : Int) = V.int (b : Int)) = decide (a = b) := fun a b => by
            rw [Bool.eq_iff_iff, decide_eq_true_eq, decide_eq_true_eq]
            exact ⟨fun z => Int.ofNat.inj (V.int.inj z), fun z => by rw [z]⟩
          refine ⟨fun u G2 => G2 = G5 ∧ u = decide (later = i ∧ p.1.length = many), ?_, fun u G6 hu => ?_⟩
          · refine ⟨.int (later : Int), rfl, .int (i : Int), rfl, rfl, _, rfl, ite2 (fun e => ?_) (fun e => ?_)⟩
            · rw [deci] at e
              refine ⟨.ref b2, rfl, b2, _, rfl, .inr hb5, .int (many : Int), rfl, rfl, _, rfl, rfl, ?_⟩
              rw [List.length_map, deci]
              simp [of_decide_eq_true e]
            · rw [deci] at e
              refine ⟨rfl, ?_⟩
              have : ¬ later = i := fun z => e (decide_eq_true z)
              simp [this]
          obtain ⟨rfl, rfl⟩ := hu
          by_cases c1 : later = i ∧ p.1.length = many
          · rw [decide_eq_true c1, if_pos c1]
            refine iteT ?_
            refine ⟨.int (ws.1 : Nat), rfl, _, _, rfl, rfl, xs5, some (.int (j : Int)), some (.int (later : Int)), ?_, s15, hT5, st6, by show ws.2.length ≤ _; omega, hb5, hc5⟩
            rfl
          rw [decide_eq_false c1, if_neg c1]
          refine iteF ?_
          refine ⟨fun u G2 => G2 = G6 ∧ u = decide (i < later ∧ later ∉ p.1 ∧ p.1.length < many), ?_, fun u G7 hu => ?_⟩
          · refine ⟨.int (later : Int), rfl, .int (i : Int), rfl, _, _, rfl, rfl, _, rfl, ite2 (fun e => ?_) (fun e => ?_)⟩
            · have e : i < later := by have := of_decide_eq_true e; omega
              refine ⟨.int (later : Int), rfl, .ref b2, rfl, b2, _, rfl, .inr hb5, rfl, by rw [List.all_map]; exact List.all_eq_true.mpr fun _ _ => rfl, _, rfl, ite2 (fun e2 => ?_) (fun e2 => ?_)⟩
              · rw [if_pos rfl, inV_nats] at e2
                have e2 : later ∉ p.1 := by simpa using e2
                refine ⟨.ref b2, rfl, b2, _, rfl, .inr hb5, .int (many : Int), rfl, _, _, rfl, rfl, _, rfl, rfl, ?_⟩
                rw [List.length_map]
                simp [e, e2]
              · rw [if_pos rfl, inV_nats] at e2
                have e2 : later ∈ p.1 := by simpa using e2
                exact ⟨rfl, by simp [e2]⟩
            · have e : ¬ i < later := fun z => e (decide_eq_true (by omega))
              exact ⟨rfl, by simp [e]⟩
          obtain ⟨rfl, rfl⟩ := hu
          by_cases c2 : i < later ∧ later ∉ p.1 ∧ p.1.length < many
          · rw [decide_eq_true c2, if_pos c2]
            refine iteT ?_
            have lx : xs5.length = ws.2.length := st6.len
            refine ⟨.ref T, rfl, .inl ⟨rfl, _, SqL.of hT5⟩, .ref b2, rfl, .int (later : Int), rfl, by show 1 ≤ sizeLine; omega, fun e ne => ⟨b2, e, _, _, rfl, rfl, Same.keep (same_new ne) _ _ hb5, .inl (.inl upd_same), ?_, fun g H8 s8 hg => ⟨.int (later : Int), rfl, by show 2 ≤ sizeLine; omega, fun t nt => ⟨T, xs5, .ref t, rfl, rfl, same_new nt _ _ (s8 _ _ (same_new ne _ _ hT5)), by omega, ?_⟩⟩⟩⟩
            · rw [List.length_map]
              show p.1.length + 1 ≤ _
              omega
            have s9 := ((same_new ne).trans s8).trans (same_new (o := .tup [.ref g, .int (later : Int)]) nt)
            have hT9 := s9 _ _ hT5
            have kT : Keep K _ (upd (upd H8 t (.tup [.ref g, .int (later : Int)])) T (.lst (xs5 ++ [.ref t]))) := fun _ _ h => SqT.put h hT9
            refine ⟨xs5 ++ [.ref t], some (.int (j : Int)), some (.int (later : Int)), rfl, fun x o h => ?_, upd_same, ?_, ?_, kT _ _ (Same.keep s9 _ _ hb5), kT _ _ (Same.keep s9 _ _ hc5)⟩
            · rw [upd_ne (ne_of_none h nT1)]
              exact s9 _ _ (s15 _ _ h)
            · refine Stk.snoc ⟨t, g, rfl, kT _ _ (.inl (.inl upd_same)), kT _ _ (Same.keep (same_new nt) _ _ ?_)⟩ (Stk.keep kT (Stk.keep (Same.keep s9) st6))
              rw [List.map_append]
              exact hg
            · show (ws.2 ++ [(p.1 ++ [later], later)]).length ≤ _
              rw [List.length_append]
              show _ + 1 ≤ _
              omega
          rw [decide_eq_false c2, if_neg c2]
          refine iteF ?_
          exact ⟨xs5, _, _, rfl, s15, hT5, st6, by omega, hb5, hc5⟩
    · obtain ⟨sm, y3, y4, y5, y6, y7, y8, rfl⟩ := hp
      have et : ((2 : Int) ^ S).toNat = 2 ^ S := by rw [e2]; rfl
      rw [et]
      exact ⟨_, rfl, q H1 sm⟩
end
end Pf
namespace Pf
open PySem PySem.Spec PyProof.Rows L2 Gk RZ
theorem facts_a : ∀ S, S < 4 → ∀ m, m < 12 → turnsF (m + 1) (S + 1) = closedF (S + 1) (m + 1) := by decide +kernel
theorem facts_b : ∀ m, m < 12 → countF (m + 1) 0 = 2 ∧ countF (m + 1) m = 2 ^ (m + 1) := by decide +kernel
theorem closed_low {S m : Nat} (S1 : 1 ≤ S) (S4 : S ≤ 4) (m1 : 1 ≤ m) (m12 : m ≤ 12) : turnsF m S = closedF S m := by
  have := facts_a (S - 1) (by omega) (m - 1) (by omega)
  rwa [show m - 1 + 1 = m by omega, show S - 1 + 1 = S by omega] at this
theorem facts_c {m : Nat} (m1 : 1 ≤ m) (m12 : m ≤ 12) : countF m 0 = 2 ∧ countF m (m - 1) = 2 ^ m := by
  have := facts_b (m - 1) (by omega)
  rwa [show m - 1 + 1 = m by omega] at this
theorem count_low {S m : Nat} (S1 : 1 ≤ S) (S4 : S ≤ 4) (m1 : 1 ≤ m) (m12 : m ≤ 12) : countF m S = ((parts m m).map fun d => d * closedF S d).sum := by
  unfold countF
  congr 1
  refine List.map_congr_left fun d hd => ?_
  obtain ⟨d1, d2⟩ := parts_le d hd
  rw [closed_low S1 S4 d1 (by omega)]
theorem turns_le (s L : Nat) : turnsF s L ≤ 2 ^ s := by
  unfold turnsF
  exact Nat.le_trans (List.length_filter_le _ _) (by rw [List.length_range]; exact Nat.le_refl _)
theorem sum_le {b : Nat} : ∀ l : List Nat, (∀ x ∈ l, x ≤ b) → l.sum ≤ l.length * b
  | [], _ => Nat.zero_le _
  | x :: l, h => by
    have h1 := sum_le l fun y hy => h y (List.mem_cons_of_mem _ hy)
    have h2 := h x (List.mem_cons_self ..)
    rw [List.sum_cons, List.length_cons, Nat.add_mul, Nat.one_mul]
    omega
theorem count_le {m L : Nat} (m12 : m ≤ 12) : countF m L ≤ 1000000 := by
  unfold countF
  have h1 := sum_le (b := 12 * 4096) ((parts m m).map fun d => d * turnsF d L) (fun x hx => by
    obtain ⟨d, hd, rfl⟩ := List.mem_map.mp hx
    obtain ⟨d1, d2⟩ := parts_le d hd
    have h2 := turns_le d L
    have h3 : (2 : Nat) ^ d ≤ 2 ^ 12 := Nat.pow_le_pow_right (by decide) (by omega)
    have h4 : (2 : Nat) ^ 12 = 4096 := rfl
    exact Nat.mul_le_mul (by omega) (by omega))
  rw [List.length_map] at h1
  have h5 := parts_len m m
  have h6 : (parts m m).length * (12 * 4096) ≤ 12 * (12 * 4096) := Nat.mul_le_mul_right _ (by omega)
  omega
end Pf
namespace Pf
open PySem PySem.Spec PyProof.Rows L2 Gk RZ
abbrev sLaw : Stmt := topS 12
abbrev nLaw : List Str := ["_law_script", "_law_k", "_law_box_here", "_law_size", "_law_many", "_law_due", "_law_part", "_law_walks", "_law_one"]
theorem scLaw : FnScope nLaw ["_law_script"] (defScope sLaw) := ⟨rfl, rfl, rfl, by decide +kernel, rfl, by decide +kernel, by decide +kernel⟩
theorem sum_take {f : Nat → Nat} {l : List Nat} {i d : Nat} (e : l[i]? = some d) : ((l.take (i + 1)).map f).sum = ((l.take i).map f).sum + f d := by
  rw [List.take_add_one, e, List.map_append, List.sum_append]
  rfl
theorem sum_take_le (f : Nat → Nat) : ∀ (l : List Nat) (i : Nat), ((l.take i).map f).sum ≤ (l.map f).sum
  | [], i => by rw [List.take_nil]; exact Nat.le_refl _
  | x :: l, 0 => Nat.zero_le _
  | x :: l, i + 1 => by
    have := sum_take_le f l i
    rw [List.take_succ_cons, List.map_cons, List.sum_cons, List.map_cons, List.sum_cons]
    omega
theorem fine_nat {a : Nat} (h : a ≤ 10000000) : Fine (.int (a : Int)) :=
  Fine.tame (by have h : ((a : Nat) : Int).natAbs < 10 ^ 20 := by rw [Int.natAbs_natCast]; omega
                simp only [Gk.tame, h, decide_true]) (by simp only [PyData.depth]; omega) (by simp only [Gk.cost]; omega)
section
variable {P : Program} {w : World} {K : PySem.W.Frag} {mg : Str → Option Value} {base : Heap}
def spWaysC : Sp := fun vs H Q _ => ∃ s L : Nat, vs = [.int (L : Int), .int (s : Int)] ∧ 1 ≤ s ∧ s ≤ 14 ∧ L ≤ 1000 ∧ ∀ H', Same H H' → Q (.int (turnsF s L : Nat)) H'
def spLaw (K : PySem.W.Frag) : Sp := fun vs H Q _ => ∃ (a : Addr) (ns : List Int), vs = [.ref a] ∧ SqL K H a (ns.map V.int) ∧ ns.length ≤ 63 ∧ ∀ H', Q (.bl true) H'
theorem ok_law {f : Addr} {fd : FuncData} (DB : Dfn P w K mg base 1 "_law_box" ["_law_script", "_law_k"] (spBox K)) (DT : Dfn P w K mg base 1 "_law_take" ["_law_box_here", "_law_many"] spTake)
    (DC : Dfn P w K mg base 1 "_law_closed" ["_law_size", "_law_many"] spClosed) (DW : Dfn P w K mg base 3 "ways_count" ["length", "nodes"] spWaysC) (DP : Dfn P w K mg base 3 "count_patterns" ["outcomes", "length"] spCount)
    (mr : mg "range" = none) (mn : mg "min" = none) (mx : mg "max" = none) (ml : mg "len" = none) (mi : mg "int" = none) (mp : mg "repr" = none) (F : L2.Fun K "law" "law" sLaw f fd) : FnG P w K mg base 4 f fd ["_law_script"] (spLaw K) := by
  refine fnG F scLaw (fun vs H Q E h => ?_) (fun cdv A outer s H vs Q hr hg h => ?_)
  · obtain ⟨a, ns, rfl, _⟩ := h
    rfl
  · obtain ⟨a, ns, rfl, hS, hl, q⟩ := h
    refine ⟨_, pss_cons (ps_for PassesOwn.never rfl (pi_range1 rfl mr (pa_cons (pe_op op_add pe_int (pe_callB (call_min2 rfl) (by rfl) mn (by decide +kernel) (pa_cons pe_int (pa_cons (pe_callB call_len_seq (by rfl) ml PySem.boot_len (pa_cons (pv 0) pa_nil)) pa_nil)))) pa_nil)) (pg_name (i := 1) scLaw.nd rfl (.inl rfl))
        (pss_cons (ps_set (i := 2) scLaw.nd rfl (.inl rfl) (pe_d DB hr (by decide) (by rfl) (pa_cons (pv 0) (pa_cons (pv 1) pa_nil))))
        (pss_cons (ps_asg (pe_tup (pa_cons (pe_op op_add pe_int (pe_d DT hr (by decide) (by rfl) (pa_cons (pv 2) (pa_cons (pe_op op_add pe_int (pe_callTy call_int1 (by rfl) mi (by decide +kernel) (pa_cons (pe_cmpR op_eq (pv 1) pe_int (nomark _)) pa_nil))) pa_nil)))) (pa_cons (pe_op op_add pe_int (pe_d DT hr (by decide) (by rfl) (pa_cons (pv 2) (pa_cons pe_int pa_nil)))) pa_nil))) (pg_tup (by rfl) (pgs_cons (pg_name (i := 3) scLaw.nd rfl (.inl rfl)) (pgs_cons (pg_name (i := 4) scLaw.nd rfl (.inr rfl)) pgs_nil))))
        (pss_cons (ps_set (i := 5) scLaw.nd rfl (.inl rfl) pe_int)
        (pss_cons (ps_for PassesOwn.never rfl (pi_list (pe_lc (own := [("_law_one", 8)]) (g := gName 8) (by rfl) scLaw.nd (pi_range2 (by rfl) mr (pa_cons pe_int (pa_cons (pe_op op_add (pv 4) pe_int) pa_nil))) (blkOk_by (N := nLaw) (sc := defScope sLaw) (by decide +kernel))
            (fun _ _ _ _ _ => pg_name (i := 8) scLaw.nd rfl (.inl rfl)) (fun _ _ _ _ _ => pts_one (pt_cmpR op_eq (pe_op op_mod (pv 4) (pv 8)) pe_int (nomark _))) (fun _ _ _ _ _ => pv 8))) (pg_name (i := 6) scLaw.nd rfl (.inl rfl))
          (pss_cons (ps_set (i := 7) scLaw.nd rfl (.inl rfl) (pe_d DC hr (by decide) (by rfl) (pa_cons (pv 3) (pa_cons (pv 6) pa_nil))))
          (pss_cons (ps_if (pt_cmpR op_ne (pe_callB (call_reprF hr hg) (by rfl) mp (by decide +kernel) (pa_cons (pe_d DW hr (by decide) (by rfl) (pa_cons (pv 3) (pa_cons (pv 6) pa_nil))) pa_nil))
              (pe_callB (call_reprF hr hg) (by rfl) mp (by decide +kernel) (pa_cons (pv 7) pa_nil)) (nomark _)) (pss_one (ps_ret pe_bl)) pss_nil)
          (pss_one (ps_set (i := 5) scLaw.nd rfl (.inl rfl) (pe_op op_add (pv 5) (pe_op op_mul (pv 6) (pv 7))))))))
        (pss_cons (ps_if (pt_cmpR op_ne (pe_callB (call_reprF hr hg) (by rfl) mp (by decide +kernel) (pa_cons (pe_d DP hr (by decide) (by rfl) (pa_cons (pv 4) (pa_cons (pv 3) pa_nil))) pa_nil))
              (pe_callB (call_reprF hr hg) (by rfl) mp (by decide +kernel) (pa_cons (pv 5) pa_nil)) (nomark _)) (pss_one (ps_ret pe_bl)) pss_nil)
        (pss_one (ps_if (PW.pt (pw_or (pt_cmpR op_ne (pe_d DP hr (by decide) (by rfl) (pa_cons (pv 4) (pa_cons pe_int pa_nil))) pe_int (nomark _))
            (pw_or1 (pt_cmpR op_ne (pe_d DP hr (by decide) (by rfl) (pa_cons (pv 4) (pa_cons (pe_callB (call_max2 rfl) (by rfl) mx (by decide +kernel) (pa_cons pe_int (pa_cons (pe_op op_sub (pv 4) pe_int) pa_nil))) pa_nil))) (pe_op op_oneShl pe_int (pv 4)) (nomark _))))) (pss_one (ps_ret pe_bl)) pss_nil))))))))
      (pss_one (ps_ret pe_bl)), ?_⟩
    refine ⟨.ref a, rfl, a, _, rfl, .inl hS, _, _, rfl, _, _, rfl, rfl, _, rfl, ?_, ?_, ?_⟩
    · split <;> omega
    · split <;> omega
    · generalize hz : (1 + if ((ns.map V.int).length : Int) < 2 then ((ns.map V.int).length : Int) else 2) = z
      have z3 : z ≤ 3 := by rw [← hz]; split <;> omega
      refine for_range (lo := 0) (n := z.toNat) (fun i σ H' => (∃ y1 y2 y3 y4 y5 y6 y7, σ = [some (.ref a), y1, y2, y3, y4, y5, y6, y7, none]) ∧ SqL K H' a (ns.map V.int)) ⟨⟨none, none, none, none, none, none, none, rfl⟩, hS⟩ (fun i σ H1 hi hp => ?_) (fun σ H1 hp => ?_)
      · obtain ⟨⟨y1, y2, y3, y4, y5, y6, y7, rfl⟩, hS1⟩ := hp
        refine ⟨.ref a, rfl, .int (0 + (i : Nat)), rfl, a, ns, 0 + (i : Nat), rfl, hS1, hl, by omega, by omega, fun b x y nb => ?_⟩
        have hB0 : Box 0 (upd H1 b (.lst [.int x, .int y, .int 0])) b := ⟨x, y, 0, upd_same, Int.le_refl _, Int.le_refl _⟩
        refine ⟨.ref b, rfl, .int (0 + (i : Nat)), rfl, rfl, .inr ⟨_, rfl, _, _, rfl, rfl, ?_⟩⟩
        dsimp only
        generalize hc : ((3 : Int) + if decide (V.int (0 + (i : Nat)) = V.int 0) = true then (1 : Int) else 0) = c
        have c4 : 3 ≤ c ∧ c ≤ 4 := by rw [← hc]; split <;> omega
        refine ⟨b, c, 0, rfl, by omega, by omega, hB0, by decide, fun d H2 d0 d1 bt2 bx2 sm2 => ⟨_, _, rfl, rfl, .ref b, rfl, b, 12, 1, rfl, by decide, by decide, bx2, by decide, fun e H3 e0 e1 bt3 bx3 sm3 => ⟨_, _, rfl, rfl, by show 2 ≤ sizeLine; decide, fun p np => ⟨p, _, rfl, .inl (.inl upd_same), rfl, _, _, rfl, _, _, rfl, rfl, ?_⟩⟩⟩⟩
        have btA : But b (upd H1 b (.lst [.int x, .int y, .int 0])) (upd H3 p (.tup [.int (1 + d), .int (1 + e)])) := (bt2.trans bt3).trans (But.new np)
        have hS4 := keepSeqL hS1 nb btA
        generalize (upd H3 p (.tup [.int (1 + d), .int (1 + e)])) = H4 at hS4
        clear btA bt2 bx2 sm2 bt3 bx3 sm3 np hB0 nb
        obtain ⟨S, eS⟩ : ∃ S : Nat, 1 + d = (S : Int) := ⟨(1 + d).toNat, by omega⟩
        obtain ⟨m, em⟩ : ∃ m : Nat, 1 + e = (m : Int) := ⟨(1 + e).toNat, by omega⟩
        show tSeq _ _ _ [some (V.ref a), some (V.int (0 + (i : Nat))), some (V.ref b), some (V.int (1 + d)), some (V.int (1 + e)), y5, y6, y7, none] H4
        rw [eS, em]
        have S1 : 1 ≤ S := by omega
        have S4 : S ≤ 4 := by omega
        have m1 : 1 ≤ m := by omega
        have m12 : m ≤ 12 := by omega
        refine ⟨.int (m : Int), rfl, _, _, rfl, rfl, _, _, rfl, ⟨by decide, by decide, by omega, by omega⟩, fun D nD => ?_⟩
        refine lc_range (lo := 1) (n := ((m : Int) + 1 - 1).toNat) (fun j H' => Same H4 H' ∧ H' D = some (.lst ((parts m j).map fun d : Nat => V.int (d : Int)))) ⟨same_new nD, upd_same⟩ (fun j H2 hj hp => ?_) (fun H2 hp => ?_)
        · obtain ⟨sm, hD⟩ := hp
          have hj : j < m := by omega
          have emd : ((m : Int) % (1 + (j : Int))) = ((m % (j + 1) : Nat) : Int) := by
            rw [show (1 + (j : Int)) = ((j + 1 : Nat) : Int) by omega]
            exact (Int.natCast_emod _ _).symm
          refine ⟨rfl, .int (m : Int), rfl, .int (1 + (j : Nat)), rfl, _, _, rfl, rfl, by omega, rfl, _, rfl, ite2 (fun e => ?_) (fun e => ?_)⟩
          · have e := V.int.inj (of_decide_eq_true e)
            rw [emd] at e
            have e0 : m % (j + 1) = 0 := by omega
            refine ⟨.int (1 + (j : Nat)), rfl, _, hD, ?_, ?_, ?_⟩
            · rw [List.length_map]
              exact small1000 (by have := parts_len m j; omega)
            · intro b o h
              rw [upd_ne (ne_of_none h nD)]
              exact sm b o h
            · rw [upd_same, parts_succ, if_pos e0, List.map_append, show (1 + ((j : Nat) : Int)) = ((j + 1 : Nat) : Int) by omega]
              rfl
          · have e0 : ¬ m % (j + 1) = 0 := fun z => e (decide_eq_true (congrArg V.int (by rw [emd, z]; rfl)))
            refine ⟨sm, ?_⟩
            rw [parts_succ, if_neg e0, List.append_nil]
            exact hD
        · obtain ⟨sm, hD⟩ := hp
          rw [show ((m : Int) + 1 - 1).toNat = m by omega] at hD
          have mem := parts_le (n := m) (k := m)
          have plen := parts_len m m
          have cnt := count_low S1 S4 m1 m12
          have cle := count_le (m := m) (L := S) m12
          obtain ⟨ps, eps⟩ : ∃ ps, ps = parts m m := ⟨_, rfl⟩
          rw [← eps] at hD mem plen cnt
          have hS2 := Same.seqLL sm hS4
          refine ⟨D, rfl, ⟨_, SqL.of hD⟩, for_list (K := K) (a := D) (xs := ps.map fun d : Nat => V.int (d : Int)) (fun j σ H' => (∃ y6 y7, σ = [some (.ref a), some (.int (0 + (i : Nat))), some (.ref b), some (.int (S : Int)), some (.int (m : Int)), some (.int ((((ps.take j).map fun d => d * closedF S d).sum : Nat) : Int)), y6, y7, none]) ∧ Same H2 H') ⟨⟨_, _, rfl⟩, Same.refl _⟩ (fun j σ H' _ hp => Same.seqLL hp.2 (SqL.of hD)) (fun j x σ H5 hx hp => ?_) (fun σ H5 hp => ?_)⟩
          · obtain ⟨⟨y6, y7, rfl⟩, s5⟩ := hp
            rw [List.getElem?_map] at hx
            cases ed : ps[j]? with
            | none => rw [ed] at hx; cases hx
            | some dd =>
              rw [ed] at hx
              obtain rfl := Option.some.inj hx
              obtain ⟨d1, d2⟩ := mem dd (List.mem_of_getElem? ed)
              have low := closed_low S1 S4 d1 (Nat.le_trans d2 m12)
              have lowle : closedF S dd ≤ 4096 := by
                rw [← low]
                have h3 : (2 : Nat) ^ dd ≤ 2 ^ 12 := Nat.pow_le_pow_right (by decide) (by omega)
                have h4 : (2 : Nat) ^ 12 = 4096 := rfl
                have := turns_le dd S
                omega
              refine ⟨.int (S : Int), rfl, .int (dd : Int), rfl, S, dd, rfl, S1, S4, d1, by omega, fun H6 s6 => ?_⟩
              refine ⟨.int (S : Int), rfl, .int (dd : Int), rfl, dd, S, rfl, d1, by omega, by omega, fun H7 s7 => ?_⟩
              rw [low]
              refine ⟨_, .int _, rfl, .int _, fine_nat (by omega), _, rfl, _, .int _, rfl, .int _, fine_nat (by omega), rfl, _, rfl, iteNS rfl ?_⟩
              refine ⟨_, rfl, .int (dd : Int), rfl, _, rfl, _, _, rfl, rfl, .inl ⟨by omega, by omega⟩, _, _, rfl, rfl, ⟨some (.int (dd : Int)), some (.int ((closedF S dd : Nat) : Int)), ?_⟩, (s5.trans s6).trans s7⟩
              rw [sum_take ed, Int.natCast_add, Int.natCast_mul]
              rfl
          · obtain ⟨⟨y6, y7, rfl⟩, s5⟩ := hp
            rw [List.length_map, List.take_length, ← cnt]
            refine ⟨.int (m : Int), rfl, .int (S : Int), rfl, m, S, rfl, m1, by omega, by omega, fun H6 s6 => ?_⟩
            refine ⟨_, .int _, rfl, .int _, fine_nat (by omega), _, rfl, _, .int _, rfl, .int _, fine_nat (by omega), rfl, _, rfl, iteNS rfl ?_⟩
            obtain ⟨f1, f2⟩ := facts_c m1 m12
            refine ⟨.int (m : Int), rfl, m, 0, rfl, m1, by omega, by decide, fun H7 s7 => ?_⟩
            rw [f1]
            refine ⟨rfl, _, rfl, iteNS rfl ?_⟩
            refine ⟨.int (m : Int), rfl, .int (m : Int), rfl, _, _, rfl, rfl, _, _, rfl, m, m - 1, congrArg (fun z => [V.int (m : Int), V.int z]) (by split <;> omega), m1, by omega, by omega, fun H8 s8 => ?_⟩
            rw [f2]
            refine ⟨.int (m : Int), rfl, m, rfl, rfl, by omega, rfl, _, rfl, iteNS (congrArg V.int (by rw [Int.natCast_pow]; rfl)) ?_⟩
            exact ⟨⟨_, _, _, _, _, _, _, rfl⟩, Same.seqLL (((s5.trans s6).trans s7).trans s8) hS2⟩
      · obtain ⟨⟨y1, y2, y3, y4, y5, y6, y7, rfl⟩, hS1⟩ := hp
        exact q _
theorem law_start {K : PySem.W.Frag} {H : Hp} {a : Addr} {ns : List Int} (hl : ns.length ≤ 63) (hO : Only H) (hS : SqL K H a (ns.map V.int)) : spLaw K [.ref a] H (fun v _ => v = .bl true) L2.E0 :=
  ⟨a, ns, rfl, hS, hl, fun _ => rfl⟩
end
end Pf
namespace Pf
open PySem PySem.Spec PyProof.Rows L2 Gk
theorem all_mk {P : Program} {w : World} {K : PySem.W.Frag} {h : Heap} {mg : Str → Option Value} {fa : Addr} (X : K.In h) (G : h.Ns mainGlobals mg) (hfa : mg "law" = some (.ref fa))
    {f0 : Addr} {od0 an0 : Option Addr} {sl0 : Array (Option Value)} {oc0 kV0 dc0 pm0 cd0 ct0 : Value} {f1 : Addr} {od1 an1 : Option Addr} {sl1 : Array (Option Value)} {oc1 kV1 dc1 pm1 cd1 ct1 : Value} {f2 : Addr} {od2 an2 : Option Addr} {sl2 : Array (Option Value)} {oc2 kV2 dc2 pm2 cd2 ct2 : Value} {f3 : Addr} {od3 an3 : Option Addr} {sl3 : Array (Option Value)} {oc3 kV3 dc3 pm3 cd3 ct3 : Value} {f4 : Addr} {od4 an4 : Option Addr} {sl4 : Array (Option Value)} {oc4 kV4 dc4 pm4 cd4 ct4 : Value} {f5 : Addr} {od5 an5 : Option Addr} {sl5 : Array (Option Value)} {oc5 kV5 dc5 pm5 cd5 ct5 : Value} {f6 : Addr} {od6 an6 : Option Addr} {sl6 : Array (Option Value)} {oc6 kV6 dc6 pm6 cd6 ct6 : Value} {f7 : Addr} {od7 an7 : Option Addr} {sl7 : Array (Option Value)} {oc7 kV7 dc7 pm7 cd7 ct7 : Value} {f8 : Addr} {od8 an8 : Option Addr} {sl8 : Array (Option Value)} {oc8 kV8 dc8 pm8 cd8 ct8 : Value} {f9 : Addr} {od9 an9 : Option Addr} {sl9 : Array (Option Value)} {oc9 kV9 dc9 pm9 cd9 ct9 : Value}
    (a0 : PySem.W.nsIn K mainGlobals "_digits" = some (some (.ref f0)))
    (l0 : K.lookup f0 = some ⟨oc0, od0, .func (PySem.W.fnOf "_digits" "_digits" (defArgs sDig) (defBody sDig) (defScope sDig) .none kV0 dc0 pm0 an0 cd0 ct0), sl0⟩)
    (c0 : PySem.W.codeIn K cd0 "_digits" = true) (k0 : PySem.W.keepIn K (.ref f0) = true)
    (a1 : PySem.W.nsIn K mainGlobals "_is_first_turn" = some (some (.ref f1)))
    (l1 : K.lookup f1 = some ⟨oc1, od1, .func (PySem.W.fnOf "_is_first_turn" "_is_first_turn" (defArgs sFT) (defBody sFT) (defScope sFT) .none kV1 dc1 pm1 an1 cd1 ct1), sl1⟩)
    (c1 : PySem.W.codeIn K cd1 "_is_first_turn" = true) (k1 : PySem.W.keepIn K (.ref f1) = true)
    (a2 : PySem.W.nsIn K mainGlobals "_is_reach_within" = some (some (.ref f2)))
    (l2 : K.lookup f2 = some ⟨oc2, od2, .func (PySem.W.fnOf "_is_reach_within" "_is_reach_within" (defArgs sRW) (defBody sRW) (defScope sRW) .none kV2 dc2 pm2 an2 cd2 ct2), sl2⟩)
    (c2 : PySem.W.codeIn K cd2 "_is_reach_within" = true) (k2 : PySem.W.keepIn K (.ref f2) = true)
    (a3 : PySem.W.nsIn K mainGlobals "turns_count" = some (some (.ref f3)))
    (l3 : K.lookup f3 = some ⟨oc3, od3, .func (PySem.W.fnOf "turns_count" "turns_count" (defArgs sTurns) (defBody sTurns) (defScope sTurns) .none kV3 dc3 pm3 an3 cd3 ct3), sl3⟩)
    (c3 : PySem.W.codeIn K cd3 "turns_count" = true) (k3 : PySem.W.keepIn K (.ref f3) = true)
    (a4 : PySem.W.nsIn K mainGlobals "count_patterns" = some (some (.ref f4)))
    (l4 : K.lookup f4 = some ⟨oc4, od4, .func (PySem.W.fnOf "count_patterns" "count_patterns" (defArgs sCount) (defBody sCount) (defScope sCount) .none kV4 dc4 pm4 an4 cd4 ct4), sl4⟩)
    (c4 : PySem.W.codeIn K cd4 "count_patterns" = true) (k4 : PySem.W.keepIn K (.ref f4) = true)
    (a5 : PySem.W.nsIn K mainGlobals "ways_count" = some (some (.ref f5)))
    (l5 : K.lookup f5 = some ⟨oc5, od5, .func (PySem.W.fnOf "ways_count" "ways_count" (defArgs sWaysC) (defBody sWaysC) (defScope sWaysC) .none kV5 dc5 pm5 an5 cd5 ct5), sl5⟩)
    (c5 : PySem.W.codeIn K cd5 "ways_count" = true) (k5 : PySem.W.keepIn K (.ref f5) = true)
    (a6 : PySem.W.nsIn K mainGlobals "_law_box" = some (some (.ref f6)))
    (l6 : K.lookup f6 = some ⟨oc6, od6, .func (PySem.W.fnOf "_law_box" "_law_box" (defArgs sBox) (defBody sBox) (defScope sBox) .none kV6 dc6 pm6 an6 cd6 ct6), sl6⟩)
    (c6 : PySem.W.codeIn K cd6 "_law_box" = true) (k6 : PySem.W.keepIn K (.ref f6) = true)
    (a7 : PySem.W.nsIn K mainGlobals "_law_take" = some (some (.ref f7)))
    (l7 : K.lookup f7 = some ⟨oc7, od7, .func (PySem.W.fnOf "_law_take" "_law_take" (defArgs sTake) (defBody sTake) (defScope sTake) .none kV7 dc7 pm7 an7 cd7 ct7), sl7⟩)
    (c7 : PySem.W.codeIn K cd7 "_law_take" = true) (k7 : PySem.W.keepIn K (.ref f7) = true)
    (a8 : PySem.W.nsIn K mainGlobals "_law_closed" = some (some (.ref f8)))
    (l8 : K.lookup f8 = some ⟨oc8, od8, .func (PySem.W.fnOf "_law_closed" "_law_closed" (defArgs sClosed) (defBody sClosed) (defScope sClosed) .none kV8 dc8 pm8 an8 cd8 ct8), sl8⟩)
    (c8 : PySem.W.codeIn K cd8 "_law_closed" = true) (k8 : PySem.W.keepIn K (.ref f8) = true)
    (a9 : PySem.W.nsIn K mainGlobals "law" = some (some (.ref f9)))
    (l9 : K.lookup f9 = some ⟨oc9, od9, .func (PySem.W.fnOf "law" "law" (defArgs sLaw) (defBody sLaw) (defScope sLaw) .none kV9 dc9 pm9 an9 cd9 ct9), sl9⟩)
    (c9 : PySem.W.codeIn K cd9 "law" = true) (k9 : PySem.W.keepIn K (.ref f9) = true)
    (z0 : PySem.W.nsIn K mainGlobals "int" = some none)
    (z1 : PySem.W.nsIn K mainGlobals "len" = some none)
    (z2 : PySem.W.nsIn K mainGlobals "abs" = some none)
    (z3 : PySem.W.nsIn K mainGlobals "range" = some none)
    (z4 : PySem.W.nsIn K mainGlobals "min" = some none)
    (z5 : PySem.W.nsIn K mainGlobals "max" = some none)
    (z6 : PySem.W.nsIn K mainGlobals "repr" = some none)
    (z7 : PySem.W.nsIn K mainGlobals "tuple" = some none)
    (z8 : PySem.W.nsIn K mainGlobals "sum" = some none)
    (z9 : PySem.W.nsIn K mainGlobals "reversed" = some none)
    : ∃ fd : FuncData, (∀ (s : Shared) (v : Value), BindsTo s fd ⟨[v], []⟩ [("_law_script", v)]) ∧ ∀ base : Heap, K.In base → base.Ns mainGlobals mg → FnG P w K mg base 4 fa fd ["_law_script"] (spLaw K) := by
  have e := hfa.symm.trans (PySem.W.mg_of X G a9)
  cases e
  have F0 := fun_mk (st := sDig) l0 c0 k0
  have b0 := F0.binds (ps := ["number", "size"]) fun _ _ _ _ _ _ us hl => match us, hl with | [_, _], _ => rfl
  have g0 := PySem.W.mg_of X G a0
  have F1 := fun_mk (st := sFT) l1 c1 k1
  have b1 := F1.binds (ps := ["number", "size"]) fun _ _ _ _ _ _ us hl => match us, hl with | [_, _], _ => rfl
  have g1 := PySem.W.mg_of X G a1
  have F2 := fun_mk (st := sRW) l2 c2 k2
  have b2 := F2.binds (ps := ["root", "length"]) fun _ _ _ _ _ _ us hl => match us, hl with | [_, _], _ => rfl
  have g2 := PySem.W.mg_of X G a2
  have F3 := fun_mk (st := sTurns) l3 c3 k3
  have b3 := F3.binds (ps := ["size", "length"]) fun _ _ _ _ _ _ us hl => match us, hl with | [_, _], _ => rfl
  have g3 := PySem.W.mg_of X G a3
  have F4 := fun_mk (st := sCount) l4 c4 k4
  have b4 := F4.binds (ps := ["outcomes", "length"]) fun _ _ _ _ _ _ us hl => match us, hl with | [_, _], _ => rfl
  have g4 := PySem.W.mg_of X G a4
  have F5 := fun_mk (st := sWaysC) l5 c5 k5
  have b5 := F5.binds (ps := ["length", "nodes"]) fun _ _ _ _ _ _ us hl => match us, hl with | [_, _], _ => rfl
  have g5 := PySem.W.mg_of X G a5
  have F6 := fun_mk (st := sBox) l6 c6 k6
  have b6 := F6.binds (ps := ["_law_script", "_law_k"]) fun _ _ _ _ _ _ us hl => match us, hl with | [_, _], _ => rfl
  have g6 := PySem.W.mg_of X G a6
  have F7 := fun_mk (st := sTake) l7 c7 k7
  have b7 := F7.binds (ps := ["_law_box_here", "_law_many"]) fun _ _ _ _ _ _ us hl => match us, hl with | [_, _], _ => rfl
  have g7 := PySem.W.mg_of X G a7
  have F8 := fun_mk (st := sClosed) l8 c8 k8
  have b8 := F8.binds (ps := ["_law_size", "_law_many"]) fun _ _ _ _ _ _ us hl => match us, hl with | [_, _], _ => rfl
  have g8 := PySem.W.mg_of X G a8
  have F9 := fun_mk (st := sLaw) l9 c9 k9
  have n_int := PySem.W.mg_none_of X G z0
  have n_len := PySem.W.mg_none_of X G z1
  have n_abs := PySem.W.mg_none_of X G z2
  have n_range := PySem.W.mg_none_of X G z3
  have n_min := PySem.W.mg_none_of X G z4
  have n_max := PySem.W.mg_none_of X G z5
  have n_repr := PySem.W.mg_none_of X G z6
  have n_tuple := PySem.W.mg_none_of X G z7
  have n_sum := PySem.W.mg_none_of X G z8
  have n_reversed := PySem.W.mg_none_of X G z9
  refine ⟨PySem.W.fnOf "law" "law" (defArgs sLaw) (defBody sLaw) (defScope sLaw) .none kV9 dc9 pm9 an9 cd9 ct9, fun s v => .of_eq rfl, fun base _ _ => ?_⟩
  have Ddigits : Dfn P w K mg base 1 "_digits" ["number", "size"] (spDig K) := ⟨_, _, ok_dig (k := 0) n_range n_reversed n_tuple F0, g0, F0.kp, b0⟩
  have Dis_first_turn : Dfn P w K mg base 1 "_is_first_turn" ["number", "size"] spFT := ⟨_, _, ok_ft (k := 0) n_range F1, g1, F1.kp, b1⟩
  have Dis_reach_within : Dfn P w K mg base 1 "_is_reach_within" ["root", "length"] (spRW K) := ⟨_, _, ok_rw (k := 0) n_range n_min n_len F2, g2, F2.kp, b2⟩
  have Dturns_count : Dfn P w K mg base 2 "turns_count" ["size", "length"] spTurns := ⟨_, _, ok_turns Ddigits Dis_first_turn Dis_reach_within n_range n_len F3, g3, F3.kp, b3⟩
  have Dcount_patterns : Dfn P w K mg base 3 "count_patterns" ["outcomes", "length"] spCount := ⟨_, _, ok_count Dturns_count n_range n_sum F4, g4, F4.kp, b4⟩
  have Dways_count : Dfn P w K mg base 3 "ways_count" ["length", "nodes"] spWaysC := ⟨_, _, ok_waysC Dturns_count F5, g5, F5.kp, b5⟩
  have Dlaw_box : Dfn P w K mg base 1 "_law_box" ["_law_script", "_law_k"] (spBox K) := ⟨_, _, ok_box n_len n_abs n_int F6, g6, F6.kp, b6⟩
  have Dlaw_take : Dfn P w K mg base 1 "_law_take" ["_law_box_here", "_law_many"] spTake := ⟨_, _, ok_take F7, g7, F7.kp, b7⟩
  have Dlaw_closed : Dfn P w K mg base 1 "_law_closed" ["_law_size", "_law_many"] spClosed := ⟨_, _, ok_closed (k := 0) n_range n_len F8, g8, F8.kp, b8⟩
  exact ok_law Dlaw_box Dlaw_take Dlaw_closed Dways_count Dcount_patterns n_range n_min n_max n_len n_int n_repr F9
end Pf
open PySem PySem.W PyProof.Rows
set_option maxHeartbeats 0 in
theorem PySem.Challenge.cw_pastenough_k94_whole_patterns_by_closed_holds : PySem.Challenge.rw_pastenough_k94_whole_patterns_by_closed.Holds := by
  w_on; o_law; k_head; (case hw => w_witness2)
  k_fill
  refine Gk.walkG (l := PySem.Challenge.rw_pastenough_k94_whole_patterns_by_closed) (n := 63) (k := 4) (x := "_law_script") (sp := fun w => Pf.spLaw _) rfl (by decide) rfl ⟨rfl, by decide, by decide⟩ (fun w h Y => PySem.W.kIn_of Y) ?F (fun _ _ a ns hl hO hS => Pf.law_start hl hO hS)
  case F =>
    intro w mg fa h KX G hmg
    refine' Pf.all_mk KX G hmg ?a0 ?l0 ?c0 ?k0 ?a1 ?l1 ?c1 ?k1 ?a2 ?l2 ?c2 ?k2 ?a3 ?l3 ?c3 ?k3 ?a4 ?l4 ?c4 ?k4 ?a5 ?l5 ?c5 ?k5 ?a6 ?l6 ?c6 ?k6 ?a7 ?l7 ?c7 ?k7 ?a8 ?l8 ?c8 ?k8 ?a9 ?l9 ?c9 ?k9 ?z0 ?z1 ?z2 ?z3 ?z4 ?z5 ?z6 ?z7 ?z8 ?z9
    (case a0 => k_is)
    (case l0 => k_is)
    (case c0 => k_is)
    (case k0 => k_is)
    (case a1 => k_is)
    (case l1 => k_is)
    (case c1 => k_is)
    (case k1 => k_is)
    (case a2 => k_is)
    (case l2 => k_is)
    (case c2 => k_is)
    (case k2 => k_is)
    (case a3 => k_is)
    (case l3 => k_is)
    (case c3 => k_is)
    (case k3 => k_is)
    (case a4 => k_is)
    (case l4 => k_is)
    (case c4 => k_is)
    (case k4 => k_is)
    (case a5 => k_is)
    (case l5 => k_is)
    (case c5 => k_is)
    (case k5 => k_is)
    (case a6 => k_is)
    (case l6 => k_is)
    (case c6 => k_is)
    (case k6 => k_is)
    (case a7 => k_is)
    (case l7 => k_is)
    (case c7 => k_is)
    (case k7 => k_is)
    (case a8 => k_is)
    (case l8 => k_is)
    (case c8 => k_is)
    (case k8 => k_is)
    (case a9 => k_is)
    (case l9 => k_is)
    (case c9 => k_is)
    (case k9 => k_is)
    (case z0 => k_is)
    (case z1 => k_is)
    (case z2 => k_is)
    (case z3 => k_is)
    (case z4 => k_is)
    (case z5 => k_is)
    (case z6 => k_is)
    (case z7 => k_is)
    (case z8 => k_is)
    (case z9 => k_is)
