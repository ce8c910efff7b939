import PyProof.Rows.All
import Wide.All
import OpenK.AllK
import Wide.FinOn
import HandS.ForMost
import HandS.Codes
import HandS.Wide
import HandS.WideBits
import HandS.Defaults
import HandS.Walk
import PyProof.ReprRoads
import HandS.Text
import HandS.Iter
import HandS.Style
import KE.GoesMore
import KE.KRevSl
import PyProof.ReprLen
import PyProof.StrBlock2
import HandS.Ends
import HandS.TupMul
import HandS.TupAny
import HandS.IsInst
import HandS.Gcd
import KE.KMathGC
import HandS.Zip
import PySem.Challenge.RW_pastenough_k58_primitive_patterns
set_option Elab.async false
set_option linter.all false
set_option maxRecDepth 100000
set_option maxHeartbeats 4000000
/-! Defs that are run where no repr is under way; repr of data; further small rules. -/
namespace Gk
open PySem PySem.Spec PyProof.Rows L2

/-- a def's promise wherever nothing is being shown -/
structure FnG (P : Program) (w : World) (K : PySem.W.Frag) (mg : Str → Option Value) (base : Heap) (k : Nat)
    (f : Addr) (fd : FuncData) (ps : List Str) (sp : Sp) : Prop where
  len : ∀ vs H Q E, sp vs H Q E → vs.length = ps.length
  go : ∀ (A : Around) (outer : List Env) (s : Shared) (H : Hp) (args : Args) (us : List Value) (vs : List V) (Q : VK),
    Room k A → A.guards = some [] → Env0 P w K mg base A outer s H → BindsTo s fd args (ps.zip us) → Vals vs us → sp vs H Q L2.E0 →
    codeAny (model P w) A (.call (.ref f) args) (CR L2.CX0 outer P w H s Q L2.E0) s

section
variable {P : Program} {w : World} {K : PySem.W.Frag} {mg : Str → Option Value} {base : Heap}
theorem FnG.weak {j k : Nat} {f : Addr} {fd : FuncData} {ps : List Str} {sp : Sp} (F : FnG P w K mg base j f fd ps sp) (h : j ≤ k) : FnG P w K mg base k f fd ps sp :=
  ⟨F.len, fun A outer s H args us vs Q r g => F.go A outer s H args us vs Q (r.mono h) g⟩
theorem FnG.from {k : Nat} {f : Addr} {fd : FuncData} {ps : List Str} {sp : Sp} (F : FnOk P w K mg base L2.CX0 k f fd ps sp) : FnG P w K mg base k f fd ps sp :=
  ⟨F.len, fun A outer s H args us vs Q r _ e b v q => F.run A outer s H args us vs Q L2.E0 r e b v q⟩

theorem guards_deeper {A : Around} {env : Env} (h : A.guards = some []) : (A.deeper env).guards = some [] := by
  first | exact h | (unfold Around.deeper; exact h)

/-- THE RULE for a def, by its body -/
theorem fnG {x qual : Str} {st : Stmt} {f : Addr} {fd : FuncData} {N ps : List Str} {k : Nat} {sp : Sp} (F : L2.Fun K x qual st f fd) (S : FnScope N ps (defScope st))
    (len : ∀ vs H Q E, sp vs H Q E → vs.length = ps.length)
    (hbody : ∀ (cdv : Value) (A : Around) (outer : List Env) (s : Shared) (H : Hp) (vs : List V) (Q : VK),
      Room k (A.deeper (envOfC qual (defScope st) s.heap.objs.size f cdv)) → (A.deeper (envOfC qual (defScope st) s.heap.objs.size f cdv)).guards = some [] → sp vs H Q L2.E0 →
      ∃ t, PSs (cxOf L2.CX0 P w K mg base N qual (defScope st) f cdv A outer s H L2.E0).nox (defBody st) t ∧ t { nx := fun _ H' => Q .non H', rt := Q } (start N vs) H) :
    FnG P w K mg base (k + 1) f fd ps sp := by
  obtain ⟨oc, od, kV, doc, pm, an, cdv, ct, osl, rfl, lk, hcd⟩ := F.ex
  refine ⟨len, fun A outer s H args us vs Q room gd en bd rv want => ?_⟩
  have many := len _ _ _ _ want
  have KX : K.In s.heap := en.mod.kin.keeps (fun b o hbo => (en.bs b o hbo).1)
  have lim : s.heap.NoLimit := en.mod.nolimit.keeps (fun b o hbo => (en.bs b o hbo).1)
  have kinds : ∀ y ∈ ps.zip us, (defScope st).names.lookup y.1 = some .local ∨
      ((defScope st).names.lookup y.1 = some .cell ∧ ((cellsFrom (s.heap.objs.size + 1) (defScope st).names []).lookup y.1).isSome = true) := fun y hy =>
    (S.par y.1 (List.of_mem_zip (a := y.1) (b := y.2) hy).1).elim Or.inl fun q => .inr ⟨q, PySem.W.cellsFrom_some _ _ _ (.inl q)⟩
  refine codeAny_call_function room.depth (KX _ _ lk) rfl S.co S.gen rfl (PySem.W.codeRec_of KX hcd) (bd _ _ _ _ ?_)
  refine wpAny_newFunctionEnv_cells S.kind kinds fun env he st1 inC => ?_
  subst he
  refine ⟨lim.keeps inC.toInCall.keep, codeAny_func ?_⟩
  obtain ⟨t, ht, hq⟩ := hbody cdv A outer s H vs Q (room.deeper _) (guards_deeper gd) want
  have I := inv_start (CX := L2.CX0) (P := P) (w := w) (mg := mg) (E := L2.E0) S room.hd en many rv inC
  refine wpAny_mono (ht.nox.run [] st1 (start N vs) H _ I hq) (fun fl s' hs => ?_) fun e s' hs => hs
  cases fl with
  | brk => obtain ⟨_, _, _, z⟩ := hs; exact False.elim z
  | cont => obtain ⟨_, _, _, z⟩ := hs; exact False.elim z
  | next => obtain ⟨σ1, H1, J, z⟩ := hs; exact ⟨V.non, H1, J.os, J.bare, J.base, J.hok, rfl, z⟩
  | ret u => obtain ⟨v, σ1, H1, J, rv1, z⟩ := hs; exact ⟨v, H1, J.os, J.bare, J.base, J.hok, rv1, z⟩
end

section
variable {X : Cx} {k : Nat} {f : Addr} {fd : FuncData} {ps : List Str} {sp : Sp} {x : Str} {p pos : Pos} {e : Expr} {es : List Expr} {t : TA}
theorem go_fn {pins : List (Addr × Obj)} {σ : L2.St} {H : Hp} {s : Shared} {Q : VK} {us : List Value} {vs : List V} (F : FnG X.prog X.w X.K X.mg X.base k f fd ps sp)
    (hr : Room k X.A) (hg : X.A.guards = some []) (hb : Binds X.K fd ps []) (I : Inv X pins σ H s) (r : Vals vs us) (h : sp vs H Q L2.E0) : wpAny (model X.prog X.w) X.A (call (.ref f) us) (EP X pins σ Q) X.xe s := by
  have hl : (us ++ []).length = ps.length := by rw [List.append_nil, ← r.length]; exact F.len _ _ _ _ h
  have b := hb s us I.kIn hl
  rw [List.append_nil] at b
  refine wpAny_call (codeAny_mono (F.go X.A X.stack s H ⟨us, []⟩ us vs Q hr hg I.env0 b r h) fun res s' hq => ?_)
  cases res with
  | error er => exact False.elim hq
  | ok fl =>
    cases fl with
    | brk => exact False.elim hq
    | cont => exact False.elim hq
    | next => exact False.elim hq
    | ret u => exact I.after hq
def tG (sp : Sp) (t : TA) : TE := fun σ H Q => t σ H fun vs H1 => sp vs H1 Q L2.E0
/-- f(e, ..) -/
theorem pe_g (F : FnG X.prog X.w X.K X.mg X.base k f fd ps sp) (hr : Room k X.A) (hd : X.A.guards = some []) (hg : Gl X x) (hm : X.mg x = some (.ref f)) (hk : PySem.W.keepIn X.K (.ref f) = true) (hb : Binds X.K fd ps [])
    (ha : PA X (e :: es) t) (hdb : (x == ("__debug__" : Str)) = false := by decide) (he : starEach (e :: es) X.env = (false, eval e X.env) :: starEach es X.env := by rfl)
    (hpl : (backTo pos (starEach es X.env)).any (·.1) = false := by rfl) : PE X (.Call (.Name x p) (e :: es) [] pos) (tG sp t) :=
  ⟨fun pins s σ H Q I h => wpAny_Call_Name_kw (ld_glob I hg hm (PySem.W.callWith_K (h₀ := X.base) I.ok.mod.kin hk (thn (ha.run pos pins s σ H _ I h) fun us s1 ⟨vs, H1, I1, r, q⟩ => ⟨I1.kIn, go_fn F hr hd hb I1 r q⟩) he hpl) hdb)⟩
end

/-! ### keywords alone -/
section
variable {X : Cx} {k : Nat} {f : Addr} {fd : FuncData} {ps ks : List Str} {sp : Sp} {x : Str} {p pos : Pos} {kws : List Keyword} {tk : TA} {g : List Value → List Value → List Value} {gV : List V → List V → List V}
def tKw (n : Nat) (gV : List V → List V) (sp : Sp) (tk : TA) : TE := fun σ H Q => tk σ H fun zs H1 => zs.length = n ∧ sp (gV zs) H1 Q L2.E0
/-- f(k = v, ..) -/
theorem pe_kw (F : FnOk X.prog X.w X.K X.mg X.base L2.CX0 k f fd ps sp) (hr : Room k X.A) (hg : Gl X x) (hm : X.mg x = some (.ref f)) (hk : PySem.W.keepIn X.K (.ref f) = true) (hb : KBn X.K fd ps 0 ks g gV)
    (hkw : PK X kws tk) (hall : (backToKw pos (keywordEach kws X.env)).all (·.1.isSome) = true := by rfl) (hks : (backToKw pos (keywordEach kws X.env)).filterMap (·.1) = ks := by rfl) (hdb : (x == ("__debug__" : Str)) = false := by decide)
    (hpl : ((backTo pos (starEach [] X.env)).any (·.1) || (backToKw pos (keywordEach kws X.env)).any (·.1.isNone)) = false := by rfl) :
    PE X (.Call (.Name x p) [] kws pos) (tKw ks.length (gV []) sp tk) := by
  refine ⟨fun pins s σ H Q I h => wpAny_Call_Name_kw (ld_glob I hg hm ?_ hdb)⟩
  refine PySem.W.callWith_KW0 (h₀ := X.base) I.ok.mod.kin hk hall (thn (hkw.run pos pins s σ H _ I h) fun ws s2 ⟨zs, H2, I2, rz, l2, q2⟩ => ⟨I2.kIn, ?_⟩) hpl
  rw [hks]
  exact run_fnN (us := []) (vs := []) F hr hb L2.pass0 I2 .nil rz rfl l2 q2
end
end Gk
namespace Gk
open PySem PySem.Spec PyProof.Rows L2 PySem.Builtin.Str

/-! ### powers of great numbers -/
def CBigPow (i j : Int) : Prop := 0 ≤ j ∧ (Builtin.Int.intBits i : Int) * j ≤ 2 ^ 27
theorem op_bigpow {X : Cx} : OpR X (binaryOp .Pow) (rI CBigPow fun i j => .int (i ^ j.toNat)) := opI fun _ _ _ _ _ _ _ hc q => pow_int hc.1 hc.2 q

/-! ### repr of data -/
theorem call_reprD {X : Cx} {k : Nat} (hr : Room k X.A) (hg : X.A.guards = some []) : CallR X (.builtin "repr") (fun xs H Q => ∃ v d, xs = [v] ∧ Dp X.K H v d ∧ d.showable = true ∧ d.hasDict = false ∧
    d.depth ≤ 40 ∧ d.shown.length ≤ sizeLine ∧ Q (.str d.shown) H) := by
  intro pins s σ H xs us Q I r h
  obtain ⟨v, d, rfl, hd, hs, hn, hdep, hz, q⟩ := h
  obtain ⟨u, rfl, ru⟩ := vals1 r
  have hun := hr.units
  cases hd with
  | non =>
    cases ru
    exact PySem.P.repr_of_none ⟨.str _, H, I.tok _, ⟨_, rfl⟩, q⟩
  | bl b =>
    cases ru
    exact PySem.P.repr_of_bool ⟨.str _, H, I.tok _, ⟨_, rfl⟩, q⟩
  | int i =>
    obtain ⟨t, rfl⟩ := ru
    exact PySem.P.repr_of_int (of_decide_eq_true hs) ⟨.str _, H, I.tok _, ⟨_, rfl⟩, q⟩
  | str x =>
    obtain ⟨t, rfl⟩ := ru
    exact PySem.P.repr_of_str ⟨.str _, H, I.tok _, ⟨_, rfl⟩, q⟩ hz
  | lst h1 h2 =>
    rename_i a xs ds
    obtain ⟨as, rd⟩ := Dp.reads I (.list ds) (.ref a) u (.lst h1 h2) ru
    cases ru
    exact repr_of_reads' rd hs (PyData.noDict_hsm hn) hg (by omega) (fun _ _ e => e) (fun h' t tk hk => ⟨.str _, H, I.kept (t' := tk) hk, ⟨_, rfl⟩, q⟩) hz
  | tup h1 h2 =>
    rename_i a xs ds
    obtain ⟨as, rd⟩ := Dp.reads I (.tuple ds) (.ref a) u (.tup h1 h2) ru
    cases ru
    exact repr_of_reads' rd hs (PyData.noDict_hsm hn) hg (by omega) (fun _ _ e => e) (fun h' t tk hk => ⟨.str _, H, I.kept (t' := tk) hk, ⟨_, rfl⟩, q⟩) hz

/-! ### a text from behind -/
theorem rev_signs (z : Str) : ((strSliceIndices none none (-1) z.length).filterMap (z.cps[·]?)).toArray = z.cps.toList.reverse.toArray := by
  have e : strSliceIndices none none (-1) z.length = (List.range z.cps.size).reverse := by
    show sliceRange ((z.cps.size : Int) - 1) (-1) (-1) = _
    rw [PySem.W.krv_sliceRange, PySem.W.krv_range]
  rw [e, List.filterMap_reverse, PySem.W.krv_all]
def tRevT (te : TE) : TE := fun σ H Q => te σ H fun x H1 => ∃ z : Str, x = .str z ∧ z.length ≤ sizeLine ∧ Q (.str ⟨z.cps.toList.reverse.toArray⟩) H1
theorem pe_revT {X : Cx} {e : Expr} {te : TE} {k : Nat} {p1 p2 p3 pos : Pos} (he : PE X e te) : PE X (.Subscript e (.Slice none none (some (.UnaryOp .USub (.Constant (.int 1) k p1) p2)) p3) pos) (tRevT te) := by
  refine ⟨fun pins s σ H Q I h => Subscript_ (thn (he.run pins s σ H _ I h) fun v s1 ⟨x, H1, I1, r1, z, ex, hz, q⟩ => ?_)⟩
  subst ex
  obtain ⟨t, rfl⟩ := r1
  have step : PO X (some (.UnaryOp .USub (.Constant (.int 1) k p1) p2)) (tPart (tUn (rU fun i => .int (-i)) (tC (.int 1)))) := po_some (pe_un un_neg pe_int)
  refine wpAny_Slice (thn (po_none.run pins s1 σ H1 (fun o G => o = none ∧ G = H1) I1 ⟨rfl, rfl⟩) fun vl s2 ⟨l, H2, I2, pl, el, e2⟩ => ?_)
  subst e2 el
  refine thn (po_none.run pins s2 σ H2 (fun o G => o = none ∧ G = H2) I2 ⟨rfl, rfl⟩) fun vu s3 ⟨u, H3, I3, pu, eu, e3⟩ => ?_
  subst e3 eu
  refine thn (step.run pins s3 σ H3 (fun o G => o = some (-1) ∧ G = H3) I3 ⟨1, rfl, -1, rfl, rfl, rfl⟩) fun vs s4 ⟨o, H4, I4, ps, eo, e4⟩ => ?_
  subst e4 eo
  obtain ⟨l, rfl, el⟩ := IsPart.raw pl
  obtain ⟨u, rfl, eu⟩ := IsPart.raw pu
  obtain ⟨w, rfl, ew⟩ := IsPart.raw ps
  have I5 : Inv X pins σ H4 { s4 with heap := s4.heap.push { cls := .type "slice", data := .fields #[partValue l, partValue u, partValue w] } } :=
    I4.kept (t' := s4.toks) fun b ob g => Heap.get?_push_of_some _ g
  refine tail_any (T := "str") (ops := [.str z t, .ref s4.heap.objs.size]) (typeIs_str _ _ _) F.slot_str_getitem.lookup ?_ (by with_unfolding_all rfl)
  refine wpAny_getItem_str_slice (l := l) (u := u) (st := w) ⟨_, Heap.get?_push_size _ rfl, rfl, rfl⟩ (by rw [ew]; rfl) ?_
  unfold sliceMade slicePicked
  rw [el, eu, ew]
  show Made.post (if ((-1 : Int) == 1 && _) = true then _ else Made.str ⟨((strSliceIndices none none (-1) z.length).filterMap (z.cps[·]?)).toArray⟩) _ _
  rw [show ((-1 : Int) == 1) = false from rfl, Bool.false_and, if_neg Bool.false_ne_true, rev_signs]
  have hl : (⟨z.cps.toList.reverse.toArray⟩ : Str).length ≤ sizeLine := by
    show z.cps.toList.reverse.toArray.size ≤ sizeLine
    rw [List.size_toArray, List.length_reverse, Array.length_toList]
    exact hz
  exact ⟨hl, .str _, H4, I5.tok _, ⟨_, rfl⟩, q⟩

/-! ### enumerate of a text -/
def Iet (z : Str) : It := ⟨fun i _ => i < z.cps.size, fun i H v H' => ∃ T c, v = .ref T ∧ H T = none ∧ z.cps[i]? = some c ∧ H' = upd H T (.tup [.int (i : Nat), .str ⟨#[c]⟩]), fun i _ => z.cps.size ≤ i⟩
theorem turn_et {P : Program} {w : World} {K : PySem.W.Frag} {elts : List Expr} {kk : Nat} {tpos : Pos} (e it : Addr) (z : Str) (t : Tok) :
    Turn P w K (.Tuple elts kk tpos) (Iet z) [e, it] e (fun i h => ((∃ old, IsEnum h e it i old) ∧ h.IsStrIter it (strIterType z) z t i) ∧ e ≠ it ∧ i ≤ z.cps.size) where
  mem := List.mem_cons_self
  obj := fun i h st b hb => by
    obtain ⟨⟨⟨old, he⟩, ⟨o, ho, hc, hd⟩⟩, _⟩ := st
    rcases List.mem_cons.mp hb with rfl | hb
    · exact ⟨_, he, fun v g => nomatch g⟩
    · rw [List.mem_singleton.mp hb]
      exact ⟨o, ho, fun v g => by rw [hd] at g; cases g⟩
  keep := fun i h h' st k => by
    obtain ⟨⟨⟨old, he⟩, ⟨o, ho, hc, hd⟩⟩, hne⟩ := st
    exact ⟨⟨⟨old, k e List.mem_cons_self _ he⟩, o, k it (List.mem_cons_of_mem _ List.mem_cons_self) o ho, hc, hd⟩, hne⟩
  item := by
    intro X hP hw hK hc i pins s σ H E I hf st hg
    subst hP hw hK
    have hg' : i < z.cps.size := hg
    obtain ⟨st, hne, hi⟩ := st
    have D : Draws X.prog X.w X.A.in1 it [it] z.cps.size _ _ := Draws.text (show X.A.in1.handled = none from I.ok.hd hc) it z t
    have W := WalksT.enumerateD D e hne (fun q => hne (List.mem_singleton.mp q)) List.mem_cons_self
    have hel : e < s.heap.objs.size := by obtain ⟨⟨old, he⟩, _⟩ := st; exact Heap.lt_size he
    have hil : it < s.heap.objs.size := by obtain ⟨_, o, ho, _⟩ := st; exact Heap.lt_size ho
    refine W.item i s _ _ hg' st fun T vals h' tk hp hT isT mid hk => ?_
    obtain ⟨t1, x1, ⟨c, u1, hcx, rfl⟩, rfl⟩ := hp
    have nT := W.apart i T h' mid
    refine ⟨_, rfl, W.go elts kk tpos i T { s with heap := h', toks := tk } _ _ mid fun h2 st2 hk2 => ?_⟩
    obtain ⟨oT, gT, cT, nTT, dT⟩ := isT
    have gT2 := hk2 T oT nT gT
    have new : ObjOk X.prog X.w (upd H T (.tup [.int (i : Nat), .str ⟨#[c]⟩])) h2 T (.tup [.int (i : Nat), .str ⟨#[c]⟩]) :=
      ⟨by show 2 ≤ sizeLine; decide, [.int i t1, .str ⟨#[c]⟩ u1], .cons ⟨_, rfl⟩ (.cons ⟨_, rfl⟩ .nil), ⟨oT, gT2, cT, nTT, dT⟩⟩
    have I1 : Inv X pins σ (upd H T (.tup [.int (i : Nat), .str ⟨#[c]⟩])) { s with heap := h2, toks := tk } :=
      I.turnedNew (ch := [e, it]) (fun b ob hb g => hk2 b ob hb (hk b ob hb g)) hf hT new
    refine ⟨.ref T, _, I1, rfl, ⟨T, c, rfl, I.hok.fresh hT, hcx, rfl⟩, ⟨⟨?_, st2.2⟩, hne, hg'⟩, fun b hb => ?_⟩
    · exact st2.1
    · have hb' : b < s.heap.objs.size := by
        rcases List.mem_cons.mp hb with rfl | hb
        · exact hel
        · rw [List.mem_singleton.mp hb]; exact hil
      rw [upd_ne (Nat.ne_of_lt (Nat.lt_of_lt_of_le hb' hT))]
      exact (hf b hb).1
  done := by
    intro X hP hw hK hc i pins s σ H E I hf st hg
    subst hP hw hK
    obtain ⟨st, hne, hi⟩ := st
    have hg' : z.cps.size ≤ i := hg
    obtain rfl : i = z.cps.size := Nat.le_antisymm hi hg'
    have D : Draws X.prog X.w X.A.in1 it [it] z.cps.size _ _ := Draws.text (show X.A.in1.handled = none from I.ok.hd hc) it z t
    have W := WalksT.enumerateD D e hne (fun q => hne (List.mem_singleton.mp q)) List.mem_cons_self
    refine W.done s _ _ st fun h' tk hk => ⟨rfl, ?_⟩
    exact I.step (g' := s.gens) (d' := s.drawn) (ch := [e, it]) (fun b hb => ⟨(hf b hb).2.2.2.1, (hf b hb).2.1, (hf b hb).2.2.2.2.1, (hf b hb).2.2.2.2.2⟩) (fun b o _ _ hc g _ => hk b o hc g) (fun b o _ _ hc g _ => ⟨o.slots, hk b o hc g⟩)
      (fun _ _ _ _ n => n) (fun b o hc g => ⟨o, hk b o hc g⟩) (fun _ _ g => g) (fun _ _ _ g => g) (fun b ps g => ⟨#[], by rw [g]; simp⟩)
      (fun m hm => by
        obtain ⟨o, es, ep, ho, r⟩ := hm
        exact ⟨o, es, ep, hk _ o (fun q => (hf _ q).2.1 rfl) ho, r⟩)
      (fun b u g => by
        have nb : ∀ c v, H c = some v → c ∉ [e, it] := fun c v g q => by
          have g' := (hf c q).1
          rw [g'] at g; cases g
        refine (I.hok b u g).stay (fun c v hcv q => hk c v ?_ q) (fun _ q => q) fun _ _ q => q
        rcases hcv with rfl | hcv
        · exact nb _ _ g
        · exact nb _ _ hcv) I.bare
  self := fun A i s Q E st h => by
    obtain ⟨⟨⟨old, he⟩, _⟩, _⟩ := st
    exact wpAny_pyIter_enum he h
def iEnumT (ta : TA) : TI := fun σ H R => ta σ H fun vs H1 => ∃ z, vs = [.str z] ∧ R (Iet z) H1
theorem pi_enumT {X : Cx} {e : Expr} {ta : TA} {p pos tpos : Pos} {elts : List Expr} {kk : Nat} (hg : Gl X "enumerate") (hm : X.mg "enumerate" = none) (ha : PA X [e] ta) (hs : starEach [e] X.env = [(false, eval e X.env)] := by rfl) :
    PI X (.Tuple elts kk tpos) (.Call (.Name "enumerate" p) [e] [] pos) (iEnumT ta) := by
  refine ⟨fun pins s σ H R I h => Call_ (ld_blt I hg hm boot_enumerate (PyProof.Rows.callWith_type1 (thn (ha.run pos pins s σ H _ I h) fun us s1 ⟨vs, H1, I1, r1, z, ez, q⟩ => ?_) hs rfl))⟩
  subst ez
  obtain ⟨u, rfl, t, rfl⟩ := vals1 r1
  refine call_enumerate_str fun h' he hit hsz hk => wpAny_pyIter_enum he ?_
  refine ⟨s1.heap.objs.size + 1, [s1.heap.objs.size + 1, s1.heap.objs.size], _, _, H1, rfl, I1.kept (t' := s1.toks) hk, turn_et (s1.heap.objs.size + 1) s1.heap.objs.size z t, ⟨⟨⟨.none, he⟩, hit⟩, Nat.succ_ne_self _, Nat.zero_le _⟩, fun b hb => ?_, q⟩
  have hle : s1.heap.objs.size ≤ b := by
    rcases List.mem_cons.mp hb with rfl | hb
    · exact Nat.le_succ _
    · rw [List.mem_singleton.mp hb]
      exact Nat.le_refl _
  exact I1.fpOk hle (I1.hok.fresh hle)
theorem walk_et {z : Str} : Walk (Iet z) z.cps.size (fun _ => True) (fun i H v H' => ∃ T c, v = .ref T ∧ H T = none ∧ z.cps[i]? = some c ∧ H' = upd H T (.tup [.int (i : Nat), .str ⟨#[c]⟩])) :=
  ⟨fun _ _ hi _ => hi, fun _ _ => Nat.le_refl _, fun _ _ _ _ _ _ y => y⟩
end Gk
namespace Gk
open PySem PySem.Spec PyProof.Rows L2
/-! ### the box of draws -/
def Box (m : Nat) (H : Hp) (b : Addr) : Prop := ∃ x y s : Int, H b = some (.lst [.int x, .int y, .int s]) ∧ 0 ≤ s ∧ s ≤ m
theorem Box.up {m n : Nat} {H : Hp} {b : Addr} (h : Box m H b) (hn : m ≤ n) : Box n H b := by
  obtain ⟨x, y, s, e, h0, h1⟩ := h
  exact ⟨x, y, s, e, h0, by omega⟩
/-- all but the box is as it was -/
def But (b : Addr) (H H' : Hp) : Prop := ∀ a o, a ≠ b → H a = some o → H' a = some o
theorem But.refl (b : Addr) (H : Hp) : But b H H := fun _ _ _ h => h
theorem But.trans {b : Addr} {H H1 H2 : Hp} (x : But b H H1) (y : But b H1 H2) : But b H H2 := fun a o n h => y a o n (x a o n h)
theorem But.set {b : Addr} {H : Hp} {o : HO} : But b H (upd H b o) := fun a u n h => by rw [upd_ne n]; exact h
theorem But.new {b p : Addr} {H : Hp} {o : HO} (h : H p = none) : But b H (upd H p o) := fun a u _ e => by rw [upd_ne (ne_of_none e h)]; exact e
theorem But.of_same {b : Addr} {H H' : Hp} (h : Same H H') : But b H H' := fun a o _ e => h a o e
theorem same_new {H : Hp} {p : Addr} {o : HO} (h : H p = none) : Same H (upd H p o) := fun a u e => by rw [upd_ne (ne_of_none e h)]; exact e
theorem Box.same {m : Nat} {H H' : Hp} {b : Addr} (h : Box m H b) (s : Same H H') : Box m H' b := by
  obtain ⟨x, y, z, e, r⟩ := h
  exact ⟨x, y, z, s _ _ e, r⟩
theorem Box.ne {m : Nat} {H : Hp} {b p : Addr} (h : Box m H b) (hp : H p = none) : b ≠ p := by
  obtain ⟨x, y, z, e, r⟩ := h
  exact ne_of_none e hp
theorem But.seqL {b : Addr} {K : PySem.W.Frag} {H H' : Hp} {a : Addr} {xs : List V} (e : But b H H') (n : a ≠ b) (h : SqL K H a xs) : SqL K H' a xs := by
  rcases h with (h | ⟨o, h⟩) | h
  · exact .inl (.inl (e _ _ n h))
  · exact .inl (.inr ⟨o, e _ _ n h⟩)
  · exact .inr h
theorem But.seqT {b : Addr} {K : PySem.W.Frag} {H H' : Hp} {a : Addr} {xs : List V} (e : But b H H') (n : a ≠ b) (h : SqT K H a xs) : SqT K H' a xs := by
  rcases h with (h | ⟨o, h⟩) | h
  · exact .inl (.inl (e _ _ n h))
  · exact .inl (.inr ⟨o, e _ _ n h⟩)
  · exact .inr h
theorem Same.seqT {K : PySem.W.Frag} {H H' : Hp} {a : Addr} {xs : List V} (e : Same H H') (h : SqT K H a xs) : SqT K H' a xs := by
  rcases h with (h | ⟨o, h⟩) | h
  · exact .inl (.inl (e _ _ h))
  · exact .inl (.inr ⟨o, e _ _ h⟩)
  · exact .inr h
/-- what is read at an address that is not the box's -/
theorem box_not_tup {m : Nat} {K : PySem.W.Frag} {H : Hp} {b a : Addr} (h : Box m H b) {xs : List V} (t : H a = some (.tup xs)) : a ≠ b := by
  obtain ⟨x, y, z, e, r⟩ := h
  exact ne_of t e (fun q => HO.noConfusion q)

/-! ### defs with their names -/
structure Dfn (P : Program) (w : World) (K : PySem.W.Frag) (mg : Str → Option Value) (base : Heap) (k : Nat) (x : Str) (ps : List Str) (sp : Sp) : Prop where
  ex : ∃ (f : Addr) (fd : FuncData), FnOk P w K mg base L2.CX0 k f fd ps sp ∧ mg x = some (.ref f) ∧ PySem.W.keepIn K (.ref f) = true ∧ Binds K fd ps []
/-- .. where nothing is being shown -/
structure DfG (P : Program) (w : World) (K : PySem.W.Frag) (mg : Str → Option Value) (base : Heap) (k : Nat) (x : Str) (ps : List Str) (sp : Sp) : Prop where
  ex : ∃ (f : Addr) (fd : FuncData), FnG P w K mg base k f fd ps sp ∧ mg x = some (.ref f) ∧ PySem.W.keepIn K (.ref f) = true ∧ Binds K fd ps []
section
variable {X : Cx} {k j : Nat} {x : Str} {ps : List Str} {sp : Sp} {p pos : Pos} {e : Expr} {es : List Expr} {t : TA}
theorem pe_d (D : Dfn X.prog X.w X.K X.mg X.base k x ps sp) (hr : Room j X.A) (hk : k ≤ j) (hg : Gl X x) (ha : PA X (e :: es) t)
    (hdb : (x == ("__debug__" : Str)) = false := by decide) (he : starEach (e :: es) X.env = (false, eval e X.env) :: starEach es X.env := by rfl)
    (hpl : (backTo pos (starEach es X.env)).any (·.1) = false := by rfl) : PE X (.Call (.Name x p) (e :: es) [] pos) (tCall sp [] L2.E0 t) := by
  obtain ⟨f, fd, F, m, kp, b⟩ := D.ex
  exact L2.pe_call (F.mono hk) hr hg m kp b .nil L2.pass0 ha hdb he hpl
theorem pe_dg (D : DfG X.prog X.w X.K X.mg X.base k x ps sp) (hr : Room j X.A) (hd : X.A.guards = some []) (hk : k ≤ j) (hg : Gl X x) (ha : PA X (e :: es) t)
    (hdb : (x == ("__debug__" : Str)) = false := by decide) (he : starEach (e :: es) X.env = (false, eval e X.env) :: starEach es X.env := by rfl)
    (hpl : (backTo pos (starEach es X.env)).any (·.1) = false := by rfl) : PE X (.Call (.Name x p) (e :: es) [] pos) (tG sp t) := by
  obtain ⟨f, fd, F, m, kp, b⟩ := D.ex
  exact pe_g (F.weak hk) hr hd hg m kp b ha hdb he hpl
end
/-- an expression whose ways meet -/
def tMid (t : TE) : TE := fun σ H Q => ∃ Mid : V → Hp → Prop, t σ H Mid ∧ ∀ v H', Mid v H' → Q v H'
theorem pe_mid {X : Cx} {e : Expr} {t : TE} (h : PE X e t) : PE X e (tMid t) :=
  ⟨fun pins s σ H Q I ⟨M, h1, h2⟩ => thn (h.run pins s σ H M I h1) fun u s1 ⟨v, H1, I1, r, q⟩ => ⟨v, H1, I1, r, h2 v H1 q⟩⟩
/-- a test whose ways meet -/
def tMidT (t : TT) : TT := fun σ H Q => ∃ Mid : Bool → Hp → Prop, t σ H Mid ∧ ∀ b H', Mid b H' → Q b H'
/-- a def called by keywords alone -/
structure DfK (P : Program) (w : World) (K : PySem.W.Frag) (mg : Str → Option Value) (base : Heap) (k : Nat) (x : Str) (ps ks : List Str) (gV : List V → List V) (sp : Sp) : Prop where
  ex : ∃ (f : Addr) (fd : FuncData) (g : List Value → List Value → List Value), FnOk P w K mg base L2.CX0 k f fd ps sp ∧ mg x = some (.ref f) ∧ PySem.W.keepIn K (.ref f) = true ∧ KBn K fd ps 0 ks g (fun _ zs => gV zs)
theorem pe_dk {X : Cx} {k j : Nat} {x : Str} {ps ks : List Str} {sp : Sp} {gV : List V → List V} {p pos : Pos} {kws : List Keyword} {tk : TA} (D : DfK X.prog X.w X.K X.mg X.base k x ps ks gV sp) (hr : Room j X.A) (hk : k ≤ j) (hg : Gl X x)
    (hkw : PK X kws tk) (hall : (backToKw pos (keywordEach kws X.env)).all (·.1.isSome) = true := by rfl) (hks : (backToKw pos (keywordEach kws X.env)).filterMap (·.1) = ks := by rfl) (hdb : (x == ("__debug__" : Str)) = false := by decide)
    (hpl : ((backTo pos (starEach [] X.env)).any (·.1) || (backToKw pos (keywordEach kws X.env)).any (·.1.isNone)) = false := by rfl) :
    PE X (.Call (.Name x p) [] kws pos) (tKw ks.length gV sp tk) := by
  obtain ⟨f, fd, g, F, m, kp, b⟩ := D.ex
  exact pe_kw (F.mono hk) hr hg m kp b hkw hall hks hdb hpl
/-- text * n -/
theorem op_mulS {X : Cx} : OpR X (binaryOp .Mult) (fun x y H Q => ∃ z n, x = .str z ∧ y = .int n ∧ MulOk z n ∧ Q (.str (Txt.mul z n)) H) := by
  intro pins s σ H x y v u Q I rx ry h
  obtain ⟨z, n, rfl, rfl, hc, q⟩ := h
  obtain ⟨t, rfl⟩ := rx
  obtain ⟨t', rfl⟩ := ry
  exact SB.mul hc fun t2 k => ⟨.str _, H, I.tok _, ⟨_, rfl⟩, q⟩
/-- data that may be shown -/
structure Fine (d : PyData) : Prop where
  a : d.showable = true
  b : d.hasDict = false
  c : d.depth ≤ 40
  e : d.shown.length ≤ sizeLine
theorem Fine.of {d : PyData} (B : Nat) (hB : 8 ≤ B) (hB2 : B ≤ 1000) (a : d.showable = true) (b : d.hasDict = false) (c : d.depth ≤ 40) (l : d.leavesShort B = true) (w : d.weight ≤ 10000) : Fine d :=
  ⟨a, b, c, by
    have h := PyData.shown_le B hB d l
    have h2 : (B + 2) * d.weight ≤ 1002 * 10000 := Nat.mul_le_mul (by omega) w
    have h3 : sizeLine = 16777216 := sizeLine_eq
    omega⟩
theorem call_reprF {X : Cx} {k : Nat} (hr : Room k X.A) (hg : X.A.guards = some []) : CallR X (.builtin "repr") (fun xs H Q => ∃ v d, xs = [v] ∧ Dp X.K H v d ∧ Fine d ∧ Q (.str d.shown) H) :=
  fun pins s σ H xs us Q I r ⟨v, d, h1, h2, h3, q⟩ => call_reprD hr hg pins s σ H xs us Q I r ⟨v, d, h1, h2, h3.a, h3.b, h3.c, h3.e, q⟩
theorem fine_ints {a b : Int} (ha : a.natAbs < 10 ^ 20) (hb : b.natAbs < 10 ^ 20) : Fine (.list [.int a, .int b]) := by
  have len : ∀ c : Int, c.natAbs < 10 ^ 20 → (PyData.shown (.int c)).length ≤ 21 := fun c hc => by
    have h := int_text_length_le10 (a := c) (k := 20) (by decide) hc
    show (Str.ofString (toString c)).length ≤ 21
    rw [PySem.ofString_length]
    exact h
  have la := len a ha
  have lb := len b hb
  have ga : a.natAbs.log2 < 1920 := PySem.Flt.log2_lt_of (by decide) (Nat.lt_of_lt_of_le ha (by decide))
  have gb : b.natAbs.log2 < 1920 := PySem.Flt.log2_lt_of (by decide) (Nat.lt_of_lt_of_le hb (by decide))
  refine Fine.of 21 (by decide) (by decide) ?_ rfl (by simp [PyData.depth, PyData.depthAll]) ?_ (by simp only [PyData.weight, PyData.weightAll]; split <;> split <;> omega)
  · simp only [PyData.showable, PyData.showableAll, ga, gb, decide_true, Bool.and_self]
  · simp only [PyData.leavesShort, PyData.leavesShortAll, la, lb, decide_true, Bool.and_self]
/-- a promise that does not speak of what is raised, as a value -/
theorem sqL_at {K : PySem.W.Frag} {H : Hp} {a : Addr} {xs : List V} (h : H a = some (.lst xs)) : SqL K H a xs := SqL.of h
end Gk
namespace Gk
open PySem PySem.Spec PyProof.Rows L2
/-- the caller shows nothing -/
theorem caller_guards : callerA.guards = some [] := rfl
/-- the law's call, its promise told where nothing is being shown -/
theorem callG {P : Program} {w : World} {K : PySem.W.Frag} {mg mb : Str → Option Value} {k : Nat} {fa a : Addr} {fd : FuncData} {x : Str} {sp : Sp} {s1 : Shared} {vs : List Value} {ns : List Int}
    (KX : K.In s1.heap) (n1 : s1.heap.Ns mainGlobals mg) (n2 : s1.heap.Ns builtinsNs mb) (n3 : ∀ x : Str, x ≠ "__name__" → mb x = bootBuiltins x) (lim : s1.heap.NoLimit) (gen : s1.gens = #[])
    (at_ : s1.heap.get? a = some { cls := .type "list", data := .seq vs.toArray }) (iss : IntsAre vs ns) (few : ns.length ≤ sizeLine) (room : Room k callerA)
    (F : ∀ base : Heap, K.In base → base.Ns mainGlobals mg → FnG P w K mg base k fa fd [x] sp) (binds : ∀ (s : Shared) (u : Value), BindsTo s fd ⟨[u], []⟩ [(x, u)])
    (want : ∀ H : Hp, Only H → SqL K H a (ns.map V.int) → sp [.ref a] H (fun v _ => v = .bl true) L2.E0) :
    codeAny (model P w) callerA (.call (.ref fa) ⟨[.ref a], []⟩) (fun r s' => r = .ok (.ret (.bool true)) ∧ OldK s1.heap s'.heap ∧ s'.os = s1.os ∧ AllBare s'.gens) s1 := by
  have rv := L2.vals_ints iss
  have go : ∀ H : Hp, Only H → SqL K H a (ns.map V.int) → HOk P w H s1.heap → (∀ b, H b ≠ none → b = a) → (H a ≠ none → K.lookup a = none) →
      codeAny (model P w) callerA (.call (.ref fa) ⟨[.ref a], []⟩) (fun r s' => r = .ok (.ret (.bool true)) ∧ OldK s1.heap s'.heap ∧ s'.os = s1.os ∧ AllBare s'.gens) s1 := by
    intro H only there held alone apart
    have isA : ∀ {b : Addr} {u : HO}, H b = some u → b = a := fun {b u} e => alone b (fun z => by rw [e] at z; cases z)
    have free : ∀ {b : Addr} {o : Obj} {es : Array DictEntry} {ep : Nat}, s1.heap.get? b = some o → o.data = .dict es ep → H b = none := by
      intro b o es ep e d
      cases q : H b with
      | none => rfl
      | some u =>
        obtain rfl := isA q
        rw [at_] at e
        cases e
        exact Data.noConfusion (show Data.seq vs.toArray _ = Data.dict es ep from d)
    have nsB : ∀ {b : Addr} {m : Str → Option Value}, s1.heap.Ns b m → (hidT s1.heap H).Ns b m := by
      intro b m h
      obtain ⟨o, es, ep, e, d, r⟩ := h
      exact ⟨o, es, ep, hidT_get e (free e d), d, r⟩
    have KB : K.In (hidT s1.heap H) := by
      intro b o e
      refine hidT_get (KX b o e) ?_
      cases q : H b with
      | none => rfl
      | some u =>
        obtain rfl := isA q
        have z := apart (fun z => by rw [q] at z; cases z)
        rw [z] at e
        cases e
    obtain ⟨mc, c1, c2⟩ := lim
    have en : Env0 P w K mg (hidT s1.heap H) callerA [] s1 H :=
      { frames := rfl, mod := ⟨KB, nsB n1, ⟨mb, nsB n2, n3⟩, ⟨mc, nsB c1, c2⟩⟩, bs := fun b o e => of_hidT e, bsz := Nat.le_of_eq (hidT_size _ _), funs := trivial,
        frf := fun b hb => (nomatch (show b ∈ ([] : List Addr) from hb)), hok := held, bare := .of_eq gen }
    refine codeAny_mono ((F _ KB (nsB n1)).go callerA [] s1 H ⟨[.ref a], []⟩ [.ref a] [.ref a] _ room caller_guards en (binds s1 (.ref a)) (.cons rfl .nil) (want H only there)) fun r s' res => ?_
    match r, res with
    | .error _, res => exact False.elim res
    | .ok .next, res => exact False.elim res
    | .ok .brk, res => exact False.elim res
    | .ok .cont, res => exact False.elim res
    | .ok (.ret u), res =>
      obtain ⟨v, H1, os, bare, un, held1, rel, qv⟩ := res
      have qv : v = .bl true := qv
      subst qv
      obtain rfl : u = Value.bool true := rel
      refine ⟨rfl, OldK.of_keep fun b o e => ?_, os, bare⟩
      cases q : H b with
      | none => exact un.keep b o e q (fun z => (nomatch (show b ∈ ([] : List Addr) from z))) (fun z => (nomatch z))
      | some u =>
        rcases only b with z | ⟨ob, xs, z⟩
        · rw [q] at z
          cases z
        · have f1 := (held b _ z).1
          have f2 := (held1 b _ (un.frzs b ob _ z)).1
          rw [e] at f1
          cases f1
          exact f2
  cases kl : K.lookup a with
  | some o =>
    have e := KX a o kl
    rw [at_] at e
    cases e
    exact go (fun _ => none) (fun _ => .inl rfl) (.inr ⟨_, vs.toArray, _, kl, rfl, rfl, rfl, by rw [List.size_toArray, iss.length]; exact few, by simpa using rv⟩) (fun b u z => (nomatch (show (none : Option HO) = some u from z))) (fun b z => absurd rfl z) (fun z => absurd rfl z)
  | none =>
    refine go (fun b => if b = a then some (.frz { cls := .type "list", data := .seq vs.toArray } (.lst (ns.map V.int))) else none) ?_ (.inl (.inr ⟨_, if_pos rfl⟩)) ?_ ?_ (fun _ => kl)
    · intro b
      by_cases h : b = a
      · exact .inr ⟨_, _, if_pos h⟩
      · exact .inl (if_neg h)
    · intro b u z
      by_cases h : b = a
      · obtain rfl := Option.some.inj ((if_pos h).symm.trans z)
        subst h
        exact ⟨at_, by rw [List.length_map]; exact few, vs, _, rv, at_⟩
      · exact (nomatch ((if_neg h).symm.trans z))
    · intro b z
      by_cases h : b = a
      · exact h
      · exact absurd (if_neg h) z

/-- the goal behind the head -/
theorem walkG {l : PySem.W.OpenLaw} {n k : Nat} {q : Program} {loose : List Str} {XP : (Str → Option Value) → Heap → Prop} {YP : World → Heap → Prop} {d : DefRec} {K : Params → PySem.W.Frag} {sp : World → Sp} {x : Str}
    (h1 : l.most = some n) (h2 : n ≤ sizeLine) (h3 : d.params.defaults = []) (h4 : Room k callerA) (h5 : ∀ (w : World) (h : Heap), YP w h → (K w.params).In h)
    (F : ∀ (w : World) (mg : Str → Option Value) (fa : Addr) (h : Heap), (K w.params).In h → h.Ns mainGlobals mg → mg d.name = some (.ref fa) →
      ∃ fd : FuncData, (∀ (s : Shared) (u : Value), BindsTo s fd ⟨[u], []⟩ [(x, u)]) ∧ ∀ base : Heap, (K w.params).In base → base.Ns mainGlobals mg → FnG l.prog w (K w.params) mg base k fa fd [x] (sp w))
    (h6 : ∀ (w : World) (H : Hp) (a : Addr) (ns : List Int), ns.length ≤ n → Only H → SqL (K w.params) H a (ns.map V.int) → sp w [.ref a] H (fun v _ => v = .bl true) L2.E0) :
    PySem.W.WalkO q loose XP YP l.row.toRowW d [] (fun f vs => PySem.call f vs) :=
  Att.attach_call h1 h3 fun w s0 s1 mg mb fa o pm cd doc a vs ns G Y ho hd hcd hmg obj iss len gen => by
    obtain ⟨fd, hb, hF⟩ := F w mg fa _ (h5 w _ Y) G.T.g hmg
    exact callG (h5 w _ Y) G.T.g G.T.b G.T.builtins G.T.nolimit gen obj iss (Nat.le_trans len h2) h4 hF hb (fun H hO hS => h6 w H a ns len hO hS)
end Gk
namespace Gk
open PySem PySem.Spec PyProof.Rows L2
theorem mul_same (l : Addr) (its : Array Value) (n : Nat) (dd : Option Addr) (sl : Array (Option Value)) (u : Tok) :
    Meets (Builtin.«tuple.__mul__» ⟨[.ref l, .int 1 u], []⟩) (fun _ R s => s.heap.get? l = some { cls := .type "tuple", dict := dd, data := .seq its n, slots := sl } ∧ R (.ok (.ret (.ref l))) s) :=
  .of_wp fun prog w A R s h => by
    obtain ⟨hp, g, d, tk, os⟩ := s
    obtain ⟨hl, h⟩ := h
    have f1 := AutoSeq1.idx_int
    have c0 : (decide ((1 : Int) < -(2 ^ 63)) || decide ((1 : Int) ≥ 2 ^ 63)) = false := by decide
    have c1 : (its.isEmpty || (1 : Int) == 1) = true := by simp
    wp_walk using wpAny_loadPart' hl
    repeat (first
      | (refine wpAny_ite_false (decide_eq_false (by rw [c0]; exact Bool.false_ne_true)) ?_; wp_walk using wpAny_loadPart' hl)
      | (refine wpAny_ite_true (decide_eq_true (by rw [c1])) ?_; wp_walk using wpAny_loadPart' hl))
    all_goals first | exact ⟨_, rfl, h⟩ | skip
theorem mul_none (l : Addr) (its : Array Value) (n : Nat) (dd : Option Addr) (sl : Array (Option Value)) (x : Int) (u : Tok) (hx : x ≤ 0) (hx2 : -(2 ^ 63) ≤ x) (hi : its.isEmpty = false) :
    Meets (Builtin.«tuple.__mul__» ⟨[.ref l, .int x u], []⟩) (fun _ R s => s.heap.get? l = some { cls := .type "tuple", dict := dd, data := .seq its n, slots := sl } ∧
      R (.ok (.ret (Value.ref s.heap.objs.size))) { s with heap := s.heap.push { cls := Value.type "tuple", data := Data.seq #[] }, toks := s.toks }) :=
  .of_wp fun prog w A R s h => by
    obtain ⟨hp, g, d, tk, os⟩ := s
    obtain ⟨hl, h⟩ := h
    have f1 := AutoSeq1.idx_int
    have c0 : (decide (x < -(2 ^ 63)) || decide (x ≥ 2 ^ 63)) = false := by
      rw [decide_eq_false (by omega), decide_eq_false (by omega)] <;> rfl
    have c1 : (its.isEmpty || x == 1) = false := by
      rw [hi, Bool.false_or]
      exact beq_eq_false_iff_ne.mpr (by omega)
    have c2 : (decide (x ≤ 0) || its.isEmpty) = true := by
      rw [decide_eq_true hx] <;> rfl
    wp_walk using wpAny_loadPart' hl
    repeat (first
      | (refine wpAny_ite_false (decide_eq_false (by rw [c0]; exact Bool.false_ne_true)) ?_; wp_walk using wpAny_loadPart' hl)
      | (refine wpAny_ite_false (decide_eq_false (by rw [c1]; exact Bool.false_ne_true)) ?_; wp_walk using wpAny_loadPart' hl)
      | (refine wpAny_ite_true (decide_eq_true (by rw [c2])) ?_; wp_walk using wpAny_loadPart' hl))
    all_goals first | exact ⟨_, rfl, h⟩ | skip
/-- t * k, whatever object it is -/
def rRepU (K : PySem.W.Frag) : R2 := fun x y H Q => ∃ l k xs, x = .ref l ∧ y = .int k ∧ SqT K H l xs ∧ xs ≠ [] ∧ 0 ≤ k ∧ k ≤ 1000 ∧ xs.length ≤ 1000 ∧
  ∀ p H', Same H H' → SqT K H' p (List.replicate k.toNat xs).flatten → Q (.ref p) H'
section
variable {X : Cx}
theorem op_repU : OpR X (binaryOp .Mult) (rRepU X.K) := by
  intro pins s σ H x y v u Q I rx ry h
  obtain ⟨l, k, xs, rfl, rfl, hT, hne, h0, h1, hz, q⟩ := h
  by_cases h2 : 2 ≤ k
  · exact op_repT pins s σ H _ _ v u Q I rx ry ⟨l, k, xs, rfl, rfl, hT, hne, h2, h1, hz, fun p np => q p _ (same_new np) (.inl (.inl upd_same))⟩
  · cases rx
    obtain ⟨t, rfl⟩ := ry
    obtain ⟨its, r, ⟨⟨cls, dd, data, sl⟩, ho, hc, n, hd⟩, hs⟩ := I.tuple hT
    simp only at hc hd
    subst hc hd
    have many : its.length = xs.length := r.length.symm
    have full : its.toArray.isEmpty = false := by
      cases its with
      | nil => exact absurd (List.eq_nil_of_length_eq_zero many.symm) hne
      | cons a b => rfl
    by_cases h3 : k = 1
    · subst h3
      refine wpAny_binaryOp_repeat_ref (T := "tuple") (U := "int") (by decide) ⟨_, ho, rfl⟩ (fun s' => typeIs_int s' 1 t) noFill_tuple_mul F.fills_int_mul F.slot_int_rmul repeat_tuple F.slot_int_index.lookup
        (call_meets F.slot_int_rmul (typeIs_int s 1 t) F.entry_int_rmul (F.args_int_rmul_2 _ _) (int_rmul_tuple 1 t l its.toArray n dd sl)
          ⟨ho, rfl, ⟨_, ho, rfl⟩, call_meets F.slot_tuple_mul ⟨_, ho, rfl⟩ F.entry_tuple_mul (F.args_tuple_mul_2 _ _) (mul_same l its.toArray n dd sl t) ⟨ho, ?_⟩⟩)
      refine ⟨.ref l, H, I, rfl, q l H (Same.refl H) ?_⟩
      show SqT X.K H l ([xs].flatten)
      rw [List.flatten_cons, List.flatten_nil, List.append_nil]
      exact hT
    · have h4 : k = 0 := by omega
      subst h4
      refine wpAny_binaryOp_repeat_ref (T := "tuple") (U := "int") (by decide) ⟨_, ho, rfl⟩ (fun s' => typeIs_int s' 0 t) noFill_tuple_mul F.fills_int_mul F.slot_int_rmul repeat_tuple F.slot_int_index.lookup
        (call_meets F.slot_int_rmul (typeIs_int s 0 t) F.entry_int_rmul (F.args_int_rmul_2 _ _) (int_rmul_tuple 0 t l its.toArray n dd sl)
          ⟨ho, rfl, ⟨_, ho, rfl⟩, call_meets F.slot_tuple_mul ⟨_, ho, rfl⟩ F.entry_tuple_mul (F.args_tuple_mul_2 _ _) (mul_none l its.toArray n dd sl 0 t (by decide) (by decide) full) ⟨ho, ?_⟩⟩)
      have nf : H s.heap.objs.size = none := I.hok.fresh (Nat.le_refl _)
      exact ⟨.ref s.heap.objs.size, upd H s.heap.objs.size (.tup []), I.laid (t' := s.toks) (fun b ob g => Heap.get?_push_of_some _ g) (Nat.le_refl _) ⟨Nat.zero_le _, [], .nil, IsTup.new _ _⟩, rfl, q _ _ (same_new nf) (.inl (.inl upd_same))⟩
/-- t + u, whatever object it is -/
def rCatU (K : PySem.W.Frag) : R2 := fun x y H Q => ∃ a b xs ys, x = .ref a ∧ y = .ref b ∧ SqT K H a xs ∧ SqT K H b ys ∧ xs.length + ys.length ≤ sizeLine ∧ ∀ p H', Same H H' → SqT K H' p (xs ++ ys) → Q (.ref p) H'
theorem op_catU : OpR X (binaryOp .Add) (rCatU X.K) := by
  intro pins s σ H x y v u Q I rx ry h
  obtain ⟨a, b, xs, ys, rfl, rfl, ha, hb, hz, q⟩ := h
  refine op_catA pins s σ H _ _ v u Q I rx ry ⟨a, b, xs, ys, rfl, rfl, ha, hb, hz, fun e => ?_, fun _ e => ?_, fun _ _ p np => q p _ (same_new np) (.inl (.inl upd_same))⟩
  · subst e
    exact q b H (Same.refl H) hb
  · subst e
    exact q a H (Same.refl H) (by rw [List.append_nil]; exact ha)
theorem cut_whole {xs : List V} {lo hi : Option Int} (h : HT.sIx xs.length 0 lo = 0 ∧ HT.sIx xs.length xs.length hi = xs.length) : cutV xs lo hi = xs := by
  unfold cutV
  rw [h.1, h.2]
  simp
/-- t[lo:hi], whatever object it is -/
def rSlU (K : PySem.W.Frag) : V → Option Int → Option Int → Hp → VK → Prop := fun x lo hi H Q => ∃ a xs, x = .ref a ∧ SqT K H a xs ∧ ∀ p H', Same H H' → SqT K H' p (cutV xs lo hi) → Q (.ref p) H'
theorem sl_tupU : SlR X (rSlU X.K) := by
  intro pins s σ H x v vl vu lo hi sl Q I rx hs pl pu h
  obtain ⟨a, xs, rfl, hx, q⟩ := h
  exact sl_tupA pins s σ H _ v vl vu lo hi sl Q I rx hs pl pu ⟨a, xs, rfl, hx, fun e => q a H (Same.refl H) (by rw [cut_whole e]; exact hx), fun _ p np => q p _ (same_new np) (.inl (.inl upd_same))⟩
end
theorem cut_to {xs : List V} (n : Nat) : cutV xs none (some (n : Int)) = xs.take n := by
  unfold cutV
  rw [HT.sIx_none, HT.sIx_nat]
  show ((xs.drop 0).take (min n xs.length - 0)) = _
  rw [List.drop_zero, Nat.sub_zero, Nat.min_comm, List.take_eq_take_iff]
  omega
theorem cut_from {xs : List V} (n : Nat) : cutV xs (some (n : Int)) none = xs.drop n := by
  unfold cutV
  rw [HT.sIx_none, HT.sIx_nat]
  by_cases h : n ≤ xs.length
  · rw [Nat.min_eq_left h, List.take_of_length_le (by rw [List.length_drop]; exact Nat.le_refl _)]
  · rw [Nat.min_eq_right (by omega), List.drop_eq_nil_of_le (Nat.le_refl _), List.drop_eq_nil_of_le (by omega)]
    exact List.take_nil
end Gk
namespace Gk
open PySem PySem.Spec PyProof.Rows L2
/-! ### data that is easily shown and compared -/
mutual
def tame : PyData → Bool
  | .none | .bool _ => true
  | .int i => decide (i.natAbs < 10 ^ 20)
  | .str x => x.cps.all (· < 0x110000)
  | .list xs | .tuple xs => tameAll xs
  | .dict _ => false
def tameAll : List PyData → Bool
  | [] => true
  | x :: xs => tame x && tameAll xs
end
mutual
def cost : PyData → Nat
  | .none | .bool _ | .int _ => 70
  | .str x => x.cps.size + 1
  | .list xs | .tuple xs => costAll xs
  | .dict _ => 0
def costAll : List PyData → Nat
  | [] => 1
  | x :: xs => cost x + 1 + costAll xs
end
theorem int_len20 {c : Int} (hc : c.natAbs < 10 ^ 20) : (PyData.shown (.int c)).length ≤ 21 := by
  have h := int_text_length_le10 (a := c) (k := 20) (by decide) hc
  show (Str.ofString (toString c)).length ≤ 21
  rw [PySem.ofString_length]
  exact h
theorem int_log20 {c : Int} (hc : c.natAbs < 10 ^ 20) : c.natAbs.log2 < 68 := PySem.Flt.log2_lt_of (by decide) (Nat.lt_of_lt_of_le hc (by decide))
mutual
theorem tame_showable : ∀ d : PyData, tame d = true → d.showable = true
  | .none, _ => rfl
  | .bool _, _ => rfl
  | .int i, h => by
    have h1 := int_log20 (of_decide_eq_true (by simpa only [tame] using h))
    simp only [PyData.showable]
    exact decide_eq_true (by omega)
  | .str _, _ => rfl
  | .list xs, h => by simpa only [PyData.showable] using tame_showableAll xs (by simpa only [tame] using h)
  | .tuple xs, h => by simpa only [PyData.showable] using tame_showableAll xs (by simpa only [tame] using h)
  | .dict _, h => by simp [tame] at h
theorem tame_showableAll : ∀ ds : List PyData, tameAll ds = true → PyData.showableAll ds = true
  | [], _ => rfl
  | x :: xs, h => by
    simp only [tameAll, Bool.and_eq_true] at h
    simp only [PyData.showableAll, tame_showable x h.1, tame_showableAll xs h.2, Bool.and_self]
end
mutual
theorem tame_nodict : ∀ d : PyData, tame d = true → d.hasDict = false
  | .none, _ => rfl
  | .bool _, _ => rfl
  | .int _, _ => rfl
  | .str _, _ => rfl
  | .list xs, h => by simpa only [PyData.hasDict] using tame_nodictAll xs (by simpa only [tame] using h)
  | .tuple xs, h => by simpa only [PyData.hasDict] using tame_nodictAll xs (by simpa only [tame] using h)
  | .dict _, h => by simp [tame] at h
theorem tame_nodictAll : ∀ ds : List PyData, tameAll ds = true → PyData.hasDictAll ds = false
  | [], _ => rfl
  | x :: xs, h => by
    simp only [tameAll, Bool.and_eq_true] at h
    simp only [PyData.hasDictAll, tame_nodict x h.1, tame_nodictAll xs h.2, Bool.or_self]
end
mutual
theorem tame_short : ∀ d : PyData, tame d = true → d.leavesShort 21 = true
  | .none, _ => rfl
  | .bool _, _ => rfl
  | .int i, h => by
    have h1 := int_len20 (of_decide_eq_true (by simpa only [tame] using h))
    simp only [PyData.leavesShort]
    exact decide_eq_true h1
  | .str x, h => by
    have h1 : x.cps.all (· < 0x110000) = true := by simpa only [tame] using h
    simp only [PyData.leavesShort, List.all_eq_true, decide_eq_true_eq]
    intro c hc
    rw [Array.all_eq_true_iff_forall_mem] at h1
    have h2 := h1 c (Array.mem_toList_iff.mp hc)
    have h3 : c < 0x110000 := by simpa using h2
    exact Nat.lt_of_lt_of_le h3 (by decide)
  | .list xs, h => by simpa only [PyData.leavesShort] using tame_shortAll xs (by simpa only [tame] using h)
  | .tuple xs, h => by simpa only [PyData.leavesShort] using tame_shortAll xs (by simpa only [tame] using h)
  | .dict _, h => by simp [tame] at h
theorem tame_shortAll : ∀ ds : List PyData, tameAll ds = true → PyData.leavesShortAll 21 ds = true
  | [], _ => rfl
  | x :: xs, h => by
    simp only [tameAll, Bool.and_eq_true] at h
    simp only [PyData.leavesShortAll, tame_short x h.1, tame_shortAll xs h.2, Bool.and_self]
end
mutual
theorem tame_weight : ∀ d : PyData, tame d = true → d.weight ≤ cost d
  | .none, _ => Nat.zero_le _
  | .bool _, _ => Nat.zero_le _
  | .int i, h => by
    have h1 := int_log20 (of_decide_eq_true (by simpa only [tame] using h))
    simp only [PyData.weight, cost]
    split <;> omega
  | .str x, h => by
    simp only [PyData.weight, cost]
    omega
  | .list xs, h => by simpa only [PyData.weight, cost] using tame_weightAll xs (by simpa only [tame] using h)
  | .tuple xs, h => by simpa only [PyData.weight, cost] using tame_weightAll xs (by simpa only [tame] using h)
  | .dict _, h => by simp [tame] at h
theorem tame_weightAll : ∀ ds : List PyData, tameAll ds = true → PyData.weightAll ds ≤ costAll ds
  | [], _ => Nat.zero_le _
  | x :: xs, h => by
    simp only [tameAll, Bool.and_eq_true] at h
    have h1 := tame_weight x h.1
    have h2 := tame_weightAll xs h.2
    simp only [PyData.weightAll, costAll]
    omega
end
mutual
theorem tame_lay : ∀ d : PyData, tame d = true → d.canLay0 = true
  | .none, _ => rfl
  | .bool _, _ => rfl
  | .int _, _ => rfl
  | .str x, h => by
    have h1 : x.cps.all (· < 0x110000) = true := by simpa only [tame] using h
    simpa only [PyData.canLay0, PyData.strOk] using h1
  | .list xs, h => by simpa only [PyData.canLay0] using tame_layAll xs (by simpa only [tame] using h)
  | .tuple xs, h => by simpa only [PyData.canLay0] using tame_layAll xs (by simpa only [tame] using h)
  | .dict _, h => by simp [tame] at h
theorem tame_layAll : ∀ ds : List PyData, tameAll ds = true → PyData.canLayAll0 ds = true
  | [], _ => rfl
  | x :: xs, h => by
    simp only [tameAll, Bool.and_eq_true] at h
    simp only [PyData.canLayAll0, tame_lay x h.1, tame_layAll xs h.2, Bool.and_self]
end
theorem Fine.tame {d : PyData} (h : Gk.tame d = true) (hd : d.depth ≤ 40) (hc : cost d ≤ 500000) : Fine d :=
  ⟨tame_showable d h, tame_nodict d h, hd, by
    have h1 := PyData.shown_le 21 (by decide) d (tame_short d h)
    have h2 := tame_weight d h
    have h3 : sizeLine = 16777216 := sizeLine_eq
    omega⟩
theorem tame_shaped {d : PyData} (h : tame d = true) (hd : d.depth ≤ 40) : SeqAt.shaped d = true := by
  unfold SeqAt.shaped
  rw [tame_lay d h, Bool.true_and]
  exact decide_eq_true (by omega)

/-! ### data of tuples stays while other things change -/
def Keep (K : PySem.W.Frag) (H H' : Hp) : Prop := ∀ a xs, SqT K H a xs → SqT K H' a xs
theorem Keep.refl {K : PySem.W.Frag} {H : Hp} : Keep K H H := fun _ _ h => h
theorem Keep.trans {K : PySem.W.Frag} {H H1 H2 : Hp} (a : Keep K H H1) (b : Keep K H1 H2) : Keep K H H2 := fun x xs h => b x xs (a x xs h)
theorem Same.keep {K : PySem.W.Frag} {H H' : Hp} (e : Same H H') : Keep K H H' := fun _ _ h => Same.seqT e h
theorem But.keep {K : PySem.W.Frag} {H H' : Hp} {b : Addr} {m : Nat} (e : But b H H') (hb : Box m H b) : Keep K H H' := by
  intro a xs h
  obtain ⟨x, y, z, g, _⟩ := hb
  rcases h with (h | ⟨o, h⟩) | h
  · exact .inl (.inl (e _ _ (ne_of h g (fun q => HO.noConfusion q)) h))
  · exact .inl (.inr ⟨o, e _ _ (ne_of h g (fun q => HO.noConfusion q)) h⟩)
  · exact .inr h
/-- all but the box, read: a list or a tuple that is not the box -/
theorem But.keepL {K : PySem.W.Frag} {H H' : Hp} {b a : Addr} {xs : List V} (e : But b H H') (n : a ≠ b) (h : SqL K H a xs) : SqL K H' a xs := e.seqL n h
mutual
def tups : PyData → Bool
  | .none | .bool _ | .int _ | .str _ => true
  | .tuple xs => tupsAll xs
  | .list _ | .dict _ => false
def tupsAll : List PyData → Bool
  | [] => true
  | x :: xs => tups x && tupsAll xs
end
mutual
theorem Dp.keep {K : PySem.W.Frag} {H H' : Hp} (k : Keep K H H') : ∀ (d : PyData) (v : V), tups d = true → Dp K H v d → Dp K H' v d
  | .none, _, _, h => by cases h; exact .non
  | .bool _, _, _, h => by cases h; exact .bl _
  | .int _, _, _, h => by cases h; exact .int _
  | .str _, _, _, h => by cases h; exact .str _
  | .tuple ds, _, t, h => by
    cases h with
    | tup h1 h2 => exact .tup (k _ _ h1) (DpAll.keep k ds _ (by simpa only [tups] using t) h2)
  | .list _, _, t, _ => by simp [tups] at t
  | .dict _, _, t, _ => by simp [tups] at t
theorem DpAll.keep {K : PySem.W.Frag} {H H' : Hp} (k : Keep K H H') : ∀ (ds : List PyData) (vs : List V), tupsAll ds = true → DpAll K H vs ds → DpAll K H' vs ds
  | [], _, _, h => by cases h; exact .nil
  | d :: ds, _, t, h => by
    simp only [tupsAll, Bool.and_eq_true] at t
    cases h with
    | cons h1 h2 => exact .cons (Dp.keep k d _ t.1 h1) (DpAll.keep k ds _ t.2 h2)
end
section
variable {K : PySem.W.Frag} {H : Hp}
theorem DpAll.len : ∀ {vs : List V} {ds : List PyData}, DpAll K H vs ds → vs.length = ds.length
  | _, _, .nil => rfl
  | _, _, .cons _ t => by rw [List.length_cons, List.length_cons, DpAll.len t]
theorem DpAll.take : ∀ {vs : List V} {ds : List PyData} (n : Nat), DpAll K H vs ds → DpAll K H (vs.take n) (ds.take n)
  | _, _, 0, _ => .nil
  | _, _, _ + 1, .nil => .nil
  | _, _, n + 1, .cons h t => .cons h (DpAll.take n t)
theorem DpAll.drop : ∀ {vs : List V} {ds : List PyData} (n : Nat), DpAll K H vs ds → DpAll K H (vs.drop n) (ds.drop n)
  | _, _, 0, h => h
  | _, _, _ + 1, .nil => .nil
  | _, _, n + 1, .cons _ t => DpAll.drop n t
theorem DpAll.app : ∀ {vs us : List V} {ds es : List PyData}, DpAll K H vs ds → DpAll K H us es → DpAll K H (vs ++ us) (ds ++ es)
  | _, _, _, _, .nil, h => h
  | _, _, _, _, .cons h t, h2 => .cons h (DpAll.app t h2)
theorem DpAll.rep {vs : List V} {ds : List PyData} (h : DpAll K H vs ds) : ∀ n : Nat, DpAll K H (List.replicate n vs).flatten (List.replicate n ds).flatten
  | 0 => .nil
  | n + 1 => by
    rw [List.replicate_succ, List.replicate_succ, List.flatten_cons, List.flatten_cons]
    exact DpAll.app h (DpAll.rep h n)
theorem DpAll.at : ∀ {vs : List V} {ds : List PyData} {i : Nat} {v : V} {d : PyData}, DpAll K H vs ds → vs[i]? = some v → ds[i]? = some d → Dp K H v d
  | _, _, _, _, _, .nil, h, _ => by simp at h
  | _, _, 0, _, _, .cons h _, e1, e2 => by
    obtain rfl := Option.some.inj e1
    obtain rfl := Option.some.inj e2
    exact h
  | _, _, i + 1, _, _, .cons _ t, e1, e2 => DpAll.at (i := i) t (by simpa using e1) (by simpa using e2)
theorem DpAll.ints : ∀ l : List Int, DpAll K H (l.map V.int) (l.map PyData.int)
  | [] => .nil
  | i :: l => .cons (.int i) (DpAll.ints l)
end
end Gk
namespace Pf
open PySem PySem.Spec PyProof.Rows L2 Gk
def topS (i : Nat) : Stmt := PySem.Challenge.pw_pastenough_k58_primitive_patterns.main.body.getD i (.Pass ⟨0, 0, 0, 0⟩)
abbrev sTake : Stmt := topS 4
abbrev sBox : Stmt := topS 3
theorem scBox : FnScope ["_law_script", "_law_k", "_law_digits", "_law_own"] ["_law_script", "_law_k"] (defScope sBox) := ⟨rfl, rfl, rfl, by decide +kernel, rfl, by decide +kernel, by decide +kernel⟩
theorem scTake : FnScope ["_law_box_here", "_law_many", "_law_digit", "_law_drawn"] ["_law_box_here", "_law_many"] (defScope sTake) := ⟨rfl, rfl, rfl, by decide +kernel, rfl, by decide +kernel, by decide +kernel⟩
def spTake : Sp := fun vs H Q _ => ∃ (b : Addr) (n : Int) (m : Nat), vs = [.ref b, .int n] ∧ 0 < n ∧ n < 1073741824 ∧ Box m H b ∧ m < 1000000000 ∧
  ∀ (d : Int) (H' : Hp), 0 ≤ d → d < n → But b H H' → Box (m + 1) H' b → (∀ p, p ≠ b → H' p = H p) → Q (.int d) H'

section
variable {P : Program} {w : World} {K : PySem.W.Frag} {mg : Str → Option Value} {base : Heap}
theorem ok_take {f : Addr} {fd : FuncData} {k : Nat} (F : L2.Fun K "_law_take" "_law_take" sTake f fd) : FnOk P w K mg base L2.CX0 (k + 1) f fd ["_law_box_here", "_law_many"] spTake := by
  refine F.ok scTake (fun vs H Q E h => ?_) (fun cdv A outer s H vs Q E hr h => ?_)
  · obtain ⟨b, n, m, rfl, _⟩ := h
    rfl
  · obtain ⟨b, n, m, rfl, n0, n1, ⟨x, y, z, hb, z0, z1⟩, hm, q⟩ := h
    refine ⟨_, pss_cons (ps_if (pt_cmpR op_gt (pe_ix ix_list (pv 0) pe_int (fun _ _ => rfl)) pe_int (nomark _))
        (pss_cons (ps_set (i := 2) scTake.nd rfl (.inl rfl) (pe_op op_mod (pe_ix ix_list (pv 0) pe_int (fun _ _ => rfl)) (pv 1)))
        (pss_cons (ps_asg (pe_op op_fdiv (pe_ix ix_list (pv 0) pe_int (fun _ _ => rfl)) (pv 1)) (pg_sub (pv 0) pe_int set_list))
        (pss_one (ps_ret (pv 2))))) pss_nil)
      (pss_cons (ps_asg (pe_op op_add (pe_ix ix_list (pv 0) pe_int (fun _ _ => rfl)) pe_int) (pg_sub (pv 0) pe_int set_list))
      (pss_cons (ps_set (i := 3) scTake.nd rfl (.inl rfl) (pe_op op_mod (pe_op op_mul (pe_op op_add (pe_op op_add (pe_ix ix_list (pv 0) pe_int (fun _ _ => rfl))
          (pe_op op_mul (pe_op op_mul pe_int (pe_ix ix_list (pv 0) pe_int (fun _ _ => rfl))) (pe_ix ix_list (pv 0) pe_int (fun _ _ => rfl)))) pe_int) pe_int) pe_int))
      (pss_cons (ps_set (i := 3) scTake.nd rfl (.inl rfl) (pe_op op_mod (pe_op op_mul (pv 3) (pe_op op_add (pe_op op_mod (pv 3) pe_int) (pe_op op_mul pe_int (pe_ix ix_list (pv 0) pe_int (fun _ _ => rfl))))) pe_int))
      (pss_one (ps_ret (pe_op op_mod (pe_op op_add (pe_op op_fdiv (pv 3) pe_int) (pe_op op_fdiv (pv 3) pe_int)) (pv 1))))))), ?_⟩
    refine ⟨.ref b, rfl, b, _, 0, .int x, rfl, rfl, SqL.of hb, rfl, x, 0, rfl, rfl, _, rfl, ite2 (fun e => ?_) (fun e => ?_)⟩
    · refine ⟨.ref b, rfl, b, _, 0, .int x, rfl, rfl, SqL.of hb, rfl, .int n, rfl, x, n, rfl, rfl, n0, ?_⟩
      refine ⟨.ref b, rfl, b, _, 0, .int x, rfl, rfl, SqL.of hb, rfl, .int n, rfl, x, n, rfl, rfl, ⟨n0, n1⟩, ?_⟩
      refine ⟨.ref b, rfl, b, _, _, 0, rfl, rfl, hb, rfl, ?_⟩
      refine ⟨.int (x % n), rfl, q _ _ (Int.emod_nonneg _ (by omega)) (Int.emod_lt_of_pos _ n0) But.set ⟨_, _, _, upd_same, z0, by omega⟩ fun p hp => upd_ne hp⟩
    · have hz : (z + 1 : Int) < 2 ^ 64 := by omega
      refine ⟨.ref b, rfl, b, _, 2, .int z, rfl, rfl, SqL.of hb, rfl, z, 1, rfl, rfl, ?_⟩
      refine ⟨.ref b, rfl, b, _, _, 2, rfl, rfl, hb, rfl, ?_⟩
      have h1 : upd H b (.lst [.int x, .int y, .int (z + 1)]) b = some (.lst [.int x, .int y, .int (z + 1)]) := upd_same
      refine ⟨.ref b, rfl, b, _, 1, .int y, rfl, rfl, SqL.of h1, rfl, .ref b, rfl, b, _, 2, .int (z + 1), rfl, rfl, SqL.of h1, rfl, _, _, rfl, rfl, .inl ⟨by decide, by decide⟩,
        .ref b, rfl, b, _, 2, .int (z + 1), rfl, rfl, SqL.of h1, rfl, _, _, rfl, rfl, .inr ⟨by omega, hz⟩, _, _, rfl, rfl, _, _, rfl, rfl, _, _, rfl, rfl, .inr ⟨by decide, by decide⟩, _, _, rfl, rfl, by show (0 : Int) < 2305843009213693921; decide, ?_⟩
      refine ⟨_, rfl, _, rfl, _, _, rfl, rfl, by show (0 : Int) < 1000033; decide, .ref b, rfl, b, _, 2, .int (z + 1), rfl, rfl, SqL.of h1, rfl, _, _, rfl, rfl, .inl ⟨by decide, by decide⟩, _, _, rfl, rfl, _, _, rfl, rfl,
        .inl ⟨Int.lt_of_lt_of_le (by decide) (Int.emod_nonneg _ (by decide)), Int.lt_trans (Int.emod_lt_of_pos _ (by decide)) (by decide)⟩, _, _, rfl, rfl, by show (0 : Int) < 2305843009213693907; decide, ?_⟩
      refine ⟨_, rfl, _, _, rfl, rfl, ⟨by decide, by decide⟩, _, rfl, _, _, rfl, rfl, ⟨by decide, by decide⟩, _, _, rfl, rfl, .int n, rfl, _, n, rfl, rfl, n0, ?_⟩
      exact q _ _ (Int.emod_nonneg _ (by omega)) (Int.emod_lt_of_pos _ n0) But.set ⟨_, _, _, h1, by omega, by omega⟩ fun p hp => upd_ne hp
def spBox (K : PySem.W.Frag) : Sp := fun vs H Q _ => ∃ (a : Addr) (ns : List Int) (k : Int), vs = [.ref a, .int k] ∧ SqL K H a (ns.map V.int) ∧ ns.length ≤ 63 ∧ 0 ≤ k ∧ k ≤ 1000 ∧
  ∀ p x y, H p = none → Q (.ref p) (upd H p (.lst [.int x, .int y, .int 0]))
theorem flag_small (c : Bool) : -(2 ^ 64) < (if c = true then (1 : Int) else 0) ∧ (if c = true then (1 : Int) else 0) < 2 ^ 64 := by cases c <;> decide
theorem bits60 : CBigPow 10 60 := ⟨by decide, by decide +kernel⟩
theorem bits300 : CBigPow (10 ^ (60 : Int).toNat) 5 := ⟨by decide, by decide +kernel⟩
theorem ok_box {f : Addr} {fd : FuncData} (ml : mg "len" = none) (ma : mg "abs" = none) (mi : mg "int" = none)
    (F : L2.Fun K "_law_box" "_law_box" sBox f fd) : FnOk P w K mg base L2.CX0 1 f fd ["_law_script", "_law_k"] (spBox K) := by
  refine F.ok scBox (fun vs H Q E h => ?_) (fun cdv A outer s H vs Q E hr h => ?_)
  · obtain ⟨a, ns, k, rfl, _⟩ := h
    rfl
  · obtain ⟨a, ns, k, rfl, hS, hl, k0, k1, q⟩ := h
    refine ⟨_, C8.pss_cut (ps_set (i := 2) scBox.nd rfl (.inl rfl) (pe_ifExp (pt_cmpR op_lt (pv 1) (pe_callB call_len_seq (by rfl) ml PySem.boot_len (pa_cons (pv 0) pa_nil)) (nomark _))
        (pe_ix ix_list (pv 0) (pv 1) (fun _ _ => rfl)) (pe_op op_add (pe_op op_mul pe_int (pv 1)) pe_int)))
      (pss_cons (ps_set (i := 3) scBox.nd rfl (.inl rfl) (pe_op op_mul (pe_op op_mod (pe_callB call_abs (by rfl) ma (by decide +kernel) (pa_cons (pv 2) pa_nil)) (pe_op op_bigpow (pe_op op_bigpow pe_int pe_int) pe_int))
          (pe_callTy call_int1 (by rfl) mi (by decide +kernel) (pa_cons (pe_cmpR op_ge (pe_callB call_abs (by rfl) ma (by decide +kernel) (pa_cons (pv 2) pa_nil)) (pe_op op_bigpow pe_int pe_int) (nomark _)) pa_nil))))
      (pss_one (ps_ret (pe_lst (pa_cons (pv 3) (pa_cons (pe_op op_mod (pe_op op_add (pe_op op_add (pe_op op_mul (pe_op op_mod (pv 2) pe_int) pe_int) (pe_op op_mul (pe_op op_mul pe_int (pv 1)) (pv 1))) pe_int) pe_int) (pa_cons pe_int pa_nil))))))), ?_⟩
    refine ⟨fun σ H' => H' = H ∧ ∃ d : Int, σ = [some (.ref a), some (.int k), some (.int d), none], ?_, fun σ' H' hM => ?_⟩
    · refine ⟨.int k, rfl, .ref a, rfl, a, _, rfl, .inl hS, _, _, rfl, rfl, _, rfl, ite2 (fun e => ?_) (fun e => ?_)⟩
      · have hk : k < (ns.map V.int).length := of_decide_eq_true e
        rw [List.length_map] at hk
        have g : (ns.map V.int)[k.toNat]? = some (.int ns[k.toNat]) := by
          rw [List.getElem?_map, List.getElem?_eq_getElem (by omega)]; rfl
        have ga := atI_nat g
        rw [Int.toNat_of_nonneg k0] at ga
        exact ⟨.ref a, rfl, .int k, rfl, a, _, k, _, rfl, rfl, hS, ga, rfl, _, rfl⟩
      · exact ⟨.int k, rfl, _, _, rfl, rfl, .inl ⟨by decide, by decide⟩, _, _, rfl, rfl, rfl, _, rfl⟩
    · obtain ⟨rfl, d, rfl⟩ := hM
      refine ⟨.int d, rfl, d, rfl, _, _, rfl, rfl, bits60, _, _, rfl, rfl, bits300, _, _, rfl, rfl, by show (0 : Int) < (10 ^ (60 : Int).toNat) ^ (5 : Int).toNat; decide +kernel, ?_⟩
      refine ⟨.int d, rfl, d, rfl, _, _, rfl, rfl, ⟨by decide, by decide +kernel⟩, _, _, rfl, rfl, .inr ⟨_, rfl, _, _, rfl, rfl, .inr ?_, ?_⟩⟩
      · exact flag_small _
      · refine ⟨_, rfl, .int d, rfl, _, _, rfl, rfl, by show (0 : Int) < 2305843009213693951; decide, _, _, rfl, rfl, .inr ⟨by decide, by decide⟩, .int k, rfl, _, _, rfl, rfl, .inl ⟨by decide, by decide⟩, .int k, rfl, _, _, rfl, rfl, .inr ⟨by omega, by omega⟩,
          _, _, rfl, rfl, _, _, rfl, rfl, _, _, rfl, rfl, by show (0 : Int) < 2305843009213693921; decide, by show 3 ≤ sizeLine; decide, fun p hp => q p _ _ hp⟩
end
end Pf
namespace Pf
open PySem PySem.Spec PyProof.Rows L2 Gk
/-- outcomes -/
def Bits (l : List Int) : Prop := ∀ o ∈ l, o = 0 ∨ o = 1
theorem Bits.nil : Bits [] := fun _ h => (nomatch h)
theorem Bits.snoc {l : List Int} {o : Int} (h : Bits l) (h0 : 0 ≤ o) (h1 : o < 2) : Bits (l ++ [o]) := fun x hx => by
  rcases List.mem_append.mp hx with g | g
  · exact h x g
  · rw [List.mem_singleton.mp g]
    omega
theorem Bits.rep {l : List Int} (h : Bits l) (n : Nat) : Bits (List.replicate n l).flatten := fun x hx => by
  obtain ⟨m, hm, hx⟩ := List.mem_flatten.mp hx
  rw [(List.mem_replicate.mp hm).2] at hx
  exact h x hx
theorem Bits.take {l : List Int} (h : Bits l) (n : Nat) : Bits (l.take n) := fun x hx => h x (List.mem_of_mem_take hx)
theorem rep_map (n : Nat) (l : List Int) : (List.replicate n (l.map V.int)).flatten = ((List.replicate n l).flatten).map V.int := by
  induction n with
  | zero => rfl
  | succ n ih => rw [List.replicate_succ, List.replicate_succ, List.flatten_cons, List.flatten_cons, List.map_append, ih]
theorem rep_len (n : Nat) (l : List Int) : ((List.replicate n l).flatten).length = n * l.length := by
  induction n with
  | zero => simp
  | succ n ih => rw [List.replicate_succ, List.flatten_cons, List.length_append, ih, Nat.succ_mul, Nat.add_comm]
theorem last_some {l : List Int} (h : 0 < l.length) : ∃ o, o ∈ l ∧ atI (l.map V.int) (-1) = some (V.int o) := by
  have e : l ≠ [] := fun z => by rw [z] at h; exact absurd h (Nat.lt_irrefl 0)
  refine ⟨l.getLast e, List.getLast_mem e, ?_⟩
  have g : l.map V.int = (l.dropLast.map V.int) ++ [V.int (l.getLast e)] := by
    rw [← List.map_singleton, ← List.map_append, List.dropLast_concat_getLast]
  rw [g]
  exact atI_last _ _
theorem but_local {b D : Addr} {H H1 H2 : Hp} (nD : H D = none) (h : But b H H1) (g : ∀ a o, a ≠ b → a ≠ D → H1 a = some o → H2 a = some o) : But b H H2 := fun a o n e => g a o n (fun z => by rw [z, nD] at e; cases e) (h a o n e)
end Pf
namespace Gk
open PySem PySem.Spec PyProof.Rows L2 PySem.Builtin.Str
/-! ### enumerate of a tuple -/
theorem enum_newT (l : Addr) (its : Array Value) :
    Meets (Builtin.«enumerate.__new__» ⟨[.type "enumerate", .ref l], []⟩) (fun _ R s => Heap.IsTuple s.heap l its ∧
      R (.ok (.ret (.ref (s.heap.push { cls := .type "tuple_iterator", data := .fields #[.ref l, .int 0 0] }).objs.size)))
        { s with heap := (s.heap.push { cls := .type "tuple_iterator", data := .fields #[.ref l, .int 0 0] }).push { cls := .type "enumerate", data := .fields #[.none, .bool false, .ref s.heap.objs.size, rawInt 0, .none, .none] } }) :=
  .of_wp fun prog w A R s h => by
    obtain ⟨hp, g, d, tk, os⟩ := s
    obtain ⟨hL, h⟩ := h
    have hsub := sub_enumerate
    obtain ⟨⟨oc, od, dt, sl⟩, hl, hcl, n, hdt⟩ := id hL
    replace hcl : oc = .type "tuple" := hcl
    replace hdt : dt = .seq its n := hdt
    subst hcl hdt
    wp_walk using wpAny_loadPart' hl
    refine wpAny_stack_any fun st => wpAny_pure ?_
    split
    · rename_i c _ _ _ _ _
      cases (c == Value.type "enumerate") <;>
      · wp_walk using wpAny_loadPart' hl, wpAny_pyIter_tuple hL
        exact ⟨_, rfl, h⟩
    · wp_walk using wpAny_loadPart' hl, wpAny_pyIter_tuple hL
      exact ⟨_, rfl, h⟩
section
variable {prog : Program} {w : World} {A : Around} {E : Value → Shared → Prop} {s : Shared}
theorem enumT {l : Addr} {its : Array Value} {Q : Value → Shared → Prop} (hL : s.heap.IsTuple l its)
    (h : ∀ h', IsEnum h' (s.heap.objs.size + 1) s.heap.objs.size 0 .none → h'.IsTupleIter s.heap.objs.size l 0 → (∀ b o, s.heap.get? b = some o → h'.get? b = some o) → Q (.ref (s.heap.objs.size + 1)) { s with heap := h' }) :
    wpAny (model prog w) A (call (.type "enumerate") [.ref l]) Q E s := by
  refine callType_new F.called_enumerate (by decide) (F.typeCall_enumerate_1 _) (F.newCall_enumerate_1 _) (fun obj => F.args_object_init_2 obj _) F.entry_enumerate_new (enum_newT l its) ⟨hL, ?_⟩
  have hz : (s.heap.push { cls := .type "tuple_iterator", data := .fields #[.ref l, .int 0 0] }).objs.size = s.heap.objs.size + 1 := Heap.size_push ..
  show _ ∧ _
  rw [hz]
  have he : IsEnum ((s.heap.push { cls := .type "tuple_iterator", data := .fields #[.ref l, .int 0 0] }).push { cls := .type "enumerate", data := .fields #[.none, .bool false, .ref s.heap.objs.size, rawInt 0, .none, .none] }) (s.heap.objs.size + 1) s.heap.objs.size 0 .none := by
    have g := Heap.get?_push_size (s.heap.push { cls := .type "tuple_iterator", data := .fields #[.ref l, .int 0 0] }) (o := { cls := .type "enumerate", data := .fields #[.none, .bool false, .ref s.heap.objs.size, rawInt 0, .none, .none] }) rfl
    rw [hz] at g
    exact g
  exact ⟨⟨_, he, rfl⟩, h _ he ⟨_, Heap.get?_push_of_some _ (Heap.get?_push_size _ rfl), rfl, rfl⟩ fun b o x => Heap.get?_push_of_some _ (Heap.get?_push_of_some _ x)⟩
end
def Ient (K : PySem.W.Frag) (a : Addr) (N : Nat) : It := ⟨fun i H => i < N ∧ ∃ xs : List V, SqT K H a xs ∧ xs.length = N,
  fun i H v H' => ∃ T x, v = .ref T ∧ H T = none ∧ (∀ xs, SqT K H a xs → xs[i]? = some x) ∧ H' = upd H T (.tup [.int (i : Nat), x]), fun i H => N ≤ i ∧ ∃ xs : List V, SqT K H a xs ∧ xs.length = N⟩
theorem turn_ent {P : Program} {w : World} {K : PySem.W.Frag} {elts : List Expr} {kk : Nat} {tpos : Pos} (e it a : Addr) (N : Nat) :
    Turn P w K (.Tuple elts kk tpos) (Ient K a N) [e, it] e (fun i h => ((∃ old, IsEnum h e it i old) ∧ h.IsTupleIter it a i) ∧ e ≠ it ∧ i ≤ N) where
  mem := List.mem_cons_self
  obj := fun i h st b hb => by
    obtain ⟨⟨⟨old, he⟩, ⟨o, ho, hc, hd⟩⟩, _⟩ := st
    rcases List.mem_cons.mp hb with rfl | hb
    · exact ⟨_, he, fun v g => nomatch g⟩
    · rw [List.mem_singleton.mp hb]
      exact ⟨o, ho, fun v g => by rw [hd] at g; cases g⟩
  keep := fun i h h' st k => by
    obtain ⟨⟨⟨old, he⟩, ⟨o, ho, hc, hd⟩⟩, hne⟩ := st
    exact ⟨⟨⟨old, k e List.mem_cons_self _ he⟩, o, k it (List.mem_cons_of_mem _ List.mem_cons_self) o ho, hc, hd⟩, hne⟩
  item := by
    intro X hP hw hK hc i pins s σ H E I hf st hg
    subst hP hw hK
    obtain ⟨hlt, xs, hq, hN⟩ := hg
    obtain ⟨st, hne, hi⟩ := st
    obtain ⟨its, rv, tup, hz⟩ := I.tuple hq
    have hlen : its.toArray.size = N := by rw [List.size_toArray, ← hN]; exact rv.length.symm
    have nat : a ≠ it := fun z => by
      obtain ⟨o1, g1, c1, _⟩ := tup
      obtain ⟨_, o2, g2, c2, _⟩ := st
      rw [z, g2] at g1
      cases g1
      rw [c2] at c1
      exact absurd c1 (by decide)
    have D : Draws X.prog X.w X.A.in1 it [it, a] its.toArray.size _ _ := Draws.tuple (show X.A.in1.handled = none from I.ok.hd hc) it a nat its.toArray
    have nea : e ≠ a := fun z => by
      obtain ⟨o1, g1, c1, _⟩ := tup
      obtain ⟨⟨old, g2⟩, _⟩ := st
      rw [z] at g2
      rw [g2] at g1
      cases g1
      exact absurd (show Value.type "enumerate" = Value.type "tuple" from c1) (by decide)
    have W := WalksT.enumerateD D e hne (fun q => (List.mem_cons.mp q).elim hne fun q => nea (List.mem_singleton.mp q)) List.mem_cons_self
    have hel : e < s.heap.objs.size := by obtain ⟨⟨old, he⟩, _⟩ := st; exact Heap.lt_size he
    have hil : it < s.heap.objs.size := by obtain ⟨_, o, ho, _⟩ := st; exact Heap.lt_size ho
    refine W.item i s _ _ (by rw [hlen]; exact hlt) ⟨st.1, st.2, tup⟩ fun T vals h' tk hp hT isT mid hk => ?_
    obtain ⟨t1, x1, hx1, rfl⟩ := hp
    have nT := W.apart i T h' mid
    obtain ⟨y, hy⟩ : ∃ y, xs[i]? = some y := ⟨xs[i]'(by omega), List.getElem?_eq_getElem (by omega)⟩
    obtain ⟨u, hu, ru⟩ := rv.get hy
    have hx1 : its.toArray[i]? = some x1 := hx1
    rw [List.getElem?_toArray, hu] at hx1
    obtain rfl := Option.some.inj hx1
    refine ⟨_, rfl, W.go elts kk tpos i T { s with heap := h', toks := tk } _ _ mid fun h2 st2 hk2 => ?_⟩
    obtain ⟨oT, gT, cT, nTT, dT⟩ := isT
    have gT2 := hk2 T oT nT gT
    have new : ObjOk X.prog X.w (upd H T (.tup [.int (i : Nat), y])) h2 T (.tup [.int (i : Nat), y]) :=
      ⟨by show 2 ≤ sizeLine; decide, [.int i t1, u], .cons ⟨_, rfl⟩ (.cons ru .nil), ⟨oT, gT2, cT, nTT, dT⟩⟩
    have I1 : Inv X pins σ (upd H T (.tup [.int (i : Nat), y])) { s with heap := h2, toks := tk } :=
      I.turnedNew (ch := [e, it]) (fun b ob hb g => hk2 b ob hb (hk b ob hb g)) hf hT new
    refine ⟨.ref T, _, I1, rfl, ⟨T, y, rfl, I.hok.fresh hT, fun ys hys => ?_, rfl⟩, ⟨⟨st2.1, st2.2.1⟩, hne, hlt⟩, fun b hb => ?_⟩
    · rw [I.tuple_inj hys hq]
      exact hy
    · have hb' : b < s.heap.objs.size := by
        rcases List.mem_cons.mp hb with rfl | hb
        · exact hel
        · rw [List.mem_singleton.mp hb]; exact hil
      rw [upd_ne (Nat.ne_of_lt (Nat.lt_of_lt_of_le hb' hT))]
      exact (hf b hb).1
  done := by
    intro X hP hw hK hc i pins s σ H E I hf st hg
    subst hP hw hK
    obtain ⟨hge, xs, hq, hN⟩ := hg
    obtain ⟨st, hne, hi⟩ := st
    obtain ⟨its, rv, tup, hz⟩ := I.tuple hq
    have hlen : its.toArray.size = N := by rw [List.size_toArray, ← hN]; exact rv.length.symm
    obtain rfl : i = N := Nat.le_antisymm hi hge
    have nat : a ≠ it := fun z => by
      obtain ⟨o1, g1, c1, _⟩ := tup
      obtain ⟨_, o2, g2, c2, _⟩ := st
      rw [z, g2] at g1
      cases g1
      rw [c2] at c1
      exact absurd c1 (by decide)
    have nea : e ≠ a := fun z => by
      obtain ⟨o1, g1, c1, _⟩ := tup
      obtain ⟨⟨old, g2⟩, _⟩ := st
      rw [z] at g2
      rw [g2] at g1
      cases g1
      exact absurd (show Value.type "enumerate" = Value.type "tuple" from c1) (by decide)
    have D : Draws X.prog X.w X.A.in1 it [it, a] its.toArray.size _ _ := Draws.tuple (show X.A.in1.handled = none from I.ok.hd hc) it a nat its.toArray
    have W := WalksT.enumerateD D e hne (fun q => (List.mem_cons.mp q).elim hne fun q => nea (List.mem_singleton.mp q)) List.mem_cons_self
    rw [← hlen] at st
    refine W.done s _ _ ⟨st.1, st.2, tup⟩ fun h' tk hk => ⟨rfl, ?_⟩
    exact I.step (g' := s.gens) (d' := s.drawn) (ch := [e, it]) (fun b hb => ⟨(hf b hb).2.2.2.1, (hf b hb).2.1, (hf b hb).2.2.2.2.1, (hf b hb).2.2.2.2.2⟩) (fun b o _ _ hc g _ => hk b o hc g) (fun b o _ _ hc g _ => ⟨o.slots, hk b o hc g⟩)
      (fun _ _ _ _ n => n) (fun b o hc g => ⟨o, hk b o hc g⟩) (fun _ _ g => g) (fun _ _ _ g => g) (fun b ps g => ⟨#[], by rw [g]; simp⟩)
      (fun m hm => by
        obtain ⟨o, es, ep, ho, r⟩ := hm
        exact ⟨o, es, ep, hk _ o (fun q => (hf _ q).2.1 rfl) ho, r⟩)
      (fun b u g => by
        have nb : ∀ c v, H c = some v → c ∉ [e, it] := fun c v g q => by
          have g' := (hf c q).1
          rw [g'] at g; cases g
        refine (I.hok b u g).stay (fun c v hcv q => hk c v ?_ q) (fun _ q => q) fun _ _ q => q
        rcases hcv with rfl | hcv
        · exact nb _ _ g
        · exact nb _ _ hcv) I.bare
  self := fun A i s Q E st h => by
    obtain ⟨⟨⟨old, he⟩, _⟩, _⟩ := st
    exact wpAny_pyIter_enum he h
def iEnumU (K : PySem.W.Frag) (ta : TA) : TI := fun σ H R => ta σ H fun vs H1 => ∃ a xs, vs = [.ref a] ∧ SqT K H1 a xs ∧ R (Ient K a xs.length) H1
theorem pi_enumU {X : Cx} {e : Expr} {ta : TA} {p pos tpos : Pos} {elts : List Expr} {kk : Nat} (hg : Gl X "enumerate") (hm : X.mg "enumerate" = none) (ha : PA X [e] ta) (hs : starEach [e] X.env = [(false, eval e X.env)] := by rfl) :
    PI X (.Tuple elts kk tpos) (.Call (.Name "enumerate" p) [e] [] pos) (iEnumU X.K ta) := by
  refine ⟨fun pins s σ H R I h => Call_ (ld_blt I hg hm boot_enumerate (PyProof.Rows.callWith_type1 (thn (ha.run pos pins s σ H _ I h) fun us s1 ⟨vs, H1, I1, r1, a, xs, ez, hq, q⟩ => ?_) hs rfl))⟩
  subst ez
  obtain ⟨u, rfl, r2⟩ := vals1 r1
  cases r2
  obtain ⟨its, rv, tup, hz⟩ := I1.tuple hq
  refine enumT tup fun h' he hit hk => wpAny_pyIter_enum he ?_
  refine ⟨s1.heap.objs.size + 1, [s1.heap.objs.size + 1, s1.heap.objs.size], _, _, H1, rfl, I1.kept (t' := s1.toks) hk, turn_ent (s1.heap.objs.size + 1) s1.heap.objs.size a xs.length, ⟨⟨⟨.none, he⟩, hit⟩, Nat.succ_ne_self _, Nat.zero_le _⟩, fun b hb => ?_, q⟩
  have hle : s1.heap.objs.size ≤ b := by
    rcases List.mem_cons.mp hb with rfl | hb
    · exact Nat.le_succ _
    · rw [List.mem_singleton.mp hb]
      exact Nat.le_refl _
  exact I1.fpOk hle (I1.hok.fresh hle)
theorem walk_ent {K : PySem.W.Frag} {a : Addr} {xs : List V} : Walk (Ient K a xs.length) xs.length (fun H => SqT K H a xs) (fun i H v H' => ∃ T x, v = .ref T ∧ H T = none ∧ xs[i]? = some x ∧ H' = upd H T (.tup [.int (i : Nat), x])) :=
  ⟨fun i _ hi g => ⟨hi, xs, g, rfl⟩, fun _ g => ⟨Nat.le_refl _, xs, g, rfl⟩, fun i H v H' _ g y => by
    obtain ⟨T, x, h1, h2, h3, h4⟩ := y
    exact ⟨T, x, h1, h2, h3 xs g, h4⟩⟩
end Gk
namespace Gk
open PySem PySem.Spec PyProof.Rows L2
/-- a pair (branch, outcome) -/
def pd (x : Int × Int) : PyData := .tuple [.int x.1, .int x.2]
def PairsAt (K : PySem.W.Frag) (H : Hp) (p : Addr) (l : List (Int × Int)) : Prop := Dp K H (.ref p) (.tuple (l.map pd))
theorem tups_pd : ∀ l : List (Int × Int), tupsAll (l.map pd) = true
  | [] => rfl
  | x :: l => by
    show (tups (pd x) && tupsAll (l.map pd)) = true
    rw [tups_pd l]
    rfl
theorem PairsAt.keep {K : PySem.W.Frag} {H H' : Hp} {p : Addr} {l : List (Int × Int)} (h : PairsAt K H p l) (k : Keep K H H') : PairsAt K H' p l :=
  Dp.keep k _ _ (by simpa only [tups] using tups_pd l) h
theorem pairs_keep {K : PySem.W.Frag} {H H' : Hp} {as : List V} {l : List (Int × Int)} (h : DpAll K H as (l.map pd)) (k : Keep K H H') : DpAll K H' as (l.map pd) := DpAll.keep k _ _ (tups_pd l) h
theorem keep_lst {K : PySem.W.Frag} {H : Hp} {D : Addr} {xs : List V} {o : HO} (h : H D = some (.lst xs)) : Keep K H (upd H D o) := by
  intro a ys g
  rcases g with (g | ⟨u, g⟩) | g
  · exact .inl (.inl (by rw [upd_ne (ne_of g h (fun q => HO.noConfusion q))]; exact g))
  · exact .inl (.inr ⟨u, by rw [upd_ne (ne_of g h (fun q => HO.noConfusion q))]; exact g⟩)
  · exact .inr g
/-- one pair more in the list at D -/
theorem pairs_snoc {K : PySem.W.Frag} {H : Hp} {D T : Addr} {as : List V} {l : List (Int × Int)} {x y : Int} {o : HO} (h : DpAll K H as (l.map pd)) (hD : H D = some (.lst as)) (nT : H T = none) :
    DpAll K (upd (upd H T (.tup [.int x, .int y])) D o) (as ++ [.ref T]) ((l ++ [(x, y)]).map pd) := by
  have nd : D ≠ T := ne_of_none hD nT
  have hD2 : (upd H T (.tup [.int x, .int y])) D = some (.lst as) := by rw [upd_ne nd]; exact hD
  have k := (Same.keep (K := K) (same_new (o := HO.tup [V.int x, V.int y]) nT)).trans (keep_lst (o := o) hD2)
  rw [List.map_append]
  refine DpAll.app (pairs_keep h k) (.cons (.tup (.inl (.inl ?_)) (.cons (.int x) (.cons (.int y) .nil))) .nil)
  rw [upd_ne nd.symm, upd_same]
theorem pair_at {K : PySem.W.Frag} {H : Hp} {v : V} {x : Int × Int} (h : Dp K H v (pd x)) : ∃ a, v = .ref a ∧ SqT K H a [.int x.1, .int x.2] := by
  cases h with
  | tup h1 h2 =>
    cases h2 with
    | cons a b =>
      cases a
      cases b with
      | cons c d =>
        cases c
        cases d
        exact ⟨_, rfl, h1⟩
theorem DpAll.set {K : PySem.W.Frag} {H : Hp} {v : V} {d : PyData} (hv : Dp K H v d) : ∀ {vs : List V} {ds : List PyData} (i : Nat), DpAll K H vs ds → DpAll K H (vs.set i v) (ds.set i d)
  | _, _, _, .nil => .nil
  | _, _, 0, .cons _ t => .cons hv t
  | _, _, i + 1, .cons h t => .cons h (DpAll.set hv i t)
theorem lc_len {K : PySem.W.Frag} {H : Hp} {as : List V} {l : List (Int × Int)} (h : DpAll K H as (l.map pd)) : as.length = l.length := by
  have := DpAll.len h
  rwa [List.length_map] at this
/-- branches and outcomes -/
def Fair (l : List (Int × Int)) : Prop := ∀ x ∈ l, (0 ≤ x.1 ∧ x.1 ≤ 7) ∧ (x.2 = 0 ∨ x.2 = 1)
theorem Fair.nil : Fair [] := fun _ h => (nomatch h)
theorem Fair.snoc {l : List (Int × Int)} {x y : Int} (h : Fair l) (a : 0 ≤ x) (b : x ≤ 7) (c : y = 0 ∨ y = 1) : Fair (l ++ [(x, y)]) := fun z hz => by
  rcases List.mem_append.mp hz with g | g
  · exact h z g
  · rw [List.mem_singleton.mp g]
    exact ⟨⟨a, b⟩, c⟩
theorem Fair.take {l : List (Int × Int)} (h : Fair l) (n : Nat) : Fair (l.take n) := fun x hx => h x (List.mem_of_mem_take hx)
theorem tame_pd : ∀ {l : List (Int × Int)}, Fair l → tameAll (l.map pd) = true
  | [], _ => rfl
  | x :: l, h => by
    have h1 := h x List.mem_cons_self
    show (tame (pd x) && tameAll (l.map pd)) = true
    rw [tame_pd fun z hz => h z (List.mem_cons_of_mem _ hz), Bool.and_true]
    simp only [pd, tame, tameAll, Bool.and_true, Bool.and_eq_true, decide_eq_true_eq]
    omega
theorem cost_pd : ∀ l : List (Int × Int), costAll (l.map pd) = 1 + 144 * l.length
  | [] => rfl
  | x :: l => by
    show cost (pd x) + 1 + costAll (l.map pd) = _
    rw [cost_pd l, List.length_cons]
    simp only [pd, cost, costAll]
    omega
theorem depth_pd : ∀ l : List (Int × Int), PyData.depthAll (l.map pd) ≤ 1
  | [] => by decide
  | x :: l => by
    show max (PyData.depth (pd x)) (PyData.depthAll (l.map pd)) ≤ 1
    have h := depth_pd l
    have h2 : PyData.depth (pd x) = 1 := by simp [pd, PyData.depth, PyData.depthAll]
    omega
end Gk
namespace Gk
open PySem PySem.Spec PyProof.Rows L2
/-! ### data whose equality is being the same -/
mutual
def exa : PyData → Bool
  | .none | .int _ | .str _ => true
  | .list xs | .tuple xs => exaAll xs
  | .bool _ | .dict _ => false
def exaAll : List PyData → Bool
  | [] => true
  | x :: xs => exa x && exaAll xs
end
mutual
theorem eqv_exa : ∀ d e : PyData, exa d = true → exa e = true → PyData.eqv d e = true → d = e
  | .none, .none, _, _, _ => rfl
  | .int i, .int j, _, _, h => by
    simp only [PyData.eqv, beq_iff_eq] at h
    rw [h]
  | .str x, .str y, _, _, h => by
    simp only [PyData.eqv, beq_iff_eq] at h
    rw [h]
  | .list xs, .list ys, a, b, h => by
    simp only [PyData.eqv] at h
    rw [eqv_exaAll xs ys (by simpa only [exa] using a) (by simpa only [exa] using b) h]
  | .tuple xs, .tuple ys, a, b, h => by
    simp only [PyData.eqv] at h
    rw [eqv_exaAll xs ys (by simpa only [exa] using a) (by simpa only [exa] using b) h]
  | .none, .int _, _, _, h | .none, .str _, _, _, h | .none, .list _, _, _, h | .none, .tuple _, _, _, h => by simp [PyData.eqv] at h
  | .int _, .none, _, _, h | .int _, .str _, _, _, h | .int _, .list _, _, _, h | .int _, .tuple _, _, _, h => by simp [PyData.eqv] at h
  | .str _, .none, _, _, h | .str _, .int _, _, _, h | .str _, .list _, _, _, h | .str _, .tuple _, _, _, h => by simp [PyData.eqv] at h
  | .list _, .none, _, _, h | .list _, .int _, _, _, h | .list _, .str _, _, _, h | .list _, .tuple _, _, _, h => by simp [PyData.eqv] at h
  | .tuple _, .none, _, _, h | .tuple _, .int _, _, _, h | .tuple _, .str _, _, _, h | .tuple _, .list _, _, _, h => by simp [PyData.eqv] at h
  | .bool _, _, a, _, _ | .dict _, _, a, _, _ => by simp [exa] at a
  | .none, .bool _, _, b, _ | .none, .dict _, _, b, _ | .int _, .bool _, _, b, _ | .int _, .dict _, _, b, _ | .str _, .bool _, _, b, _ | .str _, .dict _, _, b, _ => by simp [exa] at b
  | .list _, .bool _, _, b, _ | .list _, .dict _, _, b, _ | .tuple _, .bool _, _, b, _ | .tuple _, .dict _, _, b, _ => by simp [exa] at b
theorem eqv_exaAll : ∀ xs ys : List PyData, exaAll xs = true → exaAll ys = true → PyData.eqvAll xs ys = true → xs = ys
  | [], [], _, _, _ => rfl
  | x :: xs, y :: ys, a, b, h => by
    simp only [exaAll, Bool.and_eq_true] at a b
    simp only [PyData.eqvAll, Bool.and_eq_true] at h
    rw [eqv_exa x y a.1 b.1 h.1, eqv_exaAll xs ys a.2 b.2 h.2]
  | [], _ :: _, _, _, h => by simp [PyData.eqvAll] at h
  | _ :: _, [], _, _, h => by simp [PyData.eqvAll] at h
end
theorem eqv_same {d : PyData} (h : tame d = true) : PyData.eqv d d = true := SeqAt.eqv_refl d (tame_lay d h)
/-- an item of a row or of a loop -/
structure Item (d : PyData) : Prop where
  e : exa d = true
  t : tups d = true
  m : tame d = true
  dp : d.depth ≤ 1
  c : cost d ≤ 143
def Plain (ds : List PyData) : Prop := ∀ d ∈ ds, Item d
theorem Plain.exa : ∀ {ds : List PyData}, Plain ds → exaAll ds = true
  | [], _ => rfl
  | x :: xs, h => by
    simp only [exaAll, (h x List.mem_cons_self).e, Plain.exa fun z hz => h z (List.mem_cons_of_mem _ hz), Bool.and_self]
theorem Plain.tups : ∀ {ds : List PyData}, Plain ds → tupsAll ds = true
  | [], _ => rfl
  | x :: xs, h => by
    simp only [tupsAll, (h x List.mem_cons_self).t, Plain.tups fun z hz => h z (List.mem_cons_of_mem _ hz), Bool.and_self]
theorem Plain.tame : ∀ {ds : List PyData}, Plain ds → tameAll ds = true
  | [], _ => rfl
  | x :: xs, h => by
    simp only [tameAll, (h x List.mem_cons_self).m, Plain.tame fun z hz => h z (List.mem_cons_of_mem _ hz), Bool.and_self]
theorem Plain.depth : ∀ {ds : List PyData}, Plain ds → PyData.depthAll ds ≤ 1
  | [], _ => Nat.zero_le _
  | x :: xs, h => by
    have h1 := (h x List.mem_cons_self).dp
    have h2 := Plain.depth fun z hz => h z (List.mem_cons_of_mem _ hz)
    simp only [PyData.depthAll]
    omega
theorem Plain.cost : ∀ {ds : List PyData}, Plain ds → costAll ds ≤ 1 + 144 * ds.length
  | [], _ => by decide
  | x :: xs, h => by
    have h1 := (h x List.mem_cons_self).c
    have h2 := Plain.cost fun z hz => h z (List.mem_cons_of_mem _ hz)
    simp only [costAll, List.length_cons]
    omega
theorem Plain.sub {ds es : List PyData} (h : Plain ds) (s : ∀ d ∈ es, d ∈ ds) : Plain es := fun d hd => h d (s d hd)
theorem Plain.take {ds : List PyData} (h : Plain ds) (n : Nat) : Plain (ds.take n) := h.sub fun _ g => List.mem_of_mem_take g
theorem Plain.drop {ds : List PyData} (h : Plain ds) (n : Nat) : Plain (ds.drop n) := h.sub fun _ g => List.mem_of_mem_drop g
theorem Plain.app {ds es : List PyData} (h : Plain ds) (g : Plain es) : Plain (ds ++ es) := fun d hd => (List.mem_append.mp hd).elim (h d) (g d)
theorem Plain.rep {ds : List PyData} (h : Plain ds) (n : Nat) : Plain (List.replicate n ds).flatten := fun x hx => by
  obtain ⟨m, hm, hx⟩ := List.mem_flatten.mp hx
  rw [(List.mem_replicate.mp hm).2] at hx
  exact h x hx
theorem plain_pd {l : List (Int × Int)} (h : Fair l) : Plain (l.map pd) := fun d hd => by
  obtain ⟨x, hx, rfl⟩ := List.mem_map.mp hd
  have g := h x hx
  refine ⟨rfl, rfl, ?_, by simp [pd, PyData.depth, PyData.depthAll], by simp only [pd, Gk.cost, costAll]; omega⟩
  simp only [pd, Gk.tame, tameAll, Bool.and_true, Bool.and_eq_true, decide_eq_true_eq]
  omega
theorem plain_bits {l : List Int} (h : ∀ o ∈ l, o = 0 ∨ o = 1) : Plain (l.map PyData.int) := fun d hd => by
  obtain ⟨x, hx, rfl⟩ := List.mem_map.mp hd
  have g := h x hx
  refine ⟨rfl, rfl, ?_, by simp [PyData.depth], by simp only [Gk.cost]; omega⟩
  simp only [Gk.tame, decide_eq_true_eq]
  omega
theorem Plain.fine {ds : List PyData} (h : Plain ds) (hl : ds.length ≤ 1000) : Fine (.tuple ds) := by
  have h1 := h.depth
  have h2 := h.cost
  refine Fine.tame (by simpa only [Gk.tame] using h.tame) ?_ ?_
  · simp only [PyData.depth]
    omega
  · simp only [Gk.cost]
    omega
theorem Plain.shaped {ds : List PyData} (h : Plain ds) : SeqAt.shaped (.tuple ds) = true := by
  have h1 := h.depth
  refine tame_shaped (by simpa only [Gk.tame] using h.tame) ?_
  simp only [PyData.depth]
  omega
def ItsAt (K : PySem.W.Frag) (H : Hp) (p : Addr) (ds : List PyData) : Prop := Dp K H (.ref p) (.tuple ds)
theorem ItsAt.keep {K : PySem.W.Frag} {H H' : Hp} {p : Addr} {ds : List PyData} (h : ItsAt K H p ds) (hp : Plain ds) (k : Keep K H H') : ItsAt K H' p ds :=
  Dp.keep k _ _ (by simpa only [Gk.tups] using hp.tups) h
theorem ItsAt.out {K : PySem.W.Frag} {H : Hp} {p : Addr} {ds : List PyData} (h : ItsAt K H p ds) : ∃ xs, SqT K H p xs ∧ DpAll K H xs ds ∧ xs.length = ds.length := by
  cases h with
  | tup a b => exact ⟨_, a, b, DpAll.len b⟩
theorem plain_eq {ds es : List PyData} (h : Plain ds) (g : Plain es) : PyData.eqv (.tuple ds) (.tuple es) = true ↔ ds = es :=
  ⟨fun e => PyData.tuple.inj (eqv_exa _ _ (by simpa only [Gk.exa] using h.exa) (by simpa only [Gk.exa] using g.exa) e), fun e => by
    rw [e]
    exact eqv_same (by simpa only [Gk.tame] using g.tame)⟩

/-! ### roots -/
def Rep {α : Type} (l : List α) (s : Nat) : Prop := (List.replicate (l.length / s) (l.take s)).flatten = l
structure RootIs {α : Type} (l : List α) (s : Nat) : Prop where
  lo : 1 ≤ s
  hi : s ≤ l.length
  rep : Rep l s
  least : ∀ t, 1 ≤ t → t < s → ¬ Rep l t
theorem flat_len {α : Type} (n : Nat) (l : List α) : ((List.replicate n l).flatten).length = n * l.length := by
  induction n with
  | zero => simp
  | succ n ih => rw [List.replicate_succ, List.flatten_cons, List.length_append, ih, Nat.succ_mul, Nat.add_comm]
theorem Rep.many {α : Type} {l : List α} {s : Nat} (h : Rep l s) (hs : s ≤ l.length) : s * (l.length / s) = l.length := by
  have e := congrArg List.length h
  rw [flat_len, List.length_take, Nat.min_eq_left hs, Nat.mul_comm] at e
  exact e
theorem RootIs.one {α : Type} {l : List α} {s t : Nat} (a : RootIs l s) (b : RootIs l t) : s = t := by
  by_cases h : s < t
  · exact absurd a.rep (b.least s a.lo h)
  · by_cases g : t < s
    · exact absurd b.rep (a.least t b.lo g)
    · omega
theorem rep_all {α : Type} {l : List α} (h : 1 ≤ l.length) : Rep l l.length := by
  unfold Rep
  rw [Nat.div_self h, List.take_length]
  show [l].flatten = l
  simp
theorem flat_mul {α : Type} (x : List α) (k : Nat) : ∀ m : Nat, (List.replicate m (List.replicate k x).flatten).flatten = (List.replicate (m * k) x).flatten
  | 0 => by simp
  | m + 1 => by
    rw [List.replicate_succ, List.flatten_cons, flat_mul x k m, Nat.succ_mul, Nat.add_comm (m * k) k, ← List.replicate_append_replicate, List.flatten_append]
theorem root_again {α : Type} {l : List α} {s t : Nat} (a : RootIs l s) (b : RootIs (l.take s) t) : t = s := by
  have hl : (l.take s).length = s := by rw [List.length_take]; exact Nat.min_eq_left a.hi
  have ht : t ≤ s := by have := b.hi; rwa [hl] at this
  by_cases h : t < s
  · refine absurd ?_ (a.least t b.lo h)
    have r1 := a.rep
    have r2 := b.rep
    have m1 := Rep.many a.rep a.hi
    have m2 := Rep.many b.rep b.hi
    rw [hl] at m2
    unfold Rep at r1 r2 ⊢
    rw [hl] at r2
    have e1 : l.length / t = l.length / s * (s / t) := by
      have : l.length = t * (l.length / s * (s / t)) := by
        have h2 : t * (s / t) * (l.length / s) = l.length := by
          rw [m2]
          exact m1
        rw [Nat.mul_comm (l.length / s) (s / t), ← Nat.mul_assoc]
        exact h2.symm
      exact Nat.div_eq_of_eq_mul_right b.lo this
    have e2 : (l.take s).take t = l.take t := by rw [List.take_take, Nat.min_eq_left ht]
    rw [e2] at r2
    rw [e1, ← flat_mul, r2, r1]
  · omega
/-! ### turned -/
def rot {α : Type} (l : List α) (k : Nat) : List α := l.drop k ++ l.take k
theorem rot_len {α : Type} (l : List α) (k : Nat) : (rot l k).length = l.length := by
  unfold rot
  rw [List.length_append, List.length_drop, List.length_take]
  omega
theorem rot_at {α : Type} {l : List α} {k i : Nat} (hk : k < l.length) (hi : i < l.length) : (rot l k)[i]? = l[(i + k) % l.length]? := by
  unfold rot
  by_cases h : i < l.length - k
  · rw [List.getElem?_append_left (by rw [List.length_drop]; exact h), List.getElem?_drop, Nat.mod_eq_of_lt (by omega), Nat.add_comm]
  · rw [List.getElem?_append_right (by rw [List.length_drop]; omega), List.length_drop, List.getElem?_take_of_lt (by omega)]
    have : (i + k) % l.length = i - (l.length - k) := by
      rw [Nat.mod_eq_sub_mod (by omega), Nat.mod_eq_of_lt (by omega)]
      omega
    rw [this]
theorem rot_back {α : Type} {l : List α} {j k : Nat} (hk : k < l.length) (h : (j = 0 ∧ k = 0) ∨ j + k = l.length) : rot (rot l k) j = l := by
  rcases h with ⟨rfl, rfl⟩ | h
  · unfold rot
    simp
  · have hj : (l.drop k).length = j := by rw [List.length_drop]; omega
    show (rot l k).drop j ++ (rot l k).take j = l
    unfold rot
    rw [← hj, List.drop_left, List.take_left, List.take_append_drop]
/-! ### rules whose written part is named -/
def rLen2 (K : PySem.W.Frag) : List V → Hp → VK → Prop := fun xs H Q => ∃ p ys, xs = [.ref p] ∧ (SqL K H p ys ∨ SqT K H p ys) ∧ Q (.int ys.length) H
theorem call_lenK {X : Cx} (K : PySem.W.Frag) (h : X.K = K := by rfl) : CallR X (.builtin "len") (rLen2 K) := by
  subst h
  exact call_len_seq
theorem ix_tupK {X : Cx} (K : PySem.W.Frag) (h : X.K = K := by rfl) : IxR X (rIxT K) := by
  subst h
  exact ix_tup
theorem ix_listK {X : Cx} (K : PySem.W.Frag) (h : X.K = K := by rfl) : IxR X (rIxL K) := by
  subst h
  exact ix_list
end Gk
namespace Gk
open PySem PySem.Spec PyProof.Rows L2
/-! ### values of any kind: data with lists and dicts, away from what changes -/
mutual
inductive Dv (M : Addr → Prop) (K : PySem.W.Frag) (H : Hp) : V → PyData → Prop
  | non : Dv M K H .non .none
  | bl (b : Bool) : Dv M K H (.bl b) (.bool b)
  | int (i : Int) : Dv M K H (.int i) (.int i)
  | str (x : Str) : Dv M K H (.str x) (.str x)
  | lst {a : Addr} {xs : List V} {ds : List PyData} : H a = some (.lst xs) → ¬ M a → (a == sysModules) = false → DvAll M K H xs ds → Dv M K H (.ref a) (.list ds)
  | tup {a : Addr} {xs : List V} {ds : List PyData} : Rd H a (.tup xs) → ¬ M a → DvAll M K H xs ds → Dv M K H (.ref a) (.tuple ds)
  | tupK {a : Addr} {xs : List V} {ds : List PyData} : (∃ (o : Obj) (its : Array Value) (n : Nat), K.lookup a = some o ∧ o.cls = .type "tuple" ∧ o.data = .seq its n ∧ its.size ≤ sizeLine ∧ Vals xs its.toList) → DvAll M K H xs ds → Dv M K H (.ref a) (.tuple ds)
  | dct {a : Addr} {kvs : List (Key × V)} {ks : List Str} {xs : List V} {ds : List PyData} : H a = some (.dK kvs) → ¬ M a → kvs = (ks.map Sum.inr).zip xs → ks.length = ds.length → DvAll M K H xs ds →
      Dv M K H (.ref a) (.dict ((ks.map PyData.str).zip ds))
inductive DvAll (M : Addr → Prop) (K : PySem.W.Frag) (H : Hp) : List V → List PyData → Prop
  | nil : DvAll M K H [] []
  | cons {v : V} {vs : List V} {d : PyData} {ds : List PyData} : Dv M K H v d → DvAll M K H vs ds → DvAll M K H (v :: vs) (d :: ds)
end
/-- what does not belong to M stays -/
def Off (M : Addr → Prop) (H H' : Hp) : Prop := ∀ a o, ¬ M a → H a = some o → H' a = some o
theorem Off.refl {M : Addr → Prop} {H : Hp} : Off M H H := fun _ _ _ h => h
theorem Off.trans {M : Addr → Prop} {H H1 H2 : Hp} (x : Off M H H1) (y : Off M H1 H2) : Off M H H2 := fun a o n h => y a o n (x a o n h)
theorem Off.same {M : Addr → Prop} {H H' : Hp} (s : Same H H') : Off M H H' := fun a o _ h => s a o h
theorem Off.but {M : Addr → Prop} {H H' : Hp} {b : Addr} (s : But b H H') (hb : M b) : Off M H H' := fun a o n h => s a o (fun z => n (by rw [z]; exact hb)) h
theorem Off.mut {M : Addr → Prop} {H : Hp} {D : Addr} {o : HO} (hb : M D) : Off M H (upd H D o) := fun a u n h => by
  rw [upd_ne (fun z => n (by rw [z]; exact hb))]
  exact h
theorem Off.rd {M : Addr → Prop} {H H' : Hp} {a : Addr} {o : HO} (k : Off M H H') (n : ¬ M a) (h : Rd H a o) : Rd H' a o := h.elim (fun h => .inl (k _ _ n h)) fun ⟨ob, h⟩ => .inr ⟨ob, k _ _ n h⟩
theorem rd_some {H : Hp} {a : Addr} {o : HO} (h : Rd H a o) : ∃ u, H a = some u := h.elim (fun h => ⟨_, h⟩) fun ⟨ob, h⟩ => ⟨_, h⟩
mutual
theorem Dv.keep {M M' : Addr → Prop} {K : PySem.W.Frag} {H H' : Hp} (k : Off M H H') (m : ∀ a o, H a = some o → ¬ M a → ¬ M' a) : ∀ {v : V} {d : PyData}, Dv M K H v d → Dv M' K H' v d
  | _, _, .non => .non
  | _, _, .bl b => .bl b
  | _, _, .int i => .int i
  | _, _, .str x => .str x
  | _, _, .lst h n s r => .lst (k _ _ n h) (m _ _ h n) s (DvAll.keep k m r)
  | _, _, .tup h n r => .tup (k.rd n h) (let ⟨_, e⟩ := rd_some h; m _ _ e n) (DvAll.keep k m r)
  | _, _, .tupK h r => .tupK h (DvAll.keep k m r)
  | _, _, .dct h n e l r => .dct (k _ _ n h) (m _ _ h n) e l (DvAll.keep k m r)
theorem DvAll.keep {M M' : Addr → Prop} {K : PySem.W.Frag} {H H' : Hp} (k : Off M H H') (m : ∀ a o, H a = some o → ¬ M a → ¬ M' a) : ∀ {vs : List V} {ds : List PyData}, DvAll M K H vs ds → DvAll M' K H' vs ds
  | _, _, .nil => .nil
  | _, _, .cons h t => .cons (Dv.keep k m h) (DvAll.keep k m t)
end
section
variable {M : Addr → Prop} {K : PySem.W.Frag} {H H' : Hp}
theorem Dv.off {v : V} {d : PyData} (h : Dv M K H v d) (k : Off M H H') : Dv M K H' v d := h.keep k fun _ _ _ n => n
theorem DvAll.off {vs : List V} {ds : List PyData} (h : DvAll M K H vs ds) (k : Off M H H') : DvAll M K H' vs ds := h.keep k fun _ _ _ n => n
theorem DvAll.len : ∀ {vs : List V} {ds : List PyData}, DvAll M K H vs ds → vs.length = ds.length
  | _, _, .nil => rfl
  | _, _, .cons _ t => by rw [List.length_cons, List.length_cons, DvAll.len t]
theorem DvAll.take : ∀ {vs : List V} {ds : List PyData} (n : Nat), DvAll M K H vs ds → DvAll M K H (vs.take n) (ds.take n)
  | _, _, 0, _ => .nil
  | _, _, _ + 1, .nil => .nil
  | _, _, n + 1, .cons h t => .cons h (DvAll.take n t)
theorem DvAll.drop : ∀ {vs : List V} {ds : List PyData} (n : Nat), DvAll M K H vs ds → DvAll M K H (vs.drop n) (ds.drop n)
  | _, _, 0, h => h
  | _, _, _ + 1, .nil => .nil
  | _, _, n + 1, .cons _ t => DvAll.drop n t
theorem DvAll.app : ∀ {vs us : List V} {ds es : List PyData}, DvAll M K H vs ds → DvAll M K H us es → DvAll M K H (vs ++ us) (ds ++ es)
  | _, _, _, _, .nil, h => h
  | _, _, _, _, .cons h t, h2 => .cons h (DvAll.app t h2)
theorem DvAll.rev : ∀ {vs : List V} {ds : List PyData}, DvAll M K H vs ds → DvAll M K H vs.reverse ds.reverse
  | _, _, .nil => .nil
  | _, _, .cons h t => by
    rw [List.reverse_cons, List.reverse_cons]
    exact DvAll.app (DvAll.rev t) (.cons h .nil)
theorem DvAll.at : ∀ {vs : List V} {ds : List PyData} {i : Nat} {v : V}, DvAll M K H vs ds → vs[i]? = some v → ∃ d, ds[i]? = some d ∧ Dv M K H v d
  | _, _, _, _, .nil, h => by simp at h
  | _, _, 0, _, .cons h _, e => by
    obtain rfl := Option.some.inj e
    exact ⟨_, rfl, h⟩
  | _, _, i + 1, _, .cons _ t, e => DvAll.at (i := i) t (by simpa using e)
end
/-- the keys and the values of a dict's entries, as they are read -/
theorem pairs_reads {P : Program} {w : World} {h : Heap} : ∀ {es : List DictEntry} {ks : List Str} {xs : List V} {vs : List (Key × Value)} {us : List Value}, ks.length = xs.length → KV ((ks.map Sum.inr).zip xs) vs → Pairs (mixKind P w) es vs →
    (∃ us, Vals xs us ∧ es.map (·.val) = us) ∧ ReadsAll h (es.map (·.key)) (ks.map PyData.str) []
  | es, [], [], vs, us, _, r, p => by
    cases r
    cases p
    exact ⟨⟨[], .nil, rfl⟩, .nil⟩
  | es, k :: ks, x :: xs, vs, us, l, r, p => by
    cases r with
    | cons r1 r2 =>
      cases p with
      | cons p1 p2 p3 =>
        obtain ⟨⟨us', v', e'⟩, rd⟩ := pairs_reads (us := []) (by simpa using l) r2 p3
        obtain ⟨r1a, r1b⟩ := r1
        refine ⟨⟨_ :: us', .cons r1b v', by rw [List.map_cons, e', p2]⟩, ?_⟩
        rw [← r1a] at p1
        have p1' : Value.isStrOf k _ = true := p1
        obtain ⟨t, et⟩ := Value.isStrOf_shape p1'
        rw [List.map_cons, List.map_cons, et]
        exact ReadsAll.cons (as := []) (bs := []) (Reads.str k t) rd
  | _, [], _ :: _, _, _, l, _, _ => by simp at l
  | _, _ :: _, [], _, _, l, _, _ => by simp at l
section
variable {X : Cx} {M : Addr → Prop} {pins : List (Addr × Obj)} {σ : L2.St} {H : Hp} {s : Shared}
mutual
theorem Dv.reads (I : Inv X pins σ H s) : ∀ {v : V} {d : PyData} {u : Value}, Dv M X.K H v d → RelV v u → ∃ as, Reads s.heap u d as ∧ sysModules ∉ as
  | _, _, u, .non, r => by cases r; exact ⟨[], .none, fun z => nomatch z⟩
  | _, _, u, .bl b, r => by cases r; exact ⟨[], .bool b, fun z => nomatch z⟩
  | _, _, u, .int i, r => by obtain ⟨t, rfl⟩ := r; exact ⟨[], .int i t, fun z => nomatch z⟩
  | _, _, u, .str x, r => by obtain ⟨t, rfl⟩ := r; exact ⟨[], .str x t, fun z => nomatch z⟩
  | _, _, u, .lst (a := a) h n sm ra, r => by
    cases r
    obtain ⟨hz, its, k, rv, ho⟩ := I.hok _ _ h
    obtain ⟨as, rd, na⟩ := DvAll.reads I ra rv
    refine ⟨a :: as, .list ho rfl rfl (by simpa using rd), fun z => ?_⟩
    rcases List.mem_cons.mp z with z | z
    · rw [z] at sm
      exact absurd sm (by simp)
    · exact na z
  | _, _, u, .tup h n ra, r => by
    cases r
    obtain ⟨its, rv, ⟨o, ho, hc, k, hd⟩, _⟩ := I.tuple (.inl h)
    obtain ⟨as, rd, na⟩ := DvAll.reads I ra rv
    exact ⟨as, .tuple ho hc hd (by simpa using rd), na⟩
  | _, _, u, .tupK h ra, r => by
    cases r
    obtain ⟨its, rv, ⟨o, ho, hc, k, hd⟩, _⟩ := I.tuple (.inr h)
    obtain ⟨as, rd, na⟩ := DvAll.reads I ra rv
    exact ⟨as, .tuple ho hc hd (by simpa using rd), na⟩
  | _, _, u, .dct (a := a) (ks := ks) (xs := xs) h n e l ra, r => by
    cases r
    obtain ⟨hz, sm, vs, kv, o, es, ep, ho, ex, hd, _, ps, _⟩ := I.hok _ _ h
    rw [e] at kv
    have hl := DvAll.len ra
    obtain ⟨⟨us, vu, eu⟩, rk⟩ := pairs_reads (P := X.prog) (w := X.w) (h := s.heap) (us := []) (l.trans hl.symm) kv ps
    obtain ⟨as, rd, na⟩ := DvAll.reads I ra vu
    rw [← eu] at rd
    refine ⟨a :: [] ++ as, .dict ho ex.1 hd ?_ ?_, fun z => ?_⟩
    · rw [List.map_fst_zip (by rw [List.length_map]; omega)]
      exact rk
    · rw [List.map_snd_zip (by rw [List.length_map]; omega)]
      exact rd
    · rcases List.mem_cons.mp z with z | z
      · rw [z] at sm
        exact absurd sm (by simp)
      · exact na z
theorem DvAll.reads (I : Inv X pins σ H s) : ∀ {vs : List V} {ds : List PyData} {us : List Value}, DvAll M X.K H vs ds → Vals vs us → ∃ as, ReadsAll s.heap us ds as ∧ sysModules ∉ as
  | _, _, _, .nil, r => by cases r; exact ⟨[], .nil, fun z => nomatch z⟩
  | _, _, _, .cons h t, r => by
    cases r with
    | cons r1 r2 =>
      obtain ⟨as, q1, n1⟩ := Dv.reads I h r1
      obtain ⟨bs, q2, n2⟩ := DvAll.reads I t r2
      exact ⟨as ++ bs, .cons q1 q2, fun z => (List.mem_append.mp z).elim n1 n2⟩
end
end
end Gk
namespace Gk
open PySem PySem.Spec PyProof.Rows L2
mutual
def fin : PyData → Nat → Bool
  | .none, _ | .bool _, _ => true
  | .int i, B => decide (i.natAbs ≤ B)
  | .str x, _ => x.cps.all (· < 0x110000)
  | .list xs, B | .tuple xs, B => finAll xs B
  | .dict kvs, B => finKv kvs B
def finAll : List PyData → Nat → Bool
  | [], _ => true
  | x :: xs, B => fin x B && finAll xs B
def finKv : List (PyData × PyData) → Nat → Bool
  | [], _ => true
  | (k, v) :: r, B => fin k B && fin v B && finKv r B
end
mutual
def big : PyData → Nat
  | .none | .bool _ | .int _ => 70
  | .str x => x.cps.size + 1
  | .list xs | .tuple xs => bigAll xs
  | .dict kvs => bigKv kvs
def bigAll : List PyData → Nat
  | [] => 1
  | x :: xs => big x + 1 + bigAll xs
def bigKv : List (PyData × PyData) → Nat
  | [] => 1
  | (k, v) :: r => big k + big v + 2 + bigKv r
end
mutual
theorem fin_facts {B : Nat} (hB : B < 10 ^ 20) : ∀ d : PyData, fin d B = true → d.showable = true ∧ d.leavesShort 21 = true ∧ d.weight ≤ big d
  | .none, _ => ⟨rfl, rfl, Nat.zero_le _⟩
  | .bool _, _ => ⟨rfl, rfl, Nat.zero_le _⟩
  | .int i, h => by
    simp only [fin, decide_eq_true_eq] at h
    have h1 := int_log20 (c := i) (by omega)
    have h2 := int_len20 (c := i) (by omega)
    refine ⟨?_, ?_, ?_⟩
    · simp only [PyData.showable]
      exact decide_eq_true (by omega)
    · simp only [PyData.leavesShort]
      exact decide_eq_true h2
    · simp only [PyData.weight, big]
      split <;> omega
  | .str x, h => by
    have h1 : tame (.str x) = true := by simpa only [fin, tame] using h
    exact ⟨rfl, tame_short _ h1, by simp only [PyData.weight, big]; omega⟩
  | .list xs, h => by
    have := fin_factsAll hB xs (by simpa only [fin] using h)
    simpa only [PyData.showable, PyData.leavesShort, PyData.weight, big] using this
  | .tuple xs, h => by
    have := fin_factsAll hB xs (by simpa only [fin] using h)
    simpa only [PyData.showable, PyData.leavesShort, PyData.weight, big] using this
  | .dict kvs, h => by
    have := fin_factsKv hB kvs (by simpa only [fin] using h)
    simpa only [PyData.showable, PyData.leavesShort, PyData.weight, big] using this
theorem fin_factsAll {B : Nat} (hB : B < 10 ^ 20) : ∀ ds : List PyData, finAll ds B = true → PyData.showableAll ds = true ∧ PyData.leavesShortAll 21 ds = true ∧ PyData.weightAll ds ≤ bigAll ds
  | [], _ => ⟨rfl, rfl, Nat.zero_le _⟩
  | x :: xs, h => by
    simp only [finAll, Bool.and_eq_true] at h
    obtain ⟨a1, a2, a3⟩ := fin_facts hB x h.1
    obtain ⟨b1, b2, b3⟩ := fin_factsAll hB xs h.2
    refine ⟨by simp only [PyData.showableAll, a1, b1, Bool.and_self], by simp only [PyData.leavesShortAll, a2, b2, Bool.and_self], ?_⟩
    simp only [PyData.weightAll, bigAll]
    omega
theorem fin_factsKv {B : Nat} (hB : B < 10 ^ 20) : ∀ kvs : List (PyData × PyData), finKv kvs B = true → PyData.showableKv kvs = true ∧ PyData.leavesShortKv 21 kvs = true ∧ PyData.weightKv kvs ≤ bigKv kvs
  | [], _ => ⟨rfl, rfl, Nat.zero_le _⟩
  | (k, v) :: r, h => by
    simp only [finKv, Bool.and_eq_true] at h
    obtain ⟨a1, a2, a3⟩ := fin_facts hB k h.1.1
    obtain ⟨c1, c2, c3⟩ := fin_facts hB v h.1.2
    obtain ⟨b1, b2, b3⟩ := fin_factsKv hB r h.2
    refine ⟨by simp only [PyData.showableKv, a1, b1, c1, Bool.and_self], by simp only [PyData.leavesShortKv, a2, b2, c2, Bool.and_self], ?_⟩
    simp only [PyData.weightKv, bigKv]
    omega
end
/-- data that may be shown, of any kind -/
structure Show (d : PyData) : Prop where
  a : d.showable = true
  c : d.depth ≤ 40
  e : d.shown.length ≤ sizeLine
theorem Show.of {d : PyData} {B : Nat} (hB : B < 10 ^ 20) (h : fin d B = true) (hd : d.depth ≤ 40) (hc : big d ≤ 500000) : Show d := by
  obtain ⟨a1, a2, a3⟩ := fin_facts hB d h
  refine ⟨a1, hd, ?_⟩
  have h1 := PyData.shown_le 21 (by decide) d a2
  have h3 : sizeLine = 16777216 := sizeLine_eq
  omega
theorem call_reprV {X : Cx} {k : Nat} (M : Addr → Prop) (hr : Room k X.A) (hg : X.A.guards = some []) : CallR X (.builtin "repr") (fun xs H Q => ∃ v d, xs = [v] ∧ Dv M X.K H v d ∧ Show d ∧ Q (.str d.shown) H) := by
  intro pins s σ H xs us Q I r h
  obtain ⟨v, d, rfl, hd, sh, q⟩ := h
  obtain ⟨u, rfl, ru⟩ := vals1 r
  have hun := hr.units
  have hc := sh.c
  obtain ⟨as, rd, na⟩ := Dv.reads I hd ru
  cases hd with
  | non =>
    cases ru
    exact PySem.P.repr_of_none ⟨.str _, H, I.tok _, ⟨_, rfl⟩, q⟩
  | bl b =>
    cases ru
    exact PySem.P.repr_of_bool ⟨.str _, H, I.tok _, ⟨_, rfl⟩, q⟩
  | int i =>
    obtain ⟨t, rfl⟩ := ru
    exact PySem.P.repr_of_int (of_decide_eq_true sh.a) ⟨.str _, H, I.tok _, ⟨_, rfl⟩, q⟩
  | str x =>
    obtain ⟨t, rfl⟩ := ru
    exact PySem.P.repr_of_str ⟨.str _, H, I.tok _, ⟨_, rfl⟩, q⟩ sh.e
  | lst _ _ _ _ =>
    cases ru
    exact repr_of_reads' rd sh.a (fun _ => na) hg (by omega) (fun _ _ e => e) (fun h' t tk hk => ⟨.str _, H, I.kept (t' := tk) hk, ⟨_, rfl⟩, q⟩) sh.e
  | tupK _ _ =>
    cases ru
    exact repr_of_reads' rd sh.a (fun _ => na) hg (by omega) (fun _ _ e => e) (fun h' t tk hk => ⟨.str _, H, I.kept (t' := tk) hk, ⟨_, rfl⟩, q⟩) sh.e
  | tup _ _ _ =>
    cases ru
    exact repr_of_reads' rd sh.a (fun _ => na) hg (by omega) (fun _ _ e => e) (fun h' t tk hk => ⟨.str _, H, I.kept (t' := tk) hk, ⟨_, rfl⟩, q⟩) sh.e
  | dct _ _ _ _ _ =>
    cases ru
    exact repr_of_reads' rd sh.a (fun _ => na) hg (by omega) (fun _ _ e => e) (fun h' t tk hk => ⟨.str _, H, I.kept (t' := tk) hk, ⟨_, rfl⟩, q⟩) sh.e
/-- a list of written items, its place told apart from the table of modules -/
def tLstN (t : TA) : TE := fun σ H Q => t σ H fun xs H1 => xs.length ≤ sizeLine ∧ ∀ p, H1 p = none → (p == sysModules) = false → Q (.ref p) (upd H1 p (.lst xs))
theorem not_modules {X : Cx} {pins : List (Addr × Obj)} {σ : L2.St} {H : Hp} {s : Shared} (I : Inv X pins σ H s) : (s.heap.objs.size == sysModules) = false := beq_eq_false_iff_ne.mpr (Nat.ne_of_gt I.big)
theorem pe_lstN {X : Cx} {es : List Expr} {t : TA} {pos : Pos} (h : PA X es t) : PE X (.List es pos) (tLstN t) :=
  ⟨fun pins s σ H Q I hq => wpAny_List_spliced (thn (h.run pos pins s σ H _ I hq) fun us s1 ⟨xs, H1, I1, r, z, q⟩ => ⟨by rw [← r.length]; exact z, .ref s1.heap.objs.size, upd H1 s1.heap.objs.size (.lst xs),
    I1.laid (t' := s1.toks) (fun b u e => Heap.get?_push_of_some _ e) (Nat.le_refl _) ⟨z, us, 0, r, Heap.get?_push_size _ rfl⟩, rfl, q _ (I1.hok.fresh (Nat.le_refl _)) (not_modules I1)⟩)⟩
/-- what isinstance says of such a value -/
def tyD : PyData → Value
  | .none => .type "NoneType"
  | .bool _ => .type "bool"
  | .int _ => .type "int"
  | .str _ => .type "str"
  | .list _ => .type "list"
  | .tuple _ => .type "tuple"
  | .dict _ => .type "dict"
theorem Dv.ty {M : Addr → Prop} {K : PySem.W.Frag} {H : Hp} {v : V} {d : PyData} (h : Dv M K H v d) : TyX K H v (tyD d) := by
  cases h with
  | non => exact .base .non
  | bl b => exact .base (.bl b)
  | int i => exact .base (.int i)
  | str x => exact .base (.str x)
  | lst h _ _ _ => exact .base (.lst h)
  | tup h _ _ =>
    rcases h with h | ⟨o, h⟩
    · exact .base (.tup h)
    · exact .fTuple h
  | tupK h _ =>
    obtain ⟨o, _, _, e, c, _⟩ := h
    exact .kTuple e c
  | dct h _ _ _ _ => exact .base (.dK h)
def isTup : PyData → Bool
  | .tuple _ => true
  | _ => false
def isIn : PyData → Bool
  | .int _ | .bool _ => true
  | _ => false
def isBo : PyData → Bool
  | .bool _ => true
  | _ => false
theorem kit_tup {K : PySem.W.Frag} (d : PyData) : PySem.W.kitOne K (tyD d) (.type "tuple") = some (isTup d) := by
  have t : ∀ x ∈ ["NoneType", "bool", "int", "str", "list", "dict"], kitB x "tuple" = some false := by decide +kernel
  cases d with
  | none => exact L2.kit_ty (t "NoneType" (by decide))
  | bool _ => exact L2.kit_ty (t "bool" (by decide))
  | int _ => exact L2.kit_ty (t "int" (by decide))
  | str _ => exact L2.kit_ty (t "str" (by decide))
  | list _ => exact L2.kit_ty (t "list" (by decide))
  | dict _ => exact L2.kit_ty (t "dict" (by decide))
  | tuple _ => exact L2.kit_ty (show kitB "tuple" "tuple" = some true by decide +kernel)
theorem kit_int {K : PySem.W.Frag} (d : PyData) : PySem.W.kitOne K (tyD d) (.type "int") = some (isIn d) := by
  have t : ∀ x ∈ ["NoneType", "str", "list", "tuple", "dict"], kitB x "int" = some false := by decide +kernel
  have u : ∀ x ∈ ["bool", "int"], kitB x "int" = some true := by decide +kernel
  cases d with
  | none => exact L2.kit_ty (t "NoneType" (by decide))
  | bool _ => exact L2.kit_ty (u "bool" (by decide))
  | int _ => exact L2.kit_ty (u "int" (by decide))
  | str _ => exact L2.kit_ty (t "str" (by decide))
  | list _ => exact L2.kit_ty (t "list" (by decide))
  | dict _ => exact L2.kit_ty (t "dict" (by decide))
  | tuple _ => exact L2.kit_ty (t "tuple" (by decide))
theorem kit_bool {K : PySem.W.Frag} (d : PyData) : PySem.W.kitOne K (tyD d) (.type "bool") = some (isBo d) := by
  have t : ∀ x ∈ ["NoneType", "int", "str", "list", "tuple", "dict"], kitB x "bool" = some false := by decide +kernel
  cases d with
  | none => exact L2.kit_ty (t "NoneType" (by decide))
  | int _ => exact L2.kit_ty (t "int" (by decide))
  | str _ => exact L2.kit_ty (t "str" (by decide))
  | list _ => exact L2.kit_ty (t "list" (by decide))
  | dict _ => exact L2.kit_ty (t "dict" (by decide))
  | tuple _ => exact L2.kit_ty (t "tuple" (by decide))
  | bool _ => exact L2.kit_ty (show kitB "bool" "bool" = some true by decide +kernel)
end Gk
namespace Gk
open PySem PySem.Spec PyProof.Rows L2
/-! ### expressions that make data -/
theorem same_new2 {H : Hp} {p : Addr} {o o' : HO} (h : H p = none) : Same H (upd (upd H p o) p o') := fun a u e => by
  rw [upd_ne (ne_of_none e h), upd_ne (ne_of_none e h)]; exact e
/-- what M speaks of stands on the heap -/
def Stands (M : Addr → Prop) (H : Hp) : Prop := ∀ a, M a → ∃ o, H a = some o
theorem Stands.same {M : Addr → Prop} {H H' : Hp} (h : Stands M H) (s : Same H H') : Stands M H' := fun a m => by
  obtain ⟨o, e⟩ := h a m
  exact ⟨o, s _ _ e⟩
theorem Stands.new {M : Addr → Prop} {H : Hp} {p : Addr} (h : Stands M H) (n : H p = none) : ¬ M p := fun m => by
  obtain ⟨o, e⟩ := h p m
  rw [n] at e; cases e
def Mk (M : Addr → Prop) (K : PySem.W.Frag) (t : TE) (σ : L2.St) (H0 : Hp) (d : PyData) : Prop :=
  ∀ (H : Hp) (M' : Addr → Prop) (Q : VK), Same H0 H → (∀ a, M a → M' a) → (∀ a, M' a → M a ∨ H0 a = none) → Stands M' H → (∀ v H', Same H H' → Dv M' K H' v d → Q v H') → t σ H Q
def MkA (M : Addr → Prop) (K : PySem.W.Frag) (t : TA) (σ : L2.St) (H0 : Hp) (ds : List PyData) : Prop :=
  ∀ (H : Hp) (M' : Addr → Prop) (Q : List V → Hp → Prop), Same H0 H → (∀ a, M a → M' a) → (∀ a, M' a → M a ∨ H0 a = none) → Stands M' H → (∀ vs H', Same H H' → DvAll M' K H' vs ds → Q vs H') → t σ H Q
theorem none_of {H H' : Hp} {p : Addr} (s : Same H H') (n : H' p = none) : H p = none := by
  cases e : H p with
  | none => rfl
  | some o => rw [s _ _ e] at n; cases n
section
variable {M : Addr → Prop} {K : PySem.W.Frag} {σ : L2.St} {H0 : Hp}
theorem mk_c {v : V} {d : PyData} (h : ∀ M H, Dv M K H v d) : Mk M K (tC v) σ H0 d := fun H M' Q s u w z q => q _ _ (Same.refl _) (h M' H)
theorem mk_int {i : Int} : Mk M K (tC (.int i)) σ H0 (.int i) := mk_c fun _ _ => .int i
theorem mk_str {x : Str} : Mk M K (tC (.str x)) σ H0 (.str x) := mk_c fun _ _ => .str x
theorem mk_non : Mk M K (tC .non) σ H0 .none := mk_c fun _ _ => .non
theorem mk_bl {b : Bool} : Mk M K (tC (.bl b)) σ H0 (.bool b) := mk_c fun _ _ => .bl b
theorem mk_neg {i : Int} : Mk M K (tUn (rU fun i => .int (-i)) (tC (.int i))) σ H0 (.int (-i)) := fun H M' Q s u w z q => ⟨_, rfl, q _ _ (Same.refl _) (.int _)⟩
theorem mk_pow {i j : Int} (c : CPow i j) : Mk M K (tOp (rI CPow fun i j => .int (i ^ j.toNat)) (tC (.int i)) (tC (.int j))) σ H0 (.int (i ^ j.toNat)) :=
  fun H M' Q s u w z q => ⟨_, _, rfl, rfl, c, q _ _ (Same.refl _) (.int _)⟩
theorem mk_var {i : Nat} {v : V} {d : PyData} (e : σ[i]? = some (some v)) (h : Dv M K H0 v d) : Mk M K (tVar i) σ H0 d := fun H M' Q s u w z q =>
  ⟨v, e, q _ _ (Same.refl _) (h.keep (Off.same s) fun a o ea na ma => (w a ma).elim na fun en => by rw [ea] at en; cases en)⟩
theorem mkA_nil : MkA M K tNil σ H0 [] := fun H M' Q s u w z q => q _ _ (Same.refl _) .nil
theorem mkA_cons {t : TE} {r : TA} {d : PyData} {ds : List PyData} (h : Mk M K t σ H0 d) (hr : MkA M K r σ H0 ds) : MkA M K (tCons t r) σ H0 (d :: ds) := fun H M' Q s u w z q =>
  h H M' _ s u w z fun v H1 s1 e1 => hr H1 M' _ (s.trans s1) u w (z.same s1) fun vs H2 s2 e2 => q _ _ (s1.trans s2) (.cons (e1.off (Off.same s2)) e2)
theorem mk_tup {t : TA} {ds : List PyData} (h : MkA M K t σ H0 ds) (l : ds.length ≤ 1000) : Mk M K (tTup t) σ H0 (.tuple ds) := fun H M' Q s u w z q =>
  h H M' _ s u w z fun vs H1 s1 e1 => ⟨by rw [e1.len, sizeLine_eq]; omega, fun p n => q _ _ (s1.trans (same_new n)) (.tup (.inl upd_same) ((z.same s1).new n) (e1.off (Off.same (same_new n))))⟩
theorem mk_lst {t : TA} {ds : List PyData} (h : MkA M K t σ H0 ds) (l : ds.length ≤ 1000) : Mk M K (tLstN t) σ H0 (.list ds) := fun H M' Q s u w z q =>
  h H M' _ s u w z fun vs H1 s1 e1 => ⟨by rw [e1.len, sizeLine_eq]; omega, fun p n y => q _ _ (s1.trans (same_new n)) (.lst upd_same ((z.same s1).new n) y (e1.off (Off.same (same_new n))))⟩
theorem mk_dct {t : TE} {k : Str} {d : PyData} (h : Mk M K t σ H0 d) : Mk M K (tDisp [(tC (.str k), t)]) σ H0 (.dict [(.str k, d)]) := fun H M' Q s u w z q => by
  intro p n
  show t σ _ _
  refine h _ (fun a => M' a ∨ a = p) _ (s.trans (same_new n)) (fun a ma => .inl (u a ma)) (fun a ma => ma.elim (w a) fun e => .inr (by rw [e]; exact none_of s n)) (fun a ma => ?_) fun v H1 s1 e1 => ?_
  · rcases ma with ma | rfl
    · obtain ⟨o, e⟩ := z a ma
      exact ⟨o, same_new n _ _ e⟩
    · exact ⟨_, upd_same⟩
  · have hp : H1 p = some (.dK []) := s1 _ _ upd_same
    have sm : Same H (upd H1 p (.dK [(Sum.inr k, v)])) := fun a o e => by
      rw [upd_ne (ne_of_none e n)]
      exact s1 _ _ (same_new n _ _ e)
    refine ⟨hp, [(Sum.inr k, v)], rfl, by show 1 ≤ 15; decide, q _ _ sm ?_⟩
    exact Dv.dct (ks := [k]) (xs := [v]) (ds := [d]) upd_same (z.new n) rfl rfl (.cons (e1.keep (Off.mut (.inr rfl)) fun a o _ na ma => na (.inl ma)) .nil)
theorem mk_dct0 : Mk M K tDNewK σ H0 (.dict []) := fun H M' Q s u w z q => by
  intro p n
  exact q _ _ (same_new n) (.dct (ks := []) (xs := []) (ds := []) upd_same (z.new n) rfl rfl .nil)
/-- a list of made things -/
theorem mk_some {t : TA} {ds : List PyData} {Q : VK} (h : MkA M K t σ H0 ds) (z : Stands M H0) (l : ds.length ≤ 1000) (q : ∀ p xs H', Same H0 H' → H0 p = none → H' p = some (.lst xs) → DvAll M K H' xs ds → xs.length = ds.length → Q (.ref p) H') : tLst t σ H0 Q :=
  h H0 M _ (Same.refl _) (fun _ m => m) (fun _ m => .inl m) z fun vs H1 s1 e1 => ⟨by rw [e1.len, sizeLine_eq]; omega, fun p n => q p vs _ (s1.trans (same_new n)) (none_of s1 n) upd_same (e1.off (Off.same (same_new n))) e1.len⟩
end
end Gk
namespace Gk
open PySem PySem.Spec PyProof.Rows L2 HT
/-! ### a tuple from behind -/
section
variable {prog : Program} {w : World} {A : Around} {E : Value → Shared → Prop} {s : Shared}
theorem adjust_rev (n : Nat) : Builtin.Slice.sliceAdjust none none (-1) (n : Int) = ((n : Int) - 1, -1) := by
  have h1 : ((-1 : Int) < 0) := by decide
  unfold Builtin.Slice.sliceAdjust
  simp only [h1, if_true]
theorem places_rev (n : Nat) : Builtin.Slice.slicePlaces ((n : Int) - 1) (-1) (-1) = n := by
  unfold Builtin.Slice.slicePlaces
  have h1 : ¬ ((-1 : Int) > 0) := by decide
  have h2 : (-(-1) : Int) = 1 := by decide
  simp only [h1, if_false, h2, Int.ediv_one]
  split <;> omega
theorem applied_rev {sl : Addr} {vs : Value} {n : Nat} {Q : Int × Int × Nat → Shared → Prop} (hs : s.heap.IsSliceOf sl .none .none vs) (ps : IsPart vs (some (-1)))
    (h : Q ((n : Int) - 1, -1, n) s) : wpAny (model prog w) A (Builtin.Slice.sliceApplied (.ref sl) (pure (n : Int))) Q E s := by
  obtain ⟨os, hos, hcs, hds⟩ := id hs
  unfold Builtin.Slice.sliceApplied Builtin.Slice.sliceFields
  refine wpAny_bind (wpAny_bind (wpAny_field hos hds (x := .none) rfl (wpAny_bind (wpAny_field hos hds (x := .none) rfl (wpAny_bind (wpAny_field hos hds (x := vs) rfl (wpAny_pure ?_)))))))
  refine wpAny_bind (slicePart_ ps ?_)
  show wpAny _ _ (if ((-1 : Int) == 0) = true then _ else _) _ _ s
  rw [if_neg (by decide)]
  refine wpAny_bind (slicePart_none (wpAny_bind (slicePart_none (wpAny_bind (wpAny_pure ?_)))))
  show wpAny _ _ (match Builtin.Slice.sliceAdjust none none (-1) (n : Int) with | (lo, hi) => pure (lo, (-1 : Int), Builtin.Slice.slicePlaces lo hi (-1))) _ _ s
  rw [adjust_rev n]
  show wpAny _ _ (pure ((n : Int) - 1, (-1 : Int), Builtin.Slice.slicePlaces ((n : Int) - 1) (-1) (-1))) _ _ s
  rw [places_rev]
  exact wpAny_pure h
theorem fm_congr {α β : Type} {f g : α → Option β} : ∀ l : List α, (∀ m ∈ l, f m = g m) → l.filterMap f = l.filterMap g
  | [], _ => rfl
  | a :: l, h => by
    rw [List.filterMap_cons, List.filterMap_cons, h a List.mem_cons_self, fm_congr l fun m hm => h m (List.mem_cons_of_mem _ hm)]
theorem pick_rev (xs : Array Value) : ((List.range xs.size).filterMap fun (m : Nat) => xs[(((xs.size : Int) - 1) + (m : Int) * (-1)).toNat]?).toArray = xs.toList.reverse.toArray := by
  have e : ((List.range xs.size).filterMap fun (m : Nat) => xs[(((xs.size : Int) - 1) + (m : Int) * (-1)).toNat]?) = ((List.range xs.size).map fun k => xs.size - 1 - k).filterMap (xs[·]?) := by
    rw [List.filterMap_map]
    refine fm_congr _ fun m hm => ?_
    have hm := List.mem_range.mp hm
    show xs[(((xs.size : Int) - 1) + (m : Int) * (-1)).toNat]? = xs[xs.size - 1 - m]?
    have : (((xs.size : Int) - 1) + (m : Int) * (-1)).toNat = xs.size - 1 - m := by omega
    rw [this]
  rw [e, PySem.W.krv_range, List.filterMap_reverse, PySem.W.krv_all]
theorem getItem_tuple_rev {t sl : Addr} {items : Array Value} {vs : Value} {Q : Value → Shared → Prop} (ht : IsTup s.heap t items) (hs : s.heap.IsSliceOf sl .none .none vs) (ps : IsPart vs (some (-1)))
    (h : Q (.ref s.heap.objs.size) { s with heap := s.heap.push { cls := .type "tuple", data := .seq items.toList.reverse.toArray } })
    (hsz : items.size ≤ sizeLine) : wpAny (model prog w) A (getItem (.ref t) (.ref sl)) Q E s := by
  have htake : sizeOk (.seq items.toList.reverse.toArray) := by
    show items.toList.reverse.toArray.size ≤ sizeLine
    rw [List.size_toArray, List.length_reverse, Array.length_toList]
    exact hsz
  obtain ⟨os, hos, hcs, hds⟩ := id hs
  have hTs : s.TypeIs (.ref sl) "slice" := ⟨os, hos, hcs⟩
  unfold getItem
  try with_reducible refine wpAny_holding ?_
  first | refine wpAny_bind (wpAny_pure ?_) | skip
  refine wpAny_bind (wpAny_sequenceKey ht.typeIs (by decide) ?_)
  refine wpAny_bind (wpAny_callSpecial?_slot (name := Str.ofString "__getitem__") ht.typeIs PyProof.Rows.slot_tuple_getitem
    (wpAny_call_entry PyProof.Rows.slot_tuple_getitem ht.typeIs entry_tuple_getitem ?_ (args_tuple_getitem _ _)))
  show wpAny _ _ (Builtin.Tuple.tupleItemsOf (.ref t) >>= _) _ _ s
  refine wpAny_bind (tupleItemsOf_ ht ?_)
  refine wpAny_bind (wpAny_typeOf hTs ?_)
  rw [if_pos (by decide)]
  refine wpAny_bind (applied_rev hs ps ?_)
  have hno : ¬ (((((items.size : Int) - 1) : Int) == 0 && (-1 : Int) == 1 && items.size == items.size) = true) := by simp
  show wpAny _ _ (if ((((items.size : Int) - 1) : Int) == 0 && (-1 : Int) == 1 && items.size == items.size) = true then _ else _) _ _ s
  rw [if_neg hno, pick_rev]
  first
    | exact wpAny_bind (m := Builtin.Tuple.tupleExact _) (wpAny_newObj_type (wpAny_pure ⟨_, rfl, wpAny_pure h⟩) htake)
    | exact wpAny_bind (m := Builtin.Tuple.tupleExact _) (wpAny_newObj_type (wpAny_bind (wpAny_pure (wpAny_pure ⟨_, rfl, wpAny_pure h⟩))) htake)
    | exact wpAny_bind (wpAny_bind (m := Builtin.Tuple.tupleExact _) (wpAny_newObj_type (wpAny_pure (wpAny_pure ⟨_, rfl, wpAny_pure h⟩)) htake))
    | exact wpAny_bind (wpAny_bind (m := Builtin.Tuple.tupleExact _) (wpAny_newObj_type (wpAny_pure ⟨_, rfl, wpAny_pure h⟩) htake))
end
def tRevU (K : PySem.W.Frag) (te : TE) : TE := fun σ H Q => te σ H fun x H1 => ∃ a xs, x = .ref a ∧ SqT K H1 a xs ∧ ∀ p, H1 p = none → Q (.ref p) (upd H1 p (.tup xs.reverse))
theorem pe_revU {X : Cx} {e : Expr} {te : TE} {k : Nat} {p1 p2 p3 pos : Pos} (he : PE X e te) : PE X (.Subscript e (.Slice none none (some (.UnaryOp .USub (.Constant (.int 1) k p1) p2)) p3) pos) (tRevU X.K te) := by
  refine ⟨fun pins s σ H Q I h => ?_⟩
  refine Subscript_ (thn (he.run pins s σ H _ I h) fun v s1 ⟨x, H1, I1, r1, q1⟩ => ?_)
  obtain ⟨a, xs, ex, hx, q⟩ := q1
  subst ex
  cases r1
  have hst : PO X (some (.UnaryOp .USub (.Constant (.int 1) k p1) p2)) (tPart (tUn (rU fun i => .int (-i)) (tC (.int 1)))) := po_some (pe_un un_neg pe_int)
  refine wpAny_Slice (thn (po_none.run pins s1 σ H1 (fun o H2 => o = none ∧ H2 = H1) I1 ⟨rfl, rfl⟩) fun vl s2 ⟨l, H2, I2, pl, el, e2⟩ => ?_)
  subst el e2
  refine thn (po_none.run pins s2 σ H2 (fun o H3 => o = none ∧ H3 = H2) I2 ⟨rfl, rfl⟩) fun vu s3 ⟨u, H3, I3, pu, eu, e3⟩ => ?_
  subst eu e3
  refine thn (hst.run pins s3 σ H3 (fun o H4 => o = some (-1) ∧ H4 = H3) I3 ⟨1, rfl, -1, rfl, rfl, rfl⟩) fun vs s4 ⟨o, H4, I4, ps, eo, e4⟩ => ?_
  subst eo e4
  cases pl
  cases pu
  have I5 : Inv X pins σ H4 { s4 with heap := s4.heap.push { cls := .type "slice", data := .fields #[.none, .none, vs] } } := I4.kept (t' := s4.toks) fun b ob q => Heap.get?_push_of_some _ q
  obtain ⟨its, r, ht, hz⟩ := I5.tuple hx
  have hlen := r.length
  refine tail_any (ops := [.ref a, .ref s4.heap.objs.size]) ht.typeIs (PyProof.Rows.slot_tuple_getitem.lookup) ?_ (by with_unfolding_all rfl)
  refine getItem_tuple_rev ht (Heap.IsSliceOf.new _ .none .none vs) ps ?_ (by rw [List.size_toArray]; omega)
  refine ⟨.ref _, _, I5.laid (t' := s4.toks) (o := .tup xs.reverse) (fun b ob q => Heap.get?_push_of_some _ q) (Nat.le_refl _) ?_, rfl, q _ (I5.hok.fresh (Nat.le_refl _))⟩
  exact ⟨by rw [List.length_reverse]; exact hz, _, r.reverse, IsTup.new _ _⟩
/-! ### whether a tuple is not () -/
def rNe0 (K : PySem.W.Frag) : R2 := fun x y H Q => ∃ a b xs, x = .ref a ∧ y = .ref b ∧ SqT K H a xs ∧ SqT K H b [] ∧ Q (.bl (!decide (xs = []))) H
theorem op_ne0 {X : Cx} (hu : X.A.units < cLine) : OpR X (compareOp .NotEq) (rNe0 X.K) := by
  intro pins s σ H x y v u Q I rx ry h
  obtain ⟨a, b, xs, rfl, rfl, ha, hb, q⟩ := h
  cases rx
  cases ry
  obtain ⟨its, r1, p1, _⟩ := I.tuple ha
  obtain ⟨its2, r2, p2, _⟩ := I.tuple hb
  cases r2
  have t1 : s.heap.IsTuple a its.toArray := by
    obtain ⟨o, ho, hc, n, hd⟩ := p1
    exact ⟨o, ho, hc, n, hd⟩
  have t2 : s.heap.IsTuple b ([] : List Value).toArray := by
    obtain ⟨o, ho, hc, n, hd⟩ := p2
    exact ⟨o, ho, hc, n, hd⟩
  refine SeqAt.RcNeAt.tuples (e := fun _ => true) t1 t2 hu (fun j h1 h2 => absurd h2 (Nat.not_lt_zero _)) X.prog X.w X.xe (EP X pins σ Q) ⟨.bl _, H, I, ?_, q⟩
  have hl := r1.length
  show Value.bool _ = Value.bool _
  congr 1
  cases xs with
  | nil =>
    cases r1
    rfl
  | cons x xs =>
    cases r1
    simp
end Gk
namespace Gk
open PySem PySem.Spec PyProof.Rows L2
/-! ### math.lcm; small things for any law -/
def rLcm : List V → Hp → VK → Prop := fun vs H Q => ∃ a b : Int, vs = [.int a, .int b] ∧ a.natAbs < 2 ^ 64 ∧ b.natAbs < 2 ^ 64 ∧ Q (.int ((a.natAbs.lcm b.natAbs : Nat) : Int)) H
theorem cr_lcm {X : Cx} : CallR X (.builtin "math.lcm") rLcm := by
  intro pins s σ H vs us Q I r h
  obtain ⟨a, b, rfl, ha, hb, q⟩ := h
  obtain ⟨t, u, rfl⟩ := Vals.int2 r
  exact PySem.W.mc_lcm ha hb fun _ => ⟨.int _, H, I.tok _, ⟨_, rfl⟩, q⟩
theorem Same.seqLL {K : PySem.W.Frag} {H H' : Hp} {a : Addr} {xs : List V} (e : Same H H') (h : SqL K H a xs) : SqL K H' a xs := by
  rcases h with (h | ⟨o, h⟩) | h
  · exact .inl (.inl (e _ _ h))
  · exact .inl (.inr ⟨o, e _ _ h⟩)
  · exact .inr h
theorem tame2 {a b : Int} (ha : a.natAbs < 10 ^ 20) (hb : b.natAbs < 10 ^ 20) : Gk.tame (.tuple [.int a, .int b]) = true := by
  simp only [Gk.tame, tameAll, ha, hb, decide_true, Bool.and_self]
theorem depth2 {a b : Int} : (PyData.tuple [.int a, .int b]).depth ≤ 40 := by
  simp only [PyData.depth, PyData.depthAll]
  omega
theorem fine2 {a b : Int} (ha : a.natAbs < 10 ^ 20) (hb : b.natAbs < 10 ^ 20) : Fine (.tuple [.int a, .int b]) :=
  Fine.tame (tame2 ha hb) depth2 (by simp only [Gk.cost, costAll]; omega)
theorem dp2 {K : PySem.W.Frag} {H : Hp} {p : Addr} {a b : Int} (h : SqT K H p [.int a, .int b]) : Dp K H (.ref p) (.tuple [.int a, .int b]) := .tup h (.cons (.int a) (.cons (.int b) .nil))
theorem flatLen {α : Type} (n : Nat) (l : List α) : ((List.replicate n l).flatten).length = n * l.length := by
  induction n with
  | zero => simp
  | succ n ih => rw [List.replicate_succ, List.flatten_cons, List.length_append, ih, Nat.succ_mul, Nat.add_comm]
theorem pairs_sq {K : PySem.W.Frag} {H : Hp} {p : Addr} {l : List (Int × Int)} (h : PairsAt K H p l) : ∃ xs, SqT K H p xs ∧ xs.length = l.length ∧ DpAll K H xs (l.map pd) := by
  cases h with
  | tup h1 h2 => exact ⟨_, h1, lc_len h2, h2⟩
theorem keepSeqL {K : PySem.W.Frag} {H1 H' : Hp} {a b : Addr} {o : HO} {xs : List V} (hS : SqL K H1 a xs) (nb : H1 b = none) (e : But b (upd H1 b o) H') : SqL K H' a xs := by
  rcases hS with (h | ⟨u, h⟩) | h
  · exact .inl (.inl (e _ _ (ne_of_none h nb) (same_new nb _ _ h)))
  · exact .inl (.inr ⟨u, e _ _ (ne_of_none h nb) (same_new nb _ _ h)⟩)
  · exact .inr h
theorem butLocal {b D : Addr} {H H1 H2 : Hp} (nD : H D = none) (h : But b H H1) (g : ∀ a o, a ≠ b → a ≠ D → H1 a = some o → H2 a = some o) : But b H H2 := fun a o n e => g a o n (fun z => by rw [z, nD] at e; cases e) (h a o n e)
theorem pt_mid {X : Cx} {e : Expr} {t : TT} (h : PT X e t) : PT X e (tMidT t) :=
  ⟨fun pins s σ H Q I ⟨M, h1, h2⟩ => thn (h.run pins s σ H M I h1) fun b s1 ⟨H1, I1, q⟩ => ⟨H1, I1, h2 b H1 q⟩⟩
end Gk
namespace Gk
open PySem PySem.Spec PyProof.Rows L2 RZ
/-! ### texts of signs 0 and 1 -/
def sgn (b : Bool) : Nat := if b then 49 else 48
def txt (l : List Bool) : Str := ⟨(l.map sgn).toArray⟩
theorem txt_size (l : List Bool) : (txt l).cps.size = l.length := by
  show (l.map sgn).toArray.size = _
  rw [List.size_toArray, List.length_map]
theorem txt_at {l : List Bool} {i c : Nat} (h : (txt l).cps[i]? = some c) : ∃ b, l[i]? = some b ∧ c = sgn b := by
  have h' : (l.map sgn).toArray[i]? = some c := h
  rw [List.getElem?_toArray, List.getElem?_map] at h'
  cases e : l[i]? with
  | none => rw [e] at h'; cases h'
  | some b => rw [e] at h'; exact ⟨b, rfl, (Option.some.inj h').symm⟩
theorem txt_app (a b : List Bool) : txt a ++ txt b = txt (a ++ b) := by
  show (⟨(a.map sgn).toArray ++ (b.map sgn).toArray⟩ : Str) = ⟨((a ++ b).map sgn).toArray⟩
  rw [List.map_append]
  simp
theorem txt_length (l : List Bool) : (txt l).length = l.length := txt_size l
theorem fold_rep (l : List Nat) : ∀ (n : Nat) (acc : List Nat), (List.replicate n l.toArray).foldl (· ++ ·) acc.toArray = (acc ++ (List.replicate n l).flatten).toArray
  | 0, acc => by simp
  | n + 1, acc => by
    rw [List.replicate_succ, List.foldl_cons, show acc.toArray ++ l.toArray = (acc ++ l).toArray by simp, fold_rep l n, List.replicate_succ, List.flatten_cons, List.append_assoc]
theorem txt_mul (l : List Bool) (n : Nat) : Txt.mul (txt l) (n : Int) = txt (List.replicate n l).flatten := by
  unfold Txt.mul
  by_cases h0 : (n : Int) < 1
  · have : n = 0 := by omega
    subst this
    rw [if_pos h0]
    rfl
  · rw [if_neg h0]
    by_cases h1 : n = 1
    · subst h1
      rw [if_pos (by simp)]
      simp
    · by_cases h2 : l = []
      · subst h2
        rw [if_pos (by rw [txt_length]; simp)]
        have : (List.replicate n ([] : List Bool)).flatten = [] := by
          rw [List.flatten_eq_nil_iff]
          intro x hx
          exact (List.mem_replicate.mp hx).2
        rw [this]
      · have h3 : ¬ (((n : Int) == 1 || (txt l).length == 0) = true) := by
          rw [txt_length]
          simp only [Bool.or_eq_true, beq_iff_eq, not_or]
          exact ⟨by omega, fun z => h2 (List.length_eq_zero_iff.mp z)⟩
        rw [if_neg h3]
        have := fold_rep (l.map sgn) n []
        show (⟨(List.replicate (n : Int).toNat (l.map sgn).toArray).foldl (· ++ ·) #[]⟩ : Str) = _
        rw [Int.toNat_natCast]
        refine congrArg Str.mk (this.trans ?_)
        rw [List.nil_append]
        congr 1
        rw [List.map_flatten, List.map_replicate]
theorem mulOk_txt {l : List Bool} {n : Nat} (hl : l.length ≤ 100) (hn : n ≤ 1000) : MulOk (txt l) (n : Int) := by
  refine ⟨by simp; omega, fun h0 _ => ?_, fun _ _ => ?_⟩
  · rw [txt_length]
    have h1 : (0 : Int) < n := by omega
    have : (1000 : Int) ≤ (2 ^ 63 - 1) / n := by
      refine Int.le_ediv_of_mul_le h1 ?_
      omega
    omega
  · rw [txt_length]
    show decide (_ > sizeLine) = false
    refine decide_eq_false ?_
    rw [sizeLine_eq, Int.toNat_natCast]
    have := Nat.mul_le_mul hl hn
    omega
theorem txt_cut (l : List Bool) (a b : Nat) (h : a ≤ b) (hb : b ≤ l.length) : cutS (txt l) (some (a : Int)) (some (b : Int)) = txt ((l.drop a).take (b - a)) := by
  unfold cutS
  rw [HT.sIx_nat, HT.sIx_nat, txt_length, Nat.min_eq_left (show a ≤ l.length by omega), Nat.min_eq_left (show b ≤ l.length from hb)]
  show (⟨((((l.map sgn).toArray).toList.drop a).take (b - a)).toArray⟩ : Str) = ⟨(((l.drop a).take (b - a)).map sgn).toArray⟩
  rw [List.map_take, List.map_drop]
theorem glue_txt : ∀ (bs acc : List Bool), (bs.map fun b => txt [b]).foldl (fun (z : Array Nat) (p : Str) => z ++ (Str.empty).cps ++ p.cps) (txt acc).cps = (txt (acc ++ bs)).cps
  | [], acc => by simp
  | b :: bs, acc => by
    rw [List.map_cons, List.foldl_cons]
    have : (txt acc).cps ++ (Str.empty).cps ++ (txt [b]).cps = (txt (acc ++ [b])).cps := by
      have := congrArg Str.cps (txt_app acc [b])
      rw [← this]
      show (txt acc).cps ++ #[] ++ (txt [b]).cps = (txt acc).cps ++ (txt [b]).cps
      simp
    rw [this, glue_txt bs (acc ++ [b]), List.append_assoc]
    rfl
theorem join_txt (bs : List Bool) : Txt.join ("" : Str) (bs.map fun b => txt [b]) = txt bs := by
  show Builtin.Str.glued ("" : Str) (bs.map fun b => txt [b]) = _
  unfold Builtin.Str.glued
  cases bs with
  | nil => rfl
  | cons b bs =>
    have := glue_txt bs [b]
    exact congrArg Str.mk this
theorem str_bit (b : Bool) : (Str.ofString (toString (if b then (1 : Int) else 0))) = txt [b] := by cases b <;> decide +kernel
theorem int_at {os : List Int} {i : Nat} {x : V} (hx : (os.map V.int)[i]? = some x) : ∃ o, os[i]? = some o ∧ x = .int o := by
  rw [List.getElem?_map] at hx
  cases e : os[i]? with
  | none => rw [e] at hx; cases hx
  | some o =>
    rw [e] at hx
    exact ⟨o, rfl, (Option.some.inj hx).symm⟩
/-- outcomes as digits -/
def bo (os : List Int) : List Bool := os.map fun o => decide (o = 1)
theorem bo_len (os : List Int) : (bo os).length = os.length := List.length_map ..
/-- so many digits from a place on, round and round -/
def run (bs : List Bool) (a k : Nat) : List Bool := (List.range k).map fun j => bs.getD ((a + j) % bs.length) false
/-- the last digits of so many that passed, zeros ahead -/
def past (bs : List Bool) (p L : Nat) : List Bool := List.replicate (L - min p L) false ++ run bs (p - min p L) (min p L)
theorem run_len (bs : List Bool) (a k : Nat) : (run bs a k).length = k := by
  unfold run
  rw [List.length_map, List.length_range]
theorem past_len (bs : List Bool) (p L : Nat) : (past bs p L).length = L := by
  unfold past
  rw [List.length_append, List.length_replicate, run_len]
  omega
theorem rep_at {α : Type} (l : List α) (h : 0 < l.length) : ∀ (m i : Nat), i < m * l.length → ((List.replicate m l).flatten)[i]? = l[i % l.length]?
  | 0, i, hi => by simp at hi
  | m + 1, i, hi => by
    rw [List.replicate_succ, List.flatten_cons]
    by_cases g : i < l.length
    · rw [List.getElem?_append_left g, Nat.mod_eq_of_lt g]
    · rw [List.getElem?_append_right (by omega), rep_at l h m (i - l.length) (by rw [Nat.succ_mul] at hi; omega)]
      congr 1
      exact (Nat.mod_eq_sub_mod (by omega)).symm
theorem run_cut {bs : List Bool} (h : 0 < bs.length) (a k m : Nat) (hm : a % bs.length + k ≤ m * bs.length) : (((List.replicate m bs).flatten).drop (a % bs.length)).take k = run bs a k := by
  refine List.ext_getElem? fun i => ?_
  by_cases hi : i < k
  · rw [List.getElem?_take_of_lt hi, List.getElem?_drop, rep_at bs h m _ (by omega)]
    unfold run
    rw [List.getElem?_map, List.getElem?_range hi]
    have hlt : (a + i) % bs.length < bs.length := Nat.mod_lt _ h
    have e : (a % bs.length + i) % bs.length = (a + i) % bs.length := by rw [Nat.mod_add_mod]
    rw [e, List.getElem?_eq_getElem hlt]
    show _ = some (bs.getD ((a + i) % bs.length) false)
    rw [List.getD_eq_getElem?_getD, List.getElem?_eq_getElem hlt]
    rfl
  · rw [List.getElem?_eq_none (by rw [List.length_take]; omega), List.getElem?_eq_none (by rw [run_len]; omega)]
theorem rep_length (n : Nat) (l : List Bool) : ((List.replicate n l).flatten).length = n * l.length := by
  induction n with
  | zero => simp
  | succ n ih => rw [List.replicate_succ, List.flatten_cons, List.length_append, ih, Nat.succ_mul, Nat.add_comm]
theorem enough (n k a : Nat) (h : 0 < n) : a % n + k ≤ (k / n + 2) * n := by
  have h1 := Nat.div_add_mod k n
  have h2 := Nat.mod_lt k h
  have h3 := Nat.mod_lt a h
  rw [Nat.add_mul, Nat.mul_comm (k / n) n]
  omega
theorem sgn_inj {a b : Bool} (h : sgn a = sgn b) : a = b := by
  revert h
  cases a <;> cases b <;> decide
theorem sgns_inj : ∀ {a b : List Bool}, a.map sgn = b.map sgn → a = b
  | [], [], _ => rfl
  | x :: xs, y :: ys, h => by
    rw [List.map_cons, List.map_cons] at h
    injection h with h1 h2
    rw [sgn_inj h1, sgns_inj h2]
  | [], _ :: _, h => by simp at h
  | _ :: _, [], h => by simp at h
theorem txt_inj {a b : List Bool} (h : txt a = txt b) : a = b := by
  have h1 : (a.map sgn).toArray = (b.map sgn).toArray := congrArg Str.cps h
  exact sgns_inj (by simpa using h1)
theorem txt_tail (l : List Bool) : cutS (txt l) (some 1) none = txt (l.drop 1) := by
  unfold cutS
  rw [show (some (1 : Int)) = some ((1 : Nat) : Int) from rfl, HT.sIx_none, HT.sIx_nat, txt_length]
  show (⟨((((l.map sgn).toArray).toList.drop (min 1 l.length)).take (l.length - min 1 l.length)).toArray⟩ : Str) = ⟨((l.drop 1).map sgn).toArray⟩
  congr 2
  rw [List.map_drop]
  cases l with
  | nil => rfl
  | cons b r =>
    rw [show min 1 (b :: r).length = 1 by rw [List.length_cons]; omega]
    refine List.take_of_length_le ?_
    rw [List.length_drop]
    simp
theorem walk_zipT {K : PySem.W.Frag} {a b : Addr} {xs ys : List V} (hl : xs.length = ys.length) : Walk (ItzT K a b) xs.length (fun H => SqT K H a xs ∧ SqT K H b ys) (fun i H v H' => ∃ T x y, v = .ref T ∧ H T = none ∧ xs[i]? = some x ∧ ys[i]? = some y ∧ H' = upd H T (.tup [x, y])) :=
  ⟨fun i _ hi q => ⟨xs, ys, xs[i], ys[i]'(by omega), q.1, q.2, List.getElem?_eq_getElem hi, List.getElem?_eq_getElem (by omega)⟩, fun _ q => ⟨xs, ys, q.1, q.2, .inl (Nat.le_refl _)⟩, fun i H v H' _ q y => by
    obtain ⟨T, x, z, h1, h2, h3, h4, h5⟩ := y
    exact ⟨T, x, z, h1, h2, h4 xs q.1, h5 ys q.2, h3⟩⟩

theorem bit_txt (b : Bool) : (.str (Str.ofString (toString (((if b then 1 else 0 : Nat) : Int)))) : V) = .str (txt [b]) := by
  cases b <;> decide +kernel
theorem op_inK {X : Cx} (K : PySem.W.Frag) (h : X.K = K := by rfl) : OpR X (compareOp .In) (rIn K false) := by
  subst h
  exact op_in_seq
/-! ### whether a tuple is () -/
def rEq0 (K : PySem.W.Frag) : R2 := fun x y H Q => ∃ a b xs, x = .ref a ∧ y = .ref b ∧ SqT K H a xs ∧ SqT K H b [] ∧ Q (.bl (decide (xs = []))) H
theorem op_eq0 {X : Cx} (hu : X.A.units < cLine) : OpR X (compareOp .Eq) (rEq0 X.K) := by
  intro pins s σ H x y v u Q I rx ry h
  obtain ⟨a, b, xs, rfl, rfl, ha, hb, q⟩ := h
  cases rx
  cases ry
  obtain ⟨its, r1, ⟨o1, e1, c1, n1, d1⟩, _⟩ := I.tuple ha
  obtain ⟨its2, r2, ⟨o2, e2, c2, n2, d2⟩, _⟩ := I.tuple hb
  cases r2
  refine SeqAt.RcAt.tuples (e := fun _ => true) (items := its.toArray) (items2 := ([] : List Value).toArray) ⟨o1, e1, c1, n1, d1⟩ ⟨o2, e2, c2, n2, d2⟩ hu (fun j h1 h2 => absurd h2 (Nat.not_lt_zero _)) X.prog X.w X.xe (EP X pins σ Q) ⟨.bl _, H, I, ?_, q⟩
  show Value.bool _ = Value.bool _
  congr 1
  cases xs with
  | nil => cases r1; rfl
  | cons x xs => cases r1; simp
theorem txt_init (l : List Bool) : cutS (txt l) none (some (-1)) = txt l.dropLast := by
  unfold cutS
  have e : HT.sIx (txt l).length (txt l).length (some (-1)) = l.length - 1 := by
    rw [txt_length]
    unfold HT.sIx
    first
      | (simp only []; omega)
      | (simp; omega)
      | (split <;> omega)
  rw [HT.sIx_none, e]
  show (⟨((((l.map sgn).toArray).toList.drop 0).take (l.length - 1 - 0)).toArray⟩ : Str) = ⟨(l.dropLast.map sgn).toArray⟩
  rw [List.drop_zero, Nat.sub_zero, List.dropLast_eq_take, List.map_take]
end Gk
namespace Pf
open PySem PySem.Spec PyProof.Rows L2 Gk
abbrev sAllR : Stmt := topS 6
abbrev nAllR : List Str := ["_law_size", "_law_number", "_law_at"]
theorem scAllR : FnScope nAllR ["_law_size"] (defScope sAllR) := ⟨rfl, rfl, rfl, by decide +kernel, rfl, by decide +kernel, by decide +kernel⟩
/-- the digits of a number, the highest one first -/
def bitsI (s n : Nat) : List Int := (List.range s).map fun i => ((n / 2 ^ (s - 1 - i) % 2 : Nat) : Int)
theorem bitsI_len (s n : Nat) : (bitsI s n).length = s := by
  unfold bitsI
  rw [List.length_map, List.length_range]
theorem bitsI_bits (s n : Nat) : Bits (bitsI s n) := fun o ho => by
  obtain ⟨i, _, rfl⟩ := List.mem_map.mp ho
  omega
/-- all rows of a size, as tuples in a list -/
def RowsAt (K : PySem.W.Frag) (s : Nat) (H : Hp) (xs : List V) : Prop := ∀ (i : Nat) (v : V), xs[i]? = some v → ∃ p, v = .ref p ∧ SqT K H p ((bitsI s i).map V.int)
theorem RowsAt.same {K : PySem.W.Frag} {s : Nat} {H H' : Hp} {xs : List V} (e : Same H H') (h : RowsAt K s H xs) : RowsAt K s H' xs := fun i v hv => by
  obtain ⟨p, rfl, sq⟩ := h i v hv
  exact ⟨p, rfl, Same.seqT e sq⟩
/-- tuple(..) within a comprehension -/
def rTupK (K : PySem.W.Frag) : List V → Hp → VK → Prop := fun xs H Q => ∃ p ys, xs = [V.ref p] ∧ ((SqL K H p ys ∧ ∀ l, H l = none → Q (V.ref l) (upd H l (HO.tup ys))) ∨ SqT K H p ys ∧ Q (V.ref p) H)
theorem call_tupK {X : Cx} (K : PySem.W.Frag) (h : X.K = K := by rfl) : CallR X (.type "tuple") (rTupK K) := by
  subst h
  exact call_tuple_of
/-- a tuple stands when a list is written -/
theorem SqT.put {K : PySem.W.Frag} {H : Hp} {a D : Addr} {xs ys zs : List V} (h : SqT K H a xs) (e : H D = some (.lst ys)) : SqT K (upd H D (.lst zs)) a xs := by
  rcases h with (h | ⟨o, h⟩) | h
  · exact .inl (.inl (by rw [upd_ne (ne_of h e (fun z => HO.noConfusion z))]; exact h))
  · exact .inl (.inr ⟨o, by rw [upd_ne (ne_of h e (fun z => HO.noConfusion z))]; exact h⟩)
  · exact .inr h
section
variable {P : Program} {w : World} {K : PySem.W.Frag} {mg : Str → Option Value} {base : Heap}
def spAllR (K : PySem.W.Frag) : Sp := fun vs H Q _ => ∃ (s : Nat), vs = [.int (s : Int)] ∧ 1 ≤ s ∧ s ≤ 16 ∧
  ∀ H' D xs, Same H H' → H D = none → H' D = some (.lst xs) → xs.length = 2 ^ s → RowsAt K s H' xs → Q (.ref D) H'
theorem ok_allR {f : Addr} {fd : FuncData} {k : Nat} (mr : mg "range" = none) (mt : mg "tuple" = none) (F : L2.Fun K "_law_all_rows" "_law_all_rows" sAllR f fd) : FnOk P w K mg base L2.CX0 (k + 1) f fd ["_law_size"] (spAllR K) := by
  refine F.ok scAllR (fun vs H Q E h => ?_) (fun cdv A outer s H vs Q E hr h => ?_)
  · obtain ⟨n, rfl, _⟩ := h
    rfl
  · obtain ⟨n, rfl, n1, n16, q⟩ := h
    refine ⟨_, pss_one (ps_ret (pe_lc (own := [("_law_number", 1)]) (g := gName 1) (by rfl) scAllR.nd (pi_range1 rfl mr (pa_cons (pe_op op_oneShl pe_int (pv 0)) pa_nil)) (blkOk_by (N := nAllR) (sc := defScope sAllR) (by decide +kernel))
        (fun _ _ _ _ _ => pg_name (i := 1) scAllR.nd rfl (.inr rfl)) (fun _ _ _ _ _ => pts_nil)
        (fun _ _ _ _ _ => pe_callTy (call_tupK K) (by rfl) mt (by decide +kernel) (pa_cons (pe_lc (own := [("_law_at", 2)]) (g := gName 2) (by rfl) scAllR.nd (pi_range1 rfl mr (pa_cons (pv 0) pa_nil))
          (blkOk_by (N := nAllR) (sc := { kind := .function, names := [(".0", .local), ("_law_number", .cell), ("tuple", .globalImplicit), ("range", .globalImplicit), ("_law_size", .cell)], isGenerator := false, isCoroutine := false }) (by decide +kernel)) (fun _ _ _ _ _ => pg_name (i := 2) scAllR.nd rfl (.inl rfl)) (fun _ _ _ _ _ => pts_nil)
          (fun _ _ _ _ _ => pe_op op_odd (pe_mid (pe_op op_shr (pv 1) (pe_op op_sub (pe_op op_sub (pv 0) pe_int) (pv 2)))) pe_int)) pa_nil)))), ?_⟩
    have p16 : (2 : Nat) ^ n ≤ 2 ^ 16 := Nat.pow_le_pow_right (by decide) n16
    have e2 : ((2 : Int) ^ n) = ((2 ^ n : Nat) : Int) := by rw [Int.natCast_pow]; rfl
    have pz : (0 : Int) < 2 ^ n := Int.pow_pos (by decide)
    have pu : (2 : Int) ^ n ≤ 65536 := by rw [e2]; exact Int.ofNat_le.mpr p16
    refine ⟨.int (n : Int), rfl, n, rfl, rfl, by omega, _, rfl, by omega, by omega, fun D nD => ?_⟩
    rw [e2]
    refine lc_range (lo := 0) (n := ((2 ^ n : Nat) : Int).toNat) (fun i H' => Same H H' ∧ ∃ xs, H' D = some (.lst xs) ∧ xs.length = i ∧ RowsAt K n H' xs) ⟨same_new nD, [], upd_same, rfl, fun i v h => by simp at h⟩ (fun i H1 hi hp => ?_) (fun H1 hp => ?_)
    · obtain ⟨sm, xs, hD, xl, ra⟩ := hp
      have hi : i < 2 ^ n := hi
      refine ⟨rfl, .int (n : Int), rfl, _, rfl, by omega, by omega, fun D2 nD2 => ?_⟩
      refine lc_range (lo := 0) (n := ((n : Nat) : Int).toNat) (fun j H' => Same H1 H' ∧ H' D2 = some (.lst (((bitsI n i).take j).map V.int))) ⟨same_new nD2, upd_same⟩ (fun j H2 hj hp => ?_) (fun H2 hp => ?_)
      · obtain ⟨sm2, hD2⟩ := hp
        have hj : j < n := hj
        refine ⟨rfl, fun v G => G = H2 ∧ v = .int ((i / 2 ^ (n - 1 - j) : Nat) : Int), ⟨.int (0 + (i : Nat)), rfl, .int (n : Int), rfl, _, _, rfl, rfl, .int (0 + (j : Nat)), rfl, _, _, rfl, rfl, _, _, rfl, rfl, by omega, rfl, ?_⟩, fun v G hv => ?_⟩
        · show V.int ((0 + (i : Int)) / 2 ^ ((n : Int) - 1 - (0 + (j : Int))).toNat) = _
          rw [Int.zero_add, Int.zero_add, show ((n : Int) - 1 - (j : Int)).toNat = n - 1 - j by omega]
          congr 1
        · obtain ⟨rfl, rfl⟩ := hv
          refine ⟨_, rfl, rfl, _, hD2, ?_, ?_, ?_⟩
          · rw [List.length_map, List.length_take, sizeLine_eq]
            omega
          · intro a o h
            rw [upd_ne (ne_of_none h nD2)]
            exact sm2 a o h
          · have g : (bitsI n i)[j]? = some ((i / 2 ^ (n - 1 - j) % 2 : Nat) : Int) := by
              unfold bitsI
              rw [List.getElem?_map, List.getElem?_range hj]
              rfl
            rw [upd_same, List.take_add_one, g, List.map_append]
            rfl
      · obtain ⟨sm2, hD2⟩ := hp
        rw [show ((n : Nat) : Int).toNat = (bitsI n i).length by rw [bitsI_len]; rfl, List.take_length] at hD2
        refine ⟨D2, _, rfl, .inl ⟨.inl (.inl hD2), fun p np => ?_⟩⟩
        have hDp : D ≠ D2 := ne_of_none hD nD2
        have s3 : Same H1 (upd H2 p (.tup ((bitsI n i).map V.int))) := sm2.trans (same_new np)
        refine ⟨xs, s3 _ _ hD, ?_, ?_, xs ++ [.ref p], upd_same, by rw [List.length_append, xl]; rfl, fun j v hv => ?_⟩
        · rw [xl, sizeLine_eq]
          have : (2 : Nat) ^ 16 = 65536 := rfl
          omega
        · intro a o h
          rw [upd_ne (ne_of_none h nD)]
          exact s3 a o (sm a o h)
        · by_cases hj : j < xs.length
          · rw [List.getElem?_append_left hj] at hv
            obtain ⟨p', rfl, sq⟩ := ra j v hv
            refine ⟨p', rfl, ?_⟩
            have sq2 := Same.seqT s3 sq
            exact SqT.put sq2 (s3 _ _ hD)
          · rw [List.getElem?_append_right (by omega)] at hv
            have e0 : j - xs.length = 0 := by
              rcases Nat.eq_zero_or_pos (j - xs.length) with z | z
              · exact z
              · rw [List.getElem?_eq_none (by simp; omega)] at hv
                cases hv
            have ej : j = i := by omega
            rw [e0] at hv
            obtain rfl := Option.some.inj hv
            rw [ej]
            exact ⟨p, rfl, SqT.put (.inl (.inl upd_same)) (s3 _ _ hD)⟩
    · obtain ⟨sm, xs, hD, xl, ra⟩ := hp
      exact q H1 D xs sm nD hD xl ra
end
end Pf
namespace Pf
open PySem PySem.Spec PyProof.Rows L2 Gk
abbrev sLRoot : Stmt := topS 5
abbrev nLRoot : List Str := ["_law_row", "_law_size"]
theorem scLRoot : FnScope nLRoot ["_law_row"] (defScope sLRoot) := ⟨rfl, rfl, rfl, by decide +kernel, rfl, by decide +kernel, by decide +kernel⟩
theorem rep_iff {os : List Int} {s : Nat} : Rep (os.map PyData.int) s ↔ Rep os s := by
  unfold Rep
  rw [List.length_map, ← List.map_take, ← List.map_replicate, ← List.map_flatten]
  constructor
  · intro h
    refine List.map_inj_right (fun a b e => PyData.int.inj e) |>.mp h
  · intro h
    rw [h]
theorem rep_split {α : Type} {l : List α} {s : Nat} (h : Rep l s) (hs : s ≤ l.length) (h1 : 1 ≤ s) : l.length % s = 0 := by
  have := Rep.many h hs
  rw [← this]
  exact Nat.mul_mod_right _ _
section
variable {P : Program} {w : World} {K : PySem.W.Frag} {mg : Str → Option Value} {base : Heap}
def spRootB (K : PySem.W.Frag) : Sp := fun vs H Q _ => ∃ (p : Addr) (os : List Int), vs = [.ref p] ∧ SqT K H p (os.map V.int) ∧ Bits os ∧ 1 ≤ os.length ∧ os.length ≤ 64 ∧ ∀ H' r s, Same H H' → RootIs os s → SqT K H' r ((os.take s).map V.int) → Q (.ref r) H'
theorem ok_lrootB {f : Addr} {fd : FuncData} (mr : mg "range" = none) (ml : mg "len" = none) (F : L2.Fun K "_law_root" "_law_root" sLRoot f fd) : FnOk P w K mg base L2.CX0 1 f fd ["_law_row"] (spRootB K) := by
  refine F.ok scLRoot (fun vs H Q E h => ?_) (fun cdv A outer s H vs Q E hr h => ?_)
  · obtain ⟨p, os, rfl, _⟩ := h
    rfl
  · obtain ⟨p, os, rfl, sq, hb, l1, l2, q⟩ := h
    refine ⟨_, pss_cons (ps_for PassesOwn.never rfl (pi_range2 (by rfl) mr (pa_cons pe_int (pa_cons (pe_callB call_len_seq (by rfl) ml PySem.boot_len (pa_cons (pv 0) pa_nil)) pa_nil))) (pg_name (i := 1) scLRoot.nd rfl (.inl rfl))
        (pss_one (ps_if (PW.pt (pw_and (pt_cmpR op_eq (pe_op op_mod (pe_callB call_len_seq (by rfl) ml PySem.boot_len (pa_cons (pv 0) pa_nil)) (pv 1)) pe_int (nomark _))
            (pw_and1 (pt_cmpR (op_eqD hr.units) (pv 0) (pe_op op_repU (pe_slice sl_tupU (pv 0) po_none (po_some (pv 1))) (pe_op op_fdiv (pe_callB call_len_seq (by rfl) ml PySem.boot_len (pa_cons (pv 0) pa_nil)) (pv 1))) (nomark _))))) (pss_one (ps_ret (pe_slice sl_tupU (pv 0) po_none (po_some (pv 1))))) pss_nil)))
      (pss_one (ps_ret (pv 0))), ?_⟩
    have hlen : (os.map V.int).length = os.length := List.length_map ..
    have hP : Plain (os.map PyData.int) := plain_bits hb
    refine ⟨.ref p, rfl, p, _, rfl, .inr sq, _, _, rfl, ⟨by decide, by decide, by omega, by omega⟩, for_range (lo := 1) (n := (((os.map V.int).length : Int) - 1).toNat)
      (fun i σ H' => Same H H' ∧ (∃ y1, σ = [some (.ref p), y1]) ∧ ∀ t, 1 ≤ t → t < 1 + i → ¬ Rep os t) ⟨Same.refl H, ⟨none, rfl⟩, fun t a b => by omega⟩ (fun i σ H1 hi hp => ?_) (fun σ H1 hp => ?_)⟩
    · obtain ⟨sm, ⟨y1, rfl⟩, no⟩ := hp
      have sq1 := Same.seqT sm sq
      have ec : cutV (os.map V.int) none (some (1 + (i : Int))) = (os.take (1 + i)).map V.int := by
        have := cut_to (xs := os.map V.int) (1 + i)
        rw [show ((1 + i : Nat) : Int) = 1 + (i : Int) by omega] at this
        rw [this, List.map_take]
      have hne : (os.take (1 + i)).map V.int ≠ [] := fun z => by
        have g : ((os.take (1 + i)).map V.int).length = 0 := by rw [z]; rfl
        rw [List.length_map, List.length_take] at g
        omega
      have ek : ((((os.map V.int).length : Nat) : Int) / (1 + (i : Int))) = ((os.length / (1 + i) : Nat) : Int) := by
        rw [hlen, show (1 + (i : Int)) = ((1 + i : Nat) : Int) by omega]
        exact (Int.natCast_ediv _ _).symm
      have em : ((((os.map V.int).length : Nat) : Int) % (1 + (i : Int))) = ((os.length % (1 + i) : Nat) : Int) := by
        rw [hlen, show (1 + (i : Int)) = ((1 + i : Nat) : Int) by omega]
        exact (Int.natCast_emod _ _).symm
      have kle : os.length / (1 + i) ≤ 64 := Nat.le_trans (Nat.div_le_self _ _) l2
      have next : ∀ H', Same H H' → ¬ Rep os (1 + i) → Same H H' ∧ (∃ y1', [some (V.ref p), some (V.int (1 + (i : Nat)))] = [some (.ref p), y1']) ∧ ∀ t, 1 ≤ t → t < 1 + (i + 1) → ¬ Rep os t :=
        fun H' s' nr => ⟨s', ⟨_, rfl⟩, fun t a b => by
          by_cases z : t = 1 + i
          · rw [z]; exact nr
          · exact no t a (by omega)⟩
      refine ⟨.ref p, rfl, p, _, rfl, .inr sq1, .int (1 + (i : Nat)), rfl, _, _, rfl, rfl, by omega, rfl, _, rfl, ite2 (fun e => ?_) (fun e => ?_)⟩
      · refine ⟨.ref p, rfl, .ref p, rfl, .int (1 + (i : Nat)), rfl, 1 + (i : Nat), rfl, p, _, rfl, sq1, fun r H2 s2 t2 => ?_⟩
        rw [ec] at t2
        refine ⟨.ref p, rfl, p, _, rfl, .inr (Same.seqT s2 sq1), .int (1 + (i : Nat)), rfl, _, _, rfl, rfl, ⟨by omega, by omega⟩, r, _, _, rfl, rfl, t2, hne, ?_, ?_, ?_, fun p3 H3 s3 t3 => ?_⟩
        · rw [ek]; exact Int.natCast_nonneg _
        · rw [ek]; exact Int.ofNat_le.mpr (Nat.le_trans kle (by decide))
        · rw [List.length_map, List.length_take]; omega
        · rw [ek, Int.toNat_natCast, rep_map] at t3
          have smA : Same H H3 := (sm.trans s2).trans s3
          have pl : Plain ((List.replicate (os.length / (1 + i)) (os.take (1 + i))).flatten.map PyData.int) := plain_bits ((hb.take (1 + i)).rep _)
          have eqv : PyData.eqv (.tuple (os.map PyData.int)) (.tuple ((List.replicate (os.length / (1 + i)) (os.take (1 + i))).flatten.map PyData.int)) = true ↔ Rep os (1 + i) := by
            rw [plain_eq hP pl]
            constructor
            · intro h
              exact (List.map_inj_right (fun a b e => PyData.int.inj e) |>.mp h).symm
            · intro h
              rw [show (List.replicate (os.length / (1 + i)) (os.take (1 + i))).flatten = os from h]
          refine ⟨_, _, .tup (Same.seqT smA sq) (DpAll.ints _), .tup t3 (DpAll.ints _), hP.shaped, pl.shaped, _, rfl, ite2 (fun e2 => ?_) (fun e2 => ?_)⟩
          · have er : Rep os (1 + i) := eqv.mp e2
            refine ⟨.ref p, rfl, .int (1 + (i : Nat)), rfl, 1 + (i : Nat), rfl, p, _, rfl, Same.seqT smA sq, fun r2 H4 s4 t4 => ?_⟩
            rw [ec] at t4
            exact q H4 r2 (1 + i) (smA.trans s4) ⟨by omega, by omega, er, no⟩ t4
          · exact next H3 smA (fun er => e2 (eqv.mpr er))
      · refine next H1 sm (fun er => e (decide_eq_true ?_))
        have := rep_split er (by omega) (by omega)
        show V.int _ = V.int _
        rw [em, this]
        rfl
    · obtain ⟨sm, ⟨y1, rfl⟩, no⟩ := hp
      refine ⟨.ref p, rfl, q H1 p os.length sm ⟨l1, Nat.le_refl _, rep_all l1, fun t a b => no t a (by omega)⟩ ?_⟩
      rw [List.take_length]
      exact Same.seqT sm sq
end
end Pf
namespace Pf
open PySem PySem.Spec PyProof.Rows L2 Gk
abbrev sPrim : Stmt := topS 1
abbrev nPrim : List Str := ["number", "others", "size"]
theorem scPrim : FnScope nPrim ["number"] (defScope sPrim) := ⟨rfl, rfl, rfl, by decide +kernel, rfl, by decide +kernel, by decide +kernel⟩
/-- from 1 on below k: what divides n -/
def parts (n k : Nat) : List Nat := ((List.range k).map (· + 1)).filter fun d => decide (n % d = 0)
theorem parts_succ (n k : Nat) : parts n (k + 1) = parts n k ++ if n % (k + 1) = 0 then [k + 1] else [] := by
  unfold parts
  rw [List.range_succ, List.map_append, List.filter_append]
  congr 1
  by_cases h : n % (k + 1) = 0
  · rw [if_pos h]
    simp [h]
  · rw [if_neg h]
    simp [h]
theorem parts_len (n k : Nat) : (parts n k).length ≤ k := by
  unfold parts
  refine Nat.le_trans (List.length_filter_le _ _) ?_
  rw [List.length_map, List.length_range]
  exact Nat.le_refl _
/-- how many primitive ones, by so many halvings -/
def primF : Nat → Nat → Int
  | 0, _ => 0
  | m + 1, n => 2 ^ n - ((parts n (n - 1)).map (primF m)).sum
section
variable {P : Program} {w : World} {K : PySem.W.Frag} {mg : Str → Option Value} {base : Heap}
def spPrim (K : PySem.W.Frag) (m : Nat) : Sp := fun vs H Q _ => ∃ n : Nat, vs = [.int (n : Int)] ∧ 1 ≤ n ∧ n < 2 ^ m ∧ n ≤ 64 ∧ ∀ H', Same H H' → Q (.int (primF m n)) H'
theorem ok_prim {f : Addr} {fd : FuncData} (hm : mg "primitive_count" = some (.ref f)) (hb : Binds K fd ["number"] []) (mr : mg "range" = none) (mx : mg "max" = none) (ms : mg "sum" = none) (F : L2.Fun K "primitive_count" "primitive_count" sPrim f fd) : ∀ m : Nat, FnOk P w K mg base L2.CX0 (m + 1) f fd ["number"] (spPrim K m) := by
  intro m
  induction m with
  | zero =>
    refine F.ok scPrim (fun vs H Q E h => ?_) (fun cdv A outer s H vs Q E hr h => ?_)
    · obtain ⟨n, rfl, _⟩ := h
      rfl
    · obtain ⟨n, rfl, n1, n2, _⟩ := h
      exact absurd n2 (by simp only [Nat.pow_zero]; omega)
  | succ m ih =>
    have D : Dfn P w K mg base (m + 1) "primitive_count" ["number"] (spPrim K m) := ⟨f, fd, ih, hm, F.kp, hb⟩
    refine F.ok scPrim (fun vs H Q E h => ?_) (fun cdv A outer s H vs Q E hr h => ?_)
    · obtain ⟨n, rfl, _⟩ := h
      rfl
    · obtain ⟨n, rfl, n1, n2, n64, q⟩ := h
      refine ⟨_, pss_cons (ps_setLc (i := 1) (own := [("size", 2)]) (g := gName 2) (by rfl) scPrim.nd rfl rfl (sw_true rfl rfl rfl (by decide +kernel)) (pi_range2 (by rfl) mr (pa_cons pe_int (pa_cons (pv 0) pa_nil))) (blkOk_by (N := nPrim) (sc := defScope sPrim) (by decide +kernel))
          (fun _ _ _ _ _ => pg_name (i := 2) scPrim.nd rfl (.inl rfl)) (fun _ _ _ _ _ => pts_one (pt_cmpR op_eq (pe_op op_mod (pv 0) (pv 2)) pe_int (nomark _)))
          (fun _ _ _ _ _ => pe_d D hr (Nat.le_refl _) (by rfl) (pa_cons (pv 2) pa_nil)))
        (pss_one (ps_ret (pe_op op_sub (pe_op op_shl pe_int (pe_callB (call_max2 rfl) (by rfl) mx (by decide +kernel) (pa_cons pe_int (pa_cons (pv 0) pa_nil)))) (pe_callB (cr_sum rfl) (by rfl) ms (by decide +kernel) (pa_cons (pv 1) pa_nil))))), ?_⟩
      refine ⟨.int (n : Int), rfl, _, _, rfl, ⟨by decide, by decide, by omega, by omega⟩, fun Dr nD => ?_⟩
      refine lc_range (lo := 1) (n := ((n : Int) - 1).toNat) (fun i H' => Same H H' ∧ H' Dr = some (.lst (((parts n i).map (primF m)).map V.int))) ⟨same_new nD, upd_same⟩ (fun i H1 hi hp => ?_) (fun H1 hp => ?_)
      · obtain ⟨sm, hD⟩ := hp
        have hi : i < n - 1 := by omega
        have em : ((n : Int) % (1 + (i : Int))) = ((n % (i + 1) : Nat) : Int) := by
          rw [show (1 + (i : Int)) = ((i + 1 : Nat) : Int) by omega]
          exact (Int.natCast_emod _ _).symm
        refine ⟨rfl, .int (n : Int), rfl, .int (1 + (i : Nat)), rfl, _, _, rfl, rfl, by omega, rfl, _, rfl, ite2 (fun e => ?_) (fun e => ?_)⟩
        · have e := V.int.inj (of_decide_eq_true e)
          rw [em] at e
          have e0 : n % (i + 1) = 0 := by omega
          have dv : (i + 1) * 2 ≤ n := by
            have h1 := Nat.div_add_mod n (i + 1)
            rw [e0, Nat.add_zero] at h1
            generalize n / (i + 1) = u at h1
            have h2 : 2 ≤ u := by
              rcases Nat.lt_or_ge u 2 with z | z
              · have : u = 0 ∨ u = 1 := by omega
                rcases this with y | y <;> rw [y] at h1 <;> omega
              · exact z
            have h3 := Nat.mul_le_mul_left (i + 1) h2
            omega
          have p2 : 2 ^ (m + 1) = 2 * 2 ^ m := by rw [Nat.pow_succ, Nat.mul_comm]
          refine ⟨.int (1 + (i : Nat)), rfl, i + 1, congrArg (fun z => [V.int z]) (by omega), by omega, by omega, by omega, fun H2 s2 => ?_⟩
          refine ⟨_, s2 _ _ hD, ?_, ?_, ?_⟩
          · rw [List.length_map, List.length_map]
            exact small1000 (by have := parts_len n i; omega)
          · intro a o h
            rw [upd_ne (ne_of_none h nD)]
            exact s2 a o (sm a o h)
          · rw [upd_same, parts_succ, if_pos e0, List.map_append, List.map_append]
            rfl
        · have e0 : ¬ n % (i + 1) = 0 := fun z => e (decide_eq_true (congrArg V.int (by rw [em, z]; rfl)))
          refine ⟨sm, ?_⟩
          rw [parts_succ, if_neg e0, List.append_nil]
          exact hD
      · obtain ⟨sm, hD⟩ := hp
        rw [show ((n : Int) - 1).toNat = n - 1 by omega] at hD
        refine ⟨.int (n : Int), rfl, _, _, rfl, _, _, rfl, rfl, ⟨by split <;> omega, by split <;> omega, by decide⟩, .ref Dr, rfl, Dr, _, rfl, SqL.of hD, _, _, rfl, rfl, ?_⟩
        have e : (if (n : Int) > 0 then (n : Int) else 0) = n := if_pos (by omega)
        have := q H1 sm
        have e3 : primF (m + 1) n = 2 ^ n - ((parts n (n - 1)).map (primF m)).sum := rfl
        rw [e3] at this
        show Q (.int (1 * 2 ^ (if (n : Int) > 0 then (n : Int) else 0).toNat - ((parts n (n - 1)).map (primF m)).sum)) H1
        rw [e, Int.toNat_natCast, Int.one_mul]
        exact this
/-! ### the law -/
abbrev sLaw : Stmt := topS 7
abbrev nLaw : List Str := ["_law_script", "_law_number_here", "_law_parts", "_law_k", "_law_size", "_law_due", "_law_one", "_law_row"]
theorem scLaw : FnScope nLaw ["_law_script"] (defScope sLaw) := ⟨rfl, rfl, rfl, by decide +kernel, rfl, by decide +kernel, by decide +kernel⟩
theorem sums_right : ∀ n, n < 64 → ((parts (n + 1) (n + 1)).map (primF 7)).sum = 2 ^ (n + 1) := by decide +kernel
instance decRep (l : List Int) (s : Nat) : Decidable (Rep l s) := inferInstanceAs (Decidable (_ = _))
/-- whether the n-th row of a size is no repetition -/
def primB (s n : Nat) : Bool := (List.range s).all fun t => t == 0 || s % t != 0 || !decide (Rep (bitsI s n) t)
theorem prim_root {s n t : Nat} (h : RootIs (bitsI s n) t) : decide (t = s) = primB s n := by
  have hl := bitsI_len s n
  have hi := h.hi
  rw [hl] at hi
  rw [Bool.eq_iff_iff, decide_eq_true_eq]
  unfold primB
  rw [List.all_eq_true]
  constructor
  · intro e u hu
    have hu := List.mem_range.mp hu
    simp only [Bool.or_eq_true, bne_iff_ne, beq_iff_eq, Bool.not_eq_true', decide_eq_false_iff_not]
    rcases Nat.eq_zero_or_pos u with z | z
    · exact .inl (.inl z)
    · exact .inr (h.least u z (by omega))
  · intro hall
    rcases Nat.lt_or_ge t s with z | z
    · have := hall t (List.mem_range.mpr z)
      simp only [Bool.or_eq_true, bne_iff_ne, beq_iff_eq, Bool.not_eq_true', decide_eq_false_iff_not] at this
      have lo := h.lo
      rcases this with (a | a) | a
      · omega
      · have := rep_split h.rep h.hi lo
        rw [hl] at this
        exact absurd this a
      · exact absurd h.rep a
    · omega
def primN (s : Nat) : Nat := ((List.range (2 ^ s)).filter (primB s)).length
set_option maxRecDepth 1000000 in
theorem counts_right : ∀ s, s < 11 → primF 7 (s + 1) = (primN (s + 1) : Nat) := by decide +kernel
theorem fine_int {a : Int} (h : a.natAbs < 10 ^ 20) : Fine (.int a) :=
  Fine.tame (by simp only [Gk.tame, h, decide_true]) (by simp only [PyData.depth]; omega) (by simp only [Gk.cost]; omega)
end
end Pf
namespace Pf
open PySem PySem.Spec PyProof.Rows L2 Gk
section
variable {P : Program} {w : World} {K : PySem.W.Frag} {mg : Str → Option Value} {base : Heap}
def spLaw (K : PySem.W.Frag) : Sp := fun vs H Q _ => ∃ (a : Addr) (ns : List Int), vs = [.ref a] ∧ SqL K H a (ns.map V.int) ∧ ns.length ≤ 63 ∧ ∀ H', Q (.bl true) H'
theorem ok_law {f : Addr} {fd : FuncData} (DB : Dfn P w K mg base 1 "_law_box" ["_law_script", "_law_k"] (spBox K)) (DT : Dfn P w K mg base 1 "_law_take" ["_law_box_here", "_law_many"] spTake) (DR : Dfn P w K mg base 1 "_law_root" ["_law_row"] (spRootB K))
    (DA : Dfn P w K mg base 1 "_law_all_rows" ["_law_size"] (spAllR K)) (DP : Dfn P w K mg base 8 "primitive_count" ["number"] (spPrim K 7))
    (mr : mg "range" = none) (mn : mg "min" = none) (ml : mg "len" = none) (ms : mg "sum" = none) (mp : mg "repr" = none) (F : L2.Fun K "law" "law" sLaw f fd) : FnG P w K mg base 9 f fd ["_law_script"] (spLaw K) := by
  refine fnG F scLaw (fun vs H Q E h => ?_) (fun cdv A outer s H vs Q hr hg h => ?_)
  · obtain ⟨a, ns, rfl, _⟩ := h
    rfl
  · obtain ⟨a, ns, rfl, hS, hl, q⟩ := h
    refine ⟨_, pss_cons (ps_for PassesOwn.never rfl (pi_range2 (by rfl) mr (pa_cons pe_int (pa_cons pe_int pa_nil))) (pg_name (i := 1) scLaw.nd rfl (.inr rfl))
        (pss_cons (ps_setLc (i := 2) (own := [("_law_one", 6)]) (g := gName 6) (by rfl) scLaw.nd rfl rfl (sw_true rfl rfl rfl (by decide +kernel)) (pi_range2 (by rfl) mr (pa_cons pe_int (pa_cons (pe_op op_add (pv 1) pe_int) pa_nil))) (blkOk_by (N := nLaw) (sc := defScope sLaw) (by decide +kernel))
          (fun _ _ _ _ _ => pg_name (i := 6) scLaw.nd rfl (.inl rfl)) (fun _ _ _ _ _ => pts_one (pt_cmpR op_eq (pe_op op_mod (pv 1) (pv 6)) pe_int (nomark _))) (fun _ _ _ _ _ => pv 6))
        (pss_one (ps_if (pt_cmpR op_ne (pe_callB (cr_sum rfl) (by rfl) ms (by decide +kernel) (pa_cons (pe_lc (own := [("_law_one", 6)]) (g := gName 6) (by rfl) scLaw.nd (pi_list (pv 2)) (blkOk_by (N := nLaw) (sc := defScope sLaw) (by decide +kernel))
            (fun _ _ _ _ _ => pg_name (i := 6) scLaw.nd rfl (.inl rfl)) (fun _ _ _ _ _ => pts_nil) (fun _ _ _ _ _ => pe_d DP hr (by decide) (by rfl) (pa_cons (pv 6) pa_nil))) pa_nil)) (pe_op op_oneShl pe_int (pv 1)) (nomark _)) (pss_one (ps_ret pe_bl)) pss_nil))))
      (pss_cons (ps_for PassesOwn.never rfl (pi_range1 rfl mr (pa_cons (pe_op op_add pe_int (pe_callB (call_min2 rfl) (by rfl) mn (by decide +kernel) (pa_cons pe_int (pa_cons (pe_callB call_len_seq (by rfl) ml PySem.boot_len (pa_cons (pv 0) pa_nil)) pa_nil)))) pa_nil)) (pg_name (i := 3) scLaw.nd rfl (.inl rfl))
        (pss_cons (ps_set (i := 4) scLaw.nd rfl (.inr rfl) (pe_op op_add pe_int (pe_d DT hr (by decide) (by rfl) (pa_cons (pe_d DB hr (by decide) (by rfl) (pa_cons (pv 0) (pa_cons (pv 3) pa_nil))) (pa_cons pe_int pa_nil)))))
        (pss_cons (ps_set (i := 5) scLaw.nd rfl (.inl rfl) (pe_callB call_len_seq (by rfl) ml PySem.boot_len (pa_cons (pe_lc (own := [("_law_row", 7)]) (g := gName 7) (by rfl) scLaw.nd (pi_list (pe_d DA hr (by decide) (by rfl) (pa_cons (pv 4) pa_nil))) (blkOk_by (N := nLaw) (sc := defScope sLaw) (by decide +kernel))
            (fun _ _ _ _ _ => pg_name (i := 7) scLaw.nd rfl (.inl rfl)) (fun _ _ _ _ _ => pts_one (pt_cmpR op_eq (pe_callB (call_lenK K) (by rfl) ml PySem.boot_len (pa_cons (pe_d DR hr (by decide) (by rfl) (pa_cons (pv 7) pa_nil)) pa_nil)) (pv 4) (nomark _))) (fun _ _ _ _ _ => pv 7)) pa_nil)))
        (pss_one (ps_if (pt_cmpR op_ne (pe_callB (call_reprF hr hg) (by rfl) mp (by decide +kernel) (pa_cons (pe_d DP hr (by decide) (by rfl) (pa_cons (pv 4) pa_nil)) pa_nil))
          (pe_callB (call_reprF hr hg) (by rfl) mp (by decide +kernel) (pa_cons (pv 5) pa_nil)) (nomark _)) (pss_one (ps_ret pe_bl)) pss_nil)))))
      (pss_one (ps_ret pe_bl))), ?_⟩
    refine ⟨_, _, rfl, ⟨by decide, by decide, by decide, by decide⟩, for_range (lo := 1) (n := ((65 : Int) - 1).toNat) (fun i σ H' => (∃ y1 y2, σ = [some (.ref a), y1, y2, none, none, none, none, none]) ∧ SqL K H' a (ns.map V.int)) ⟨⟨none, none, rfl⟩, hS⟩ (fun i σ H1 hi hp => ?_) (fun σ H1 hp => ?_)⟩
    · obtain ⟨⟨y1, y2, rfl⟩, hS1⟩ := hp
      have hi : i < 64 := hi
      have ei : (1 + (i : Int)) = ((i + 1 : Nat) : Int) := by omega
      refine ⟨.int (1 + (i : Nat)), rfl, _, _, rfl, rfl, _, _, rfl, ⟨by decide, by decide, by omega, by omega⟩, fun D nD => ?_⟩
      refine lc_range (lo := 1) (n := ((1 + (i : Int)) + 1 - 1).toNat) (fun j H' => Same H1 H' ∧ H' D = some (.lst (((parts (i + 1) j).map fun d : Nat => (d : Int)).map V.int))) ⟨same_new nD, upd_same⟩ (fun j H2 hj hp => ?_) (fun H2 hp => ?_)
      · obtain ⟨sm, hD⟩ := hp
        have hj : j < i + 1 := by omega
        have em : ((1 + (i : Int)) % (1 + (j : Int))) = (((i + 1) % (j + 1) : Nat) : Int) := by
          rw [show (1 + (j : Int)) = ((j + 1 : Nat) : Int) by omega, ei]
          exact (Int.natCast_emod _ _).symm
        refine ⟨rfl, .int (1 + (i : Nat)), rfl, .int (1 + (j : Nat)), rfl, _, _, rfl, rfl, by omega, rfl, _, rfl, ite2 (fun e => ?_) (fun e => ?_)⟩
        · have e := V.int.inj (of_decide_eq_true e)
          rw [em] at e
          have e0 : (i + 1) % (j + 1) = 0 := by omega
          refine ⟨.int (1 + (j : Nat)), rfl, _, hD, ?_, ?_, ?_⟩
          · rw [List.length_map, List.length_map]
            exact small1000 (by have := parts_len (i + 1) j; omega)
          · intro b o h
            rw [upd_ne (ne_of_none h nD)]
            exact sm b o h
          · rw [upd_same, parts_succ, if_pos e0, List.map_append, List.map_append, show (1 + ((j : Nat) : Int)) = ((j + 1 : Nat) : Int) by omega]
            rfl
        · have e0 : ¬ (i + 1) % (j + 1) = 0 := fun z => e (decide_eq_true (congrArg V.int (by rw [em, z]; rfl)))
          refine ⟨sm, ?_⟩
          rw [parts_succ, if_neg e0, List.append_nil]
          exact hD
      · obtain ⟨sm, hD⟩ := hp
        rw [show ((1 + (i : Int)) + 1 - 1).toNat = i + 1 by omega] at hD
        have mem : ∀ d ∈ parts (i + 1) (i + 1), 1 ≤ d ∧ d ≤ 64 := fun d hd => by
          unfold parts at hd
          obtain ⟨u, hu, e⟩ := List.mem_map.mp (List.mem_filter.mp hd).1
          have := List.mem_range.mp hu
          omega
        have right := sums_right i hi
        have plen := parts_len (i + 1) (i + 1)
        generalize parts (i + 1) (i + 1) = ps at hD mem right plen
        refine ⟨.ref D, rfl, D, rfl, ⟨_, SqL.of hD⟩, fun D2 nD2 => ?_⟩
        refine lc_list (K := K) (a := D) (xs := (ps.map fun d : Nat => (d : Int)).map V.int) (fun j H' => Same H2 H' ∧ H' D2 = some (.lst (((ps.take j).map (primF 7)).map V.int))) ⟨same_new nD2, upd_same⟩ (fun j H' _ hp => SqL.of (hp.1 _ _ hD)) (fun j x H3 hx hp => ?_) (fun H3 hp => ?_)
        · obtain ⟨sm3, hD2⟩ := hp
          rw [List.map_map, List.getElem?_map] at hx
          cases e : ps[j]? with
          | none => rw [e] at hx; cases hx
          | some d =>
            rw [e] at hx
            obtain rfl := Option.some.inj hx
            obtain ⟨d1, d2⟩ := mem d (List.mem_of_getElem? e)
            refine ⟨rfl, .int (d : Int), rfl, d, rfl, d1, by show d < 128; omega, d2, fun H4 s4 => ⟨_, s4 _ _ hD2, ?_, ?_, ?_⟩⟩
            · rw [List.length_map, List.length_map, List.length_take]
              exact small1000 (by omega)
            · intro b o h
              rw [upd_ne (ne_of_none h nD2)]
              exact s4 b o (sm3 b o h)
            · rw [upd_same, List.take_add_one, e, List.map_append, List.map_append]
              rfl
        · obtain ⟨sm3, hD2⟩ := hp
          rw [List.length_map, List.length_map, List.take_length] at hD2
          refine ⟨D2, _, rfl, SqL.of hD2, .int (1 + (i : Nat)), rfl, i + 1, rfl, congrArg V.int ei, by omega, rfl, _, rfl, ?_⟩
          rw [right]
          refine iteNS rfl ?_
          exact ⟨⟨_, _, rfl⟩, Same.seqLL sm3 (Same.seqLL sm hS1)⟩
    · obtain ⟨⟨y1, y2, rfl⟩, hS1⟩ := hp
      refine ⟨.ref a, rfl, a, _, rfl, .inl hS1, _, _, rfl, _, _, rfl, rfl, _, rfl, ?_, ?_, ?_⟩
      · split <;> omega
      · split <;> omega
      · generalize hz : (1 + if ((ns.map V.int).length : Int) < 1 then ((ns.map V.int).length : Int) else 1) = z
        have z3 : z ≤ 2 := by rw [← hz]; split <;> omega
        refine for_range (lo := 0) (n := z.toNat) (fun i σ H' => (∃ y1 y2 y3 y4 y5, σ = [some (.ref a), y1, y2, y3, y4, y5, none, none]) ∧ SqL K H' a (ns.map V.int)) ⟨⟨y1, y2, none, none, none, rfl⟩, hS1⟩ (fun i σ H2 hi hp => ?_) (fun σ H2 hp => ?_)
        · obtain ⟨⟨y1, y2, y3, y4, y5, rfl⟩, hS2⟩ := hp
          refine ⟨.ref a, rfl, .int (0 + (i : Nat)), rfl, a, ns, 0 + (i : Nat), rfl, hS2, hl, by omega, by omega, fun b x y nb => ?_⟩
          refine ⟨b, 11, 0, rfl, by decide, by decide, ⟨x, y, 0, upd_same, Int.le_refl _, Int.le_refl _⟩, by decide, fun d H3 d0 d1 bt3 bx3 sm3 => ?_⟩
          have hS3 : SqL K H3 a (ns.map V.int) := keepSeqL hS2 nb bt3
          obtain ⟨u, rfl⟩ : ∃ u : Nat, d = (u : Int) := ⟨d.toNat, by omega⟩
          have u1 : u < 11 := by omega
          refine ⟨_, _, rfl, rfl, ?_⟩
          dsimp only
          rw [show (1 + (u : Int)) = ((u + 1 : Nat) : Int) by omega]
          refine ⟨.int ((u + 1 : Nat) : Int), rfl, u + 1, rfl, by omega, by omega, fun H4 D4 xs s4 n4 h4 xl ra => ⟨D4, rfl, ⟨_, SqL.of h4⟩, fun D5 n5 => ?_⟩⟩
          refine lc_list (K := K) (a := D4) (xs := xs) (fun j H' => Same H4 H' ∧ ∃ ys, H' D5 = some (.lst ys) ∧ ys.length = ((List.range j).filter (primB (u + 1))).length) ⟨same_new n5, [], upd_same, rfl⟩ (fun j H' _ hp => SqL.of (hp.1 _ _ h4)) (fun j v H6 hv hp => ?_) (fun H6 hp => ?_)
          · obtain ⟨sm6, ys, h5, yl⟩ := hp
            obtain ⟨p, rfl, sq⟩ := ra j v hv
            have jl : j < 2 ^ (u + 1) := by rw [← xl]; exact (List.getElem?_eq_some_iff.mp hv).1
            have p16 : (2 : Nat) ^ (u + 1) ≤ 2 ^ 11 := Nat.pow_le_pow_right (by decide) (by omega)
            have fl : ((List.range j).filter (primB (u + 1))).length ≤ j := Nat.le_trans (List.length_filter_le _ _) (by rw [List.length_range]; exact Nat.le_refl _)
            refine ⟨rfl, .ref p, rfl, p, bitsI (u + 1) j, rfl, Same.seqT sm6 sq, bitsI_bits _ _, by rw [bitsI_len]; omega, by rw [bitsI_len]; omega, fun H7 r t s7 rt tr => ?_⟩
            have tl : ((bitsI (u + 1) j).take t).length = t := by rw [List.length_take]; exact Nat.min_eq_left rt.hi
            refine ⟨r, _, rfl, .inr tr, .int ((u + 1 : Nat) : Int), rfl, rfl, _, rfl, ?_⟩
            have pr := prim_root rt
            have key : decide (V.int ((((bitsI (u + 1) j).take t).map V.int).length : Nat) = V.int ((u + 1 : Nat) : Int)) = primB (u + 1) j := by
              rw [← pr, List.length_map, tl, Bool.eq_iff_iff, decide_eq_true_eq, decide_eq_true_eq]
              exact ⟨fun z => by have := V.int.inj z; omega, fun z => by rw [z]⟩
            have key2 : ((List.range (j + 1)).filter (primB (u + 1))).length = ((List.range j).filter (primB (u + 1))).length + if primB (u + 1) j = true then 1 else 0 := by
              rw [List.range_succ, List.filter_append, List.length_append]
              congr 1
              by_cases z : primB (u + 1) j = true
              · simp [z]
              · simp [z]
            refine ite2 (fun e => ?_) (fun e => ?_)
            · have e : primB (u + 1) j = true := key.symm.trans e
              rw [if_pos e] at key2
              refine ⟨.ref p, rfl, ys, s7 _ _ h5, ?_, ?_, ys ++ [.ref p], upd_same, by rw [List.length_append, yl, key2]; rfl⟩
              · rw [yl, sizeLine_eq]
                have : (2 : Nat) ^ 11 = 2048 := rfl
                omega
              · intro b' o h
                rw [upd_ne (ne_of_none h n5)]
                exact s7 b' o (sm6 b' o h)
            · have e : ¬ primB (u + 1) j = true := fun z => e (key.trans z)
              rw [if_neg e] at key2
              exact ⟨sm6.trans s7, ys, s7 _ _ h5, by rw [yl, key2]; rfl⟩
          · obtain ⟨sm6, ys, h5, yl⟩ := hp
            rw [xl] at yl
            have yl : ys.length = primN (u + 1) := yl
            have right := counts_right u u1
            rw [← yl] at right
            have p16 : (2 : Nat) ^ (u + 1) ≤ 2 ^ 11 := Nat.pow_le_pow_right (by decide) (by omega)
            have yb : ys.length ≤ 2 ^ (u + 1) := by
              rw [yl]
              exact Nat.le_trans (List.length_filter_le _ _) (by rw [List.length_range]; exact Nat.le_refl _)
            have e11 : (2 : Nat) ^ 11 = 2048 := rfl
            refine ⟨D5, ys, rfl, .inl (SqL.of h5), .int ((u + 1 : Nat) : Int), rfl, u + 1, rfl, by omega, by show u + 1 < 128; omega, by omega, fun H8 s8 => ?_⟩
            rw [right]
            have fi : Fine (.int ((ys.length : Nat) : Int)) := fine_int (by omega)
            refine ⟨_, .int _, rfl, .int _, fi, .int ((ys.length : Nat) : Int), rfl, _, .int _, rfl, .int _, fi, rfl, _, rfl, iteNS rfl ?_⟩
            exact ⟨⟨_, _, _, _, _, rfl⟩, Same.seqLL s8 (Same.seqLL sm6 (Same.seqLL s4 hS3))⟩
        · exact q _
theorem law_start {K : PySem.W.Frag} {H : Hp} {a : Addr} {ns : List Int} (hl : ns.length ≤ 63) (hO : Only H) (hS : SqL K H a (ns.map V.int)) : spLaw K [.ref a] H (fun v _ => v = .bl true) L2.E0 :=
  ⟨a, ns, rfl, hS, hl, fun _ => rfl⟩
end
end Pf
namespace Pf
open PySem PySem.Spec PyProof.Rows L2 Gk
theorem all_mk {P : Program} {w : World} {K : PySem.W.Frag} {h : Heap} {mg : Str → Option Value} {fa : Addr} (X : K.In h) (G : h.Ns mainGlobals mg) (hfa : mg "law" = some (.ref fa))
    {f0 : Addr} {od0 an0 : Option Addr} {sl0 : Array (Option Value)} {oc0 kV0 dc0 pm0 cd0 ct0 : Value} {f1 : Addr} {od1 an1 : Option Addr} {sl1 : Array (Option Value)} {oc1 kV1 dc1 pm1 cd1 ct1 : Value} {f2 : Addr} {od2 an2 : Option Addr} {sl2 : Array (Option Value)} {oc2 kV2 dc2 pm2 cd2 ct2 : Value} {f3 : Addr} {od3 an3 : Option Addr} {sl3 : Array (Option Value)} {oc3 kV3 dc3 pm3 cd3 ct3 : Value} {f4 : Addr} {od4 an4 : Option Addr} {sl4 : Array (Option Value)} {oc4 kV4 dc4 pm4 cd4 ct4 : Value} {f5 : Addr} {od5 an5 : Option Addr} {sl5 : Array (Option Value)} {oc5 kV5 dc5 pm5 cd5 ct5 : Value}
    (a0 : PySem.W.nsIn K mainGlobals "primitive_count" = some (some (.ref f0)))
    (l0 : K.lookup f0 = some ⟨oc0, od0, .func (PySem.W.fnOf "primitive_count" "primitive_count" (defArgs sPrim) (defBody sPrim) (defScope sPrim) .none kV0 dc0 pm0 an0 cd0 ct0), sl0⟩)
    (c0 : PySem.W.codeIn K cd0 "primitive_count" = true) (k0 : PySem.W.keepIn K (.ref f0) = true)
    (a1 : PySem.W.nsIn K mainGlobals "_law_box" = some (some (.ref f1)))
    (l1 : K.lookup f1 = some ⟨oc1, od1, .func (PySem.W.fnOf "_law_box" "_law_box" (defArgs sBox) (defBody sBox) (defScope sBox) .none kV1 dc1 pm1 an1 cd1 ct1), sl1⟩)
    (c1 : PySem.W.codeIn K cd1 "_law_box" = true) (k1 : PySem.W.keepIn K (.ref f1) = true)
    (a2 : PySem.W.nsIn K mainGlobals "_law_take" = some (some (.ref f2)))
    (l2 : K.lookup f2 = some ⟨oc2, od2, .func (PySem.W.fnOf "_law_take" "_law_take" (defArgs sTake) (defBody sTake) (defScope sTake) .none kV2 dc2 pm2 an2 cd2 ct2), sl2⟩)
    (c2 : PySem.W.codeIn K cd2 "_law_take" = true) (k2 : PySem.W.keepIn K (.ref f2) = true)
    (a3 : PySem.W.nsIn K mainGlobals "_law_root" = some (some (.ref f3)))
    (l3 : K.lookup f3 = some ⟨oc3, od3, .func (PySem.W.fnOf "_law_root" "_law_root" (defArgs sLRoot) (defBody sLRoot) (defScope sLRoot) .none kV3 dc3 pm3 an3 cd3 ct3), sl3⟩)
    (c3 : PySem.W.codeIn K cd3 "_law_root" = true) (k3 : PySem.W.keepIn K (.ref f3) = true)
    (a4 : PySem.W.nsIn K mainGlobals "_law_all_rows" = some (some (.ref f4)))
    (l4 : K.lookup f4 = some ⟨oc4, od4, .func (PySem.W.fnOf "_law_all_rows" "_law_all_rows" (defArgs sAllR) (defBody sAllR) (defScope sAllR) .none kV4 dc4 pm4 an4 cd4 ct4), sl4⟩)
    (c4 : PySem.W.codeIn K cd4 "_law_all_rows" = true) (k4 : PySem.W.keepIn K (.ref f4) = true)
    (a5 : PySem.W.nsIn K mainGlobals "law" = some (some (.ref f5)))
    (l5 : K.lookup f5 = some ⟨oc5, od5, .func (PySem.W.fnOf "law" "law" (defArgs sLaw) (defBody sLaw) (defScope sLaw) .none kV5 dc5 pm5 an5 cd5 ct5), sl5⟩)
    (c5 : PySem.W.codeIn K cd5 "law" = true) (k5 : PySem.W.keepIn K (.ref f5) = true)
    (z0 : PySem.W.nsIn K mainGlobals "int" = some none)
    (z1 : PySem.W.nsIn K mainGlobals "len" = some none)
    (z2 : PySem.W.nsIn K mainGlobals "abs" = some none)
    (z3 : PySem.W.nsIn K mainGlobals "range" = some none)
    (z4 : PySem.W.nsIn K mainGlobals "min" = some none)
    (z5 : PySem.W.nsIn K mainGlobals "max" = some none)
    (z6 : PySem.W.nsIn K mainGlobals "repr" = some none)
    (z7 : PySem.W.nsIn K mainGlobals "tuple" = some none)
    (z8 : PySem.W.nsIn K mainGlobals "sum" = some none)
    : ∃ fd : FuncData, (∀ (s : Shared) (v : Value), BindsTo s fd ⟨[v], []⟩ [("_law_script", v)]) ∧ ∀ base : Heap, K.In base → base.Ns mainGlobals mg → FnG P w K mg base 9 fa fd ["_law_script"] (spLaw K) := by
  have e := hfa.symm.trans (PySem.W.mg_of X G a5)
  cases e
  have F0 := fun_mk (st := sPrim) l0 c0 k0
  have b0 := F0.binds (ps := ["number"]) fun _ _ _ _ _ _ us hl => match us, hl with | [_], _ => rfl
  have g0 := PySem.W.mg_of X G a0
  have F1 := fun_mk (st := sBox) l1 c1 k1
  have b1 := F1.binds (ps := ["_law_script", "_law_k"]) fun _ _ _ _ _ _ us hl => match us, hl with | [_, _], _ => rfl
  have g1 := PySem.W.mg_of X G a1
  have F2 := fun_mk (st := sTake) l2 c2 k2
  have b2 := F2.binds (ps := ["_law_box_here", "_law_many"]) fun _ _ _ _ _ _ us hl => match us, hl with | [_, _], _ => rfl
  have g2 := PySem.W.mg_of X G a2
  have F3 := fun_mk (st := sLRoot) l3 c3 k3
  have b3 := F3.binds (ps := ["_law_row"]) fun _ _ _ _ _ _ us hl => match us, hl with | [_], _ => rfl
  have g3 := PySem.W.mg_of X G a3
  have F4 := fun_mk (st := sAllR) l4 c4 k4
  have b4 := F4.binds (ps := ["_law_size"]) fun _ _ _ _ _ _ us hl => match us, hl with | [_], _ => rfl
  have g4 := PySem.W.mg_of X G a4
  have F5 := fun_mk (st := sLaw) l5 c5 k5
  have n_int := PySem.W.mg_none_of X G z0
  have n_len := PySem.W.mg_none_of X G z1
  have n_abs := PySem.W.mg_none_of X G z2
  have n_range := PySem.W.mg_none_of X G z3
  have n_min := PySem.W.mg_none_of X G z4
  have n_max := PySem.W.mg_none_of X G z5
  have n_repr := PySem.W.mg_none_of X G z6
  have n_tuple := PySem.W.mg_none_of X G z7
  have n_sum := PySem.W.mg_none_of X G z8
  refine ⟨PySem.W.fnOf "law" "law" (defArgs sLaw) (defBody sLaw) (defScope sLaw) .none kV5 dc5 pm5 an5 cd5 ct5, fun s v => .of_eq rfl, fun base _ _ => ?_⟩
  have Dprimitive_count : Dfn P w K mg base 8 "primitive_count" ["number"] (spPrim K 7) := ⟨_, _, (fun z => ok_prim g0 b0 n_range n_max n_sum z 7) F0, g0, F0.kp, b0⟩
  have Dlaw_box : Dfn P w K mg base 1 "_law_box" ["_law_script", "_law_k"] (spBox K) := ⟨_, _, ok_box n_len n_abs n_int F1, g1, F1.kp, b1⟩
  have Dlaw_take : Dfn P w K mg base 1 "_law_take" ["_law_box_here", "_law_many"] spTake := ⟨_, _, ok_take F2, g2, F2.kp, b2⟩
  have Dlaw_root : Dfn P w K mg base 1 "_law_root" ["_law_row"] (spRootB K) := ⟨_, _, ok_lrootB n_range n_len F3, g3, F3.kp, b3⟩
  have Dlaw_all_rows : Dfn P w K mg base 1 "_law_all_rows" ["_law_size"] (spAllR K) := ⟨_, _, ok_allR (k := 0) n_range n_tuple F4, g4, F4.kp, b4⟩
  exact ok_law Dlaw_box Dlaw_take Dlaw_root Dlaw_all_rows Dprimitive_count n_range n_min n_len n_sum n_repr F5
end Pf
open PySem PySem.W PyProof.Rows
set_option maxHeartbeats 0 in
theorem PySem.Challenge.cw_pastenough_k58_primitive_patterns_holds : PySem.Challenge.rw_pastenough_k58_primitive_patterns.Holds := by
  w_on; o_law; k_head; (case hw => w_witness2)
  k_fill
  refine Gk.walkG (l := PySem.Challenge.rw_pastenough_k58_primitive_patterns) (n := 63) (k := 9) (x := "_law_script") (sp := fun w => Pf.spLaw _) rfl (by decide) rfl ⟨rfl, by decide, by decide⟩ (fun w h Y => PySem.W.kIn_of Y) ?F (fun _ _ a ns hl hO hS => Pf.law_start hl hO hS)
  case F =>
    intro w mg fa h KX G hmg
    refine' Pf.all_mk KX G hmg ?a0 ?l0 ?c0 ?k0 ?a1 ?l1 ?c1 ?k1 ?a2 ?l2 ?c2 ?k2 ?a3 ?l3 ?c3 ?k3 ?a4 ?l4 ?c4 ?k4 ?a5 ?l5 ?c5 ?k5 ?z0 ?z1 ?z2 ?z3 ?z4 ?z5 ?z6 ?z7 ?z8
    (case a0 => k_is)
    (case l0 => k_is)
    (case c0 => k_is)
    (case k0 => k_is)
    (case a1 => k_is)
    (case l1 => k_is)
    (case c1 => k_is)
    (case k1 => k_is)
    (case a2 => k_is)
    (case l2 => k_is)
    (case c2 => k_is)
    (case k2 => k_is)
    (case a3 => k_is)
    (case l3 => k_is)
    (case c3 => k_is)
    (case k3 => k_is)
    (case a4 => k_is)
    (case l4 => k_is)
    (case c4 => k_is)
    (case k4 => k_is)
    (case a5 => k_is)
    (case l5 => k_is)
    (case c5 => k_is)
    (case k5 => k_is)
    (case z0 => k_is)
    (case z1 => k_is)
    (case z2 => k_is)
    (case z3 => k_is)
    (case z4 => k_is)
    (case z5 => k_is)
    (case z6 => k_is)
    (case z7 => k_is)
    (case z8 => k_is)
