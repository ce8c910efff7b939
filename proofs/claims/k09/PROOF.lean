import PyProof.Rows.All
import Wide.All
import OpenK.AllK
import Wide.FinOn
import HandS.ForMost
import HandS.Codes
import HandS.Wide
import HandS.WideBits
import HandS.Defaults
import HandS.Walk
import PyProof.ReprRoads
import HandS.Text
import HandS.Iter
import HandS.Style
import KE.GoesMore
import KE.KRevSl
import PyProof.ReprLen
import PyProof.StrBlock2
import HandS.Ends
import PySem.Challenge.RW_pastenough_k09_folded_histories
set_option Elab.async false
set_option linter.all false
set_option maxRecDepth 100000
set_option maxHeartbeats 4000000
/-! Defs that are run where no repr is under way; repr of data; further small rules. -/
namespace Gk
open PySem PySem.Spec PyProof.Rows L2

/-- a def's promise wherever nothing is being shown -/
structure FnG (P : Program) (w : World) (K : PySem.W.Frag) (mg : Str → Option Value) (base : Heap) (k : Nat)
    (f : Addr) (fd : FuncData) (ps : List Str) (sp : Sp) : Prop where
  len : ∀ vs H Q E, sp vs H Q E → vs.length = ps.length
  go : ∀ (A : Around) (outer : List Env) (s : Shared) (H : Hp) (args : Args) (us : List Value) (vs : List V) (Q : VK),
    Room k A → A.guards = some [] → Env0 P w K mg base A outer s H → BindsTo s fd args (ps.zip us) → Vals vs us → sp vs H Q L2.E0 →
    codeAny (model P w) A (.call (.ref f) args) (CR L2.CX0 outer P w H s Q L2.E0) s

section
variable {P : Program} {w : World} {K : PySem.W.Frag} {mg : Str → Option Value} {base : Heap}
theorem FnG.weak {j k : Nat} {f : Addr} {fd : FuncData} {ps : List Str} {sp : Sp} (F : FnG P w K mg base j f fd ps sp) (h : j ≤ k) : FnG P w K mg base k f fd ps sp :=
  ⟨F.len, fun A outer s H args us vs Q r g => F.go A outer s H args us vs Q (r.mono h) g⟩
theorem FnG.from {k : Nat} {f : Addr} {fd : FuncData} {ps : List Str} {sp : Sp} (F : FnOk P w K mg base L2.CX0 k f fd ps sp) : FnG P w K mg base k f fd ps sp :=
  ⟨F.len, fun A outer s H args us vs Q r _ e b v q => F.run A outer s H args us vs Q L2.E0 r e b v q⟩

theorem guards_deeper {A : Around} {env : Env} (h : A.guards = some []) : (A.deeper env).guards = some [] := by
  first | exact h | (unfold Around.deeper; exact h)

/-- THE RULE for a def, by its body -/
theorem fnG {x qual : Str} {st : Stmt} {f : Addr} {fd : FuncData} {N ps : List Str} {k : Nat} {sp : Sp} (F : L2.Fun K x qual st f fd) (S : FnScope N ps (defScope st))
    (len : ∀ vs H Q E, sp vs H Q E → vs.length = ps.length)
    (hbody : ∀ (cdv : Value) (A : Around) (outer : List Env) (s : Shared) (H : Hp) (vs : List V) (Q : VK),
      Room k (A.deeper (envOfC qual (defScope st) s.heap.objs.size f cdv)) → (A.deeper (envOfC qual (defScope st) s.heap.objs.size f cdv)).guards = some [] → sp vs H Q L2.E0 →
      ∃ t, PSs (cxOf L2.CX0 P w K mg base N qual (defScope st) f cdv A outer s H L2.E0).nox (defBody st) t ∧ t { nx := fun _ H' => Q .non H', rt := Q } (start N vs) H) :
    FnG P w K mg base (k + 1) f fd ps sp := by
  obtain ⟨oc, od, kV, doc, pm, an, cdv, ct, osl, rfl, lk, hcd⟩ := F.ex
  refine ⟨len, fun A outer s H args us vs Q room gd en bd rv want => ?_⟩
  have many := len _ _ _ _ want
  have KX : K.In s.heap := en.mod.kin.keeps (fun b o hbo => (en.bs b o hbo).1)
  have lim : s.heap.NoLimit := en.mod.nolimit.keeps (fun b o hbo => (en.bs b o hbo).1)
  have kinds : ∀ y ∈ ps.zip us, (defScope st).names.lookup y.1 = some .local ∨
      ((defScope st).names.lookup y.1 = some .cell ∧ ((cellsFrom (s.heap.objs.size + 1) (defScope st).names []).lookup y.1).isSome = true) := fun y hy =>
    (S.par y.1 (List.of_mem_zip (a := y.1) (b := y.2) hy).1).elim Or.inl fun q => .inr ⟨q, PySem.W.cellsFrom_some _ _ _ (.inl q)⟩
  refine codeAny_call_function room.depth (KX _ _ lk) rfl S.co S.gen rfl (PySem.W.codeRec_of KX hcd) (bd _ _ _ _ ?_)
  refine wpAny_newFunctionEnv_cells S.kind kinds fun env he st1 inC => ?_
  subst he
  refine ⟨lim.keeps inC.toInCall.keep, codeAny_func ?_⟩
  obtain ⟨t, ht, hq⟩ := hbody cdv A outer s H vs Q (room.deeper _) (guards_deeper gd) want
  have I := inv_start (CX := L2.CX0) (P := P) (w := w) (mg := mg) (E := L2.E0) S room.hd en many rv inC
  refine wpAny_mono (ht.nox.run [] st1 (start N vs) H _ I hq) (fun fl s' hs => ?_) fun e s' hs => hs
  cases fl with
  | brk => obtain ⟨_, _, _, z⟩ := hs; exact False.elim z
  | cont => obtain ⟨_, _, _, z⟩ := hs; exact False.elim z
  | next => obtain ⟨σ1, H1, J, z⟩ := hs; exact ⟨V.non, H1, J.os, J.bare, J.base, J.hok, rfl, z⟩
  | ret u => obtain ⟨v, σ1, H1, J, rv1, z⟩ := hs; exact ⟨v, H1, J.os, J.bare, J.base, J.hok, rv1, z⟩
end

section
variable {X : Cx} {k : Nat} {f : Addr} {fd : FuncData} {ps : List Str} {sp : Sp} {x : Str} {p pos : Pos} {e : Expr} {es : List Expr} {t : TA}
theorem go_fn {pins : List (Addr × Obj)} {σ : L2.St} {H : Hp} {s : Shared} {Q : VK} {us : List Value} {vs : List V} (F : FnG X.prog X.w X.K X.mg X.base k f fd ps sp)
    (hr : Room k X.A) (hg : X.A.guards = some []) (hb : Binds X.K fd ps []) (I : Inv X pins σ H s) (r : Vals vs us) (h : sp vs H Q L2.E0) : wpAny (model X.prog X.w) X.A (call (.ref f) us) (EP X pins σ Q) X.xe s := by
  have hl : (us ++ []).length = ps.length := by rw [List.append_nil, ← r.length]; exact F.len _ _ _ _ h
  have b := hb s us I.kIn hl
  rw [List.append_nil] at b
  refine wpAny_call (codeAny_mono (F.go X.A X.stack s H ⟨us, []⟩ us vs Q hr hg I.env0 b r h) fun res s' hq => ?_)
  cases res with
  | error er => exact False.elim hq
  | ok fl =>
    cases fl with
    | brk => exact False.elim hq
    | cont => exact False.elim hq
    | next => exact False.elim hq
    | ret u => exact I.after hq
def tG (sp : Sp) (t : TA) : TE := fun σ H Q => t σ H fun vs H1 => sp vs H1 Q L2.E0
/-- f(e, ..) -/
theorem pe_g (F : FnG X.prog X.w X.K X.mg X.base k f fd ps sp) (hr : Room k X.A) (hd : X.A.guards = some []) (hg : Gl X x) (hm : X.mg x = some (.ref f)) (hk : PySem.W.keepIn X.K (.ref f) = true) (hb : Binds X.K fd ps [])
    (ha : PA X (e :: es) t) (hdb : (x == ("__debug__" : Str)) = false := by decide) (he : starEach (e :: es) X.env = (false, eval e X.env) :: starEach es X.env := by rfl)
    (hpl : (backTo pos (starEach es X.env)).any (·.1) = false := by rfl) : PE X (.Call (.Name x p) (e :: es) [] pos) (tG sp t) :=
  ⟨fun pins s σ H Q I h => wpAny_Call_Name_kw (ld_glob I hg hm (PySem.W.callWith_K (h₀ := X.base) I.ok.mod.kin hk (thn (ha.run pos pins s σ H _ I h) fun us s1 ⟨vs, H1, I1, r, q⟩ => ⟨I1.kIn, go_fn F hr hd hb I1 r q⟩) he hpl) hdb)⟩
end

/-! ### keywords alone -/
section
variable {X : Cx} {k : Nat} {f : Addr} {fd : FuncData} {ps ks : List Str} {sp : Sp} {x : Str} {p pos : Pos} {kws : List Keyword} {tk : TA} {g : List Value → List Value → List Value} {gV : List V → List V → List V}
def tKw (n : Nat) (gV : List V → List V) (sp : Sp) (tk : TA) : TE := fun σ H Q => tk σ H fun zs H1 => zs.length = n ∧ sp (gV zs) H1 Q L2.E0
/-- f(k = v, ..) -/
theorem pe_kw (F : FnOk X.prog X.w X.K X.mg X.base L2.CX0 k f fd ps sp) (hr : Room k X.A) (hg : Gl X x) (hm : X.mg x = some (.ref f)) (hk : PySem.W.keepIn X.K (.ref f) = true) (hb : KBn X.K fd ps 0 ks g gV)
    (hkw : PK X kws tk) (hall : (backToKw pos (keywordEach kws X.env)).all (·.1.isSome) = true := by rfl) (hks : (backToKw pos (keywordEach kws X.env)).filterMap (·.1) = ks := by rfl) (hdb : (x == ("__debug__" : Str)) = false := by decide)
    (hpl : ((backTo pos (starEach [] X.env)).any (·.1) || (backToKw pos (keywordEach kws X.env)).any (·.1.isNone)) = false := by rfl) :
    PE X (.Call (.Name x p) [] kws pos) (tKw ks.length (gV []) sp tk) := by
  refine ⟨fun pins s σ H Q I h => wpAny_Call_Name_kw (ld_glob I hg hm ?_ hdb)⟩
  refine PySem.W.callWith_KW0 (h₀ := X.base) I.ok.mod.kin hk hall (thn (hkw.run pos pins s σ H _ I h) fun ws s2 ⟨zs, H2, I2, rz, l2, q2⟩ => ⟨I2.kIn, ?_⟩) hpl
  rw [hks]
  exact run_fnN (us := []) (vs := []) F hr hb L2.pass0 I2 .nil rz rfl l2 q2
end
end Gk
namespace Gk
open PySem PySem.Spec PyProof.Rows L2 PySem.Builtin.Str

/-! ### powers of great numbers -/
def CBigPow (i j : Int) : Prop := 0 ≤ j ∧ (Builtin.Int.intBits i : Int) * j ≤ 2 ^ 27
theorem op_bigpow {X : Cx} : OpR X (binaryOp .Pow) (rI CBigPow fun i j => .int (i ^ j.toNat)) := opI fun _ _ _ _ _ _ _ hc q => pow_int hc.1 hc.2 q

/-! ### repr of data -/
theorem call_reprD {X : Cx} {k : Nat} (hr : Room k X.A) (hg : X.A.guards = some []) : CallR X (.builtin "repr") (fun xs H Q => ∃ v d, xs = [v] ∧ Dp X.K H v d ∧ d.showable = true ∧ d.hasDict = false ∧
    d.depth ≤ 40 ∧ d.shown.length ≤ sizeLine ∧ Q (.str d.shown) H) := by
  intro pins s σ H xs us Q I r h
  obtain ⟨v, d, rfl, hd, hs, hn, hdep, hz, q⟩ := h
  obtain ⟨u, rfl, ru⟩ := vals1 r
  have hun := hr.units
  cases hd with
  | non =>
    cases ru
    exact PySem.P.repr_of_none ⟨.str _, H, I.tok _, ⟨_, rfl⟩, q⟩
  | bl b =>
    cases ru
    exact PySem.P.repr_of_bool ⟨.str _, H, I.tok _, ⟨_, rfl⟩, q⟩
  | int i =>
    obtain ⟨t, rfl⟩ := ru
    exact PySem.P.repr_of_int (of_decide_eq_true hs) ⟨.str _, H, I.tok _, ⟨_, rfl⟩, q⟩
  | str x =>
    obtain ⟨t, rfl⟩ := ru
    exact PySem.P.repr_of_str ⟨.str _, H, I.tok _, ⟨_, rfl⟩, q⟩ hz
  | lst h1 h2 =>
    rename_i a xs ds
    obtain ⟨as, rd⟩ := Dp.reads I (.list ds) (.ref a) u (.lst h1 h2) ru
    cases ru
    exact repr_of_reads' rd hs (PyData.noDict_hsm hn) hg (by omega) (fun _ _ e => e) (fun h' t tk hk => ⟨.str _, H, I.kept (t' := tk) hk, ⟨_, rfl⟩, q⟩) hz
  | tup h1 h2 =>
    rename_i a xs ds
    obtain ⟨as, rd⟩ := Dp.reads I (.tuple ds) (.ref a) u (.tup h1 h2) ru
    cases ru
    exact repr_of_reads' rd hs (PyData.noDict_hsm hn) hg (by omega) (fun _ _ e => e) (fun h' t tk hk => ⟨.str _, H, I.kept (t' := tk) hk, ⟨_, rfl⟩, q⟩) hz

/-! ### a text from behind -/
theorem rev_signs (z : Str) : ((strSliceIndices none none (-1) z.length).filterMap (z.cps[·]?)).toArray = z.cps.toList.reverse.toArray := by
  have e : strSliceIndices none none (-1) z.length = (List.range z.cps.size).reverse := by
    show sliceRange ((z.cps.size : Int) - 1) (-1) (-1) = _
    rw [PySem.W.krv_sliceRange, PySem.W.krv_range]
  rw [e, List.filterMap_reverse, PySem.W.krv_all]
def tRevT (te : TE) : TE := fun σ H Q => te σ H fun x H1 => ∃ z : Str, x = .str z ∧ z.length ≤ sizeLine ∧ Q (.str ⟨z.cps.toList.reverse.toArray⟩) H1
theorem pe_revT {X : Cx} {e : Expr} {te : TE} {k : Nat} {p1 p2 p3 pos : Pos} (he : PE X e te) : PE X (.Subscript e (.Slice none none (some (.UnaryOp .USub (.Constant (.int 1) k p1) p2)) p3) pos) (tRevT te) := by
  refine ⟨fun pins s σ H Q I h => Subscript_ (thn (he.run pins s σ H _ I h) fun v s1 ⟨x, H1, I1, r1, z, ex, hz, q⟩ => ?_)⟩
  subst ex
  obtain ⟨t, rfl⟩ := r1
  have step : PO X (some (.UnaryOp .USub (.Constant (.int 1) k p1) p2)) (tPart (tUn (rU fun i => .int (-i)) (tC (.int 1)))) := po_some (pe_un un_neg pe_int)
  refine wpAny_Slice (thn (po_none.run pins s1 σ H1 (fun o G => o = none ∧ G = H1) I1 ⟨rfl, rfl⟩) fun vl s2 ⟨l, H2, I2, pl, el, e2⟩ => ?_)
  subst e2 el
  refine thn (po_none.run pins s2 σ H2 (fun o G => o = none ∧ G = H2) I2 ⟨rfl, rfl⟩) fun vu s3 ⟨u, H3, I3, pu, eu, e3⟩ => ?_
  subst e3 eu
  refine thn (step.run pins s3 σ H3 (fun o G => o = some (-1) ∧ G = H3) I3 ⟨1, rfl, -1, rfl, rfl, rfl⟩) fun vs s4 ⟨o, H4, I4, ps, eo, e4⟩ => ?_
  subst e4 eo
  obtain ⟨l, rfl, el⟩ := IsPart.raw pl
  obtain ⟨u, rfl, eu⟩ := IsPart.raw pu
  obtain ⟨w, rfl, ew⟩ := IsPart.raw ps
  have I5 : Inv X pins σ H4 { s4 with heap := s4.heap.push { cls := .type "slice", data := .fields #[partValue l, partValue u, partValue w] } } :=
    I4.kept (t' := s4.toks) fun b ob g => Heap.get?_push_of_some _ g
  refine tail_any (T := "str") (ops := [.str z t, .ref s4.heap.objs.size]) (typeIs_str _ _ _) F.slot_str_getitem.lookup ?_ (by with_unfolding_all rfl)
  refine wpAny_getItem_str_slice (l := l) (u := u) (st := w) ⟨_, Heap.get?_push_size _ rfl, rfl, rfl⟩ (by rw [ew]; rfl) ?_
  unfold sliceMade slicePicked
  rw [el, eu, ew]
  show Made.post (if ((-1 : Int) == 1 && _) = true then _ else Made.str ⟨((strSliceIndices none none (-1) z.length).filterMap (z.cps[·]?)).toArray⟩) _ _
  rw [show ((-1 : Int) == 1) = false from rfl, Bool.false_and, if_neg Bool.false_ne_true, rev_signs]
  have hl : (⟨z.cps.toList.reverse.toArray⟩ : Str).length ≤ sizeLine := by
    show z.cps.toList.reverse.toArray.size ≤ sizeLine
    rw [List.size_toArray, List.length_reverse, Array.length_toList]
    exact hz
  exact ⟨hl, .str _, H4, I5.tok _, ⟨_, rfl⟩, q⟩

/-! ### enumerate of a text -/
def Iet (z : Str) : It := ⟨fun i _ => i < z.cps.size, fun i H v H' => ∃ T c, v = .ref T ∧ H T = none ∧ z.cps[i]? = some c ∧ H' = upd H T (.tup [.int (i : Nat), .str ⟨#[c]⟩]), fun i _ => z.cps.size ≤ i⟩
theorem turn_et {P : Program} {w : World} {K : PySem.W.Frag} {elts : List Expr} {kk : Nat} {tpos : Pos} (e it : Addr) (z : Str) (t : Tok) :
    Turn P w K (.Tuple elts kk tpos) (Iet z) [e, it] e (fun i h => ((∃ old, IsEnum h e it i old) ∧ h.IsStrIter it (strIterType z) z t i) ∧ e ≠ it ∧ i ≤ z.cps.size) where
  mem := List.mem_cons_self
  obj := fun i h st b hb => by
    obtain ⟨⟨⟨old, he⟩, ⟨o, ho, hc, hd⟩⟩, _⟩ := st
    rcases List.mem_cons.mp hb with rfl | hb
    · exact ⟨_, he, fun v g => nomatch g⟩
    · rw [List.mem_singleton.mp hb]
      exact ⟨o, ho, fun v g => by rw [hd] at g; cases g⟩
  keep := fun i h h' st k => by
    obtain ⟨⟨⟨old, he⟩, ⟨o, ho, hc, hd⟩⟩, hne⟩ := st
    exact ⟨⟨⟨old, k e List.mem_cons_self _ he⟩, o, k it (List.mem_cons_of_mem _ List.mem_cons_self) o ho, hc, hd⟩, hne⟩
  item := by
    intro X hP hw hK hc i pins s σ H E I hf st hg
    subst hP hw hK
    have hg' : i < z.cps.size := hg
    obtain ⟨st, hne, hi⟩ := st
    have D : Draws X.prog X.w X.A.in1 it [it] z.cps.size _ _ := Draws.text (show X.A.in1.handled = none from I.ok.hd hc) it z t
    have W := WalksT.enumerateD D e hne (fun q => hne (List.mem_singleton.mp q)) List.mem_cons_self
    have hel : e < s.heap.objs.size := by obtain ⟨⟨old, he⟩, _⟩ := st; exact Heap.lt_size he
    have hil : it < s.heap.objs.size := by obtain ⟨_, o, ho, _⟩ := st; exact Heap.lt_size ho
    refine W.item i s _ _ hg' st fun T vals h' tk hp hT isT mid hk => ?_
    obtain ⟨t1, x1, ⟨c, u1, hcx, rfl⟩, rfl⟩ := hp
    have nT := W.apart i T h' mid
    refine ⟨_, rfl, W.go elts kk tpos i T { s with heap := h', toks := tk } _ _ mid fun h2 st2 hk2 => ?_⟩
    obtain ⟨oT, gT, cT, nTT, dT⟩ := isT
    have gT2 := hk2 T oT nT gT
    have new : ObjOk X.prog X.w (upd H T (.tup [.int (i : Nat), .str ⟨#[c]⟩])) h2 T (.tup [.int (i : Nat), .str ⟨#[c]⟩]) :=
      ⟨by show 2 ≤ sizeLine; decide, [.int i t1, .str ⟨#[c]⟩ u1], .cons ⟨_, rfl⟩ (.cons ⟨_, rfl⟩ .nil), ⟨oT, gT2, cT, nTT, dT⟩⟩
    have I1 : Inv X pins σ (upd H T (.tup [.int (i : Nat), .str ⟨#[c]⟩])) { s with heap := h2, toks := tk } :=
      I.turnedNew (ch := [e, it]) (fun b ob hb g => hk2 b ob hb (hk b ob hb g)) hf hT new
    refine ⟨.ref T, _, I1, rfl, ⟨T, c, rfl, I.hok.fresh hT, hcx, rfl⟩, ⟨⟨?_, st2.2⟩, hne, hg'⟩, fun b hb => ?_⟩
    · exact st2.1
    · have hb' : b < s.heap.objs.size := by
        rcases List.mem_cons.mp hb with rfl | hb
        · exact hel
        · rw [List.mem_singleton.mp hb]; exact hil
      rw [upd_ne (Nat.ne_of_lt (Nat.lt_of_lt_of_le hb' hT))]
      exact (hf b hb).1
  done := by
    intro X hP hw hK hc i pins s σ H E I hf st hg
    subst hP hw hK
    obtain ⟨st, hne, hi⟩ := st
    have hg' : z.cps.size ≤ i := hg
    obtain rfl : i = z.cps.size := Nat.le_antisymm hi hg'
    have D : Draws X.prog X.w X.A.in1 it [it] z.cps.size _ _ := Draws.text (show X.A.in1.handled = none from I.ok.hd hc) it z t
    have W := WalksT.enumerateD D e hne (fun q => hne (List.mem_singleton.mp q)) List.mem_cons_self
    refine W.done s _ _ st fun h' tk hk => ⟨rfl, ?_⟩
    exact I.step (g' := s.gens) (d' := s.drawn) (ch := [e, it]) (fun b hb => ⟨(hf b hb).2.2.2.1, (hf b hb).2.1, (hf b hb).2.2.2.2.1, (hf b hb).2.2.2.2.2⟩) (fun b o _ _ hc g _ => hk b o hc g) (fun b o _ _ hc g _ => ⟨o.slots, hk b o hc g⟩)
      (fun _ _ _ _ n => n) (fun b o hc g => ⟨o, hk b o hc g⟩) (fun _ _ g => g) (fun _ _ _ g => g) (fun b ps g => ⟨#[], by rw [g]; simp⟩)
      (fun m hm => by
        obtain ⟨o, es, ep, ho, r⟩ := hm
        exact ⟨o, es, ep, hk _ o (fun q => (hf _ q).2.1 rfl) ho, r⟩)
      (fun b u g => by
        have nb : ∀ c v, H c = some v → c ∉ [e, it] := fun c v g q => by
          have g' := (hf c q).1
          rw [g'] at g; cases g
        refine (I.hok b u g).stay (fun c v hcv q => hk c v ?_ q) (fun _ q => q) fun _ _ q => q
        rcases hcv with rfl | hcv
        · exact nb _ _ g
        · exact nb _ _ hcv) I.bare
  self := fun A i s Q E st h => by
    obtain ⟨⟨⟨old, he⟩, _⟩, _⟩ := st
    exact wpAny_pyIter_enum he h
def iEnumT (ta : TA) : TI := fun σ H R => ta σ H fun vs H1 => ∃ z, vs = [.str z] ∧ R (Iet z) H1
theorem pi_enumT {X : Cx} {e : Expr} {ta : TA} {p pos tpos : Pos} {elts : List Expr} {kk : Nat} (hg : Gl X "enumerate") (hm : X.mg "enumerate" = none) (ha : PA X [e] ta) (hs : starEach [e] X.env = [(false, eval e X.env)] := by rfl) :
    PI X (.Tuple elts kk tpos) (.Call (.Name "enumerate" p) [e] [] pos) (iEnumT ta) := by
  refine ⟨fun pins s σ H R I h => Call_ (ld_blt I hg hm boot_enumerate (PyProof.Rows.callWith_type1 (thn (ha.run pos pins s σ H _ I h) fun us s1 ⟨vs, H1, I1, r1, z, ez, q⟩ => ?_) hs rfl))⟩
  subst ez
  obtain ⟨u, rfl, t, rfl⟩ := vals1 r1
  refine call_enumerate_str fun h' he hit hsz hk => wpAny_pyIter_enum he ?_
  refine ⟨s1.heap.objs.size + 1, [s1.heap.objs.size + 1, s1.heap.objs.size], _, _, H1, rfl, I1.kept (t' := s1.toks) hk, turn_et (s1.heap.objs.size + 1) s1.heap.objs.size z t, ⟨⟨⟨.none, he⟩, hit⟩, Nat.succ_ne_self _, Nat.zero_le _⟩, fun b hb => ?_, q⟩
  have hle : s1.heap.objs.size ≤ b := by
    rcases List.mem_cons.mp hb with rfl | hb
    · exact Nat.le_succ _
    · rw [List.mem_singleton.mp hb]
      exact Nat.le_refl _
  exact I1.fpOk hle (I1.hok.fresh hle)
theorem walk_et {z : Str} : Walk (Iet z) z.cps.size (fun _ => True) (fun i H v H' => ∃ T c, v = .ref T ∧ H T = none ∧ z.cps[i]? = some c ∧ H' = upd H T (.tup [.int (i : Nat), .str ⟨#[c]⟩])) :=
  ⟨fun _ _ hi _ => hi, fun _ _ => Nat.le_refl _, fun _ _ _ _ _ _ y => y⟩
end Gk
namespace Gk
open PySem PySem.Spec PyProof.Rows L2
/-! ### the box of draws -/
def Box (m : Nat) (H : Hp) (b : Addr) : Prop := ∃ x y s : Int, H b = some (.lst [.int x, .int y, .int s]) ∧ 0 ≤ s ∧ s ≤ m
theorem Box.up {m n : Nat} {H : Hp} {b : Addr} (h : Box m H b) (hn : m ≤ n) : Box n H b := by
  obtain ⟨x, y, s, e, h0, h1⟩ := h
  exact ⟨x, y, s, e, h0, by omega⟩
/-- all but the box is as it was -/
def But (b : Addr) (H H' : Hp) : Prop := ∀ a o, a ≠ b → H a = some o → H' a = some o
theorem But.refl (b : Addr) (H : Hp) : But b H H := fun _ _ _ h => h
theorem But.trans {b : Addr} {H H1 H2 : Hp} (x : But b H H1) (y : But b H1 H2) : But b H H2 := fun a o n h => y a o n (x a o n h)
theorem But.set {b : Addr} {H : Hp} {o : HO} : But b H (upd H b o) := fun a u n h => by rw [upd_ne n]; exact h
theorem But.new {b p : Addr} {H : Hp} {o : HO} (h : H p = none) : But b H (upd H p o) := fun a u _ e => by rw [upd_ne (ne_of_none e h)]; exact e
theorem But.of_same {b : Addr} {H H' : Hp} (h : Same H H') : But b H H' := fun a o _ e => h a o e
theorem same_new {H : Hp} {p : Addr} {o : HO} (h : H p = none) : Same H (upd H p o) := fun a u e => by rw [upd_ne (ne_of_none e h)]; exact e
theorem Box.same {m : Nat} {H H' : Hp} {b : Addr} (h : Box m H b) (s : Same H H') : Box m H' b := by
  obtain ⟨x, y, z, e, r⟩ := h
  exact ⟨x, y, z, s _ _ e, r⟩
theorem Box.ne {m : Nat} {H : Hp} {b p : Addr} (h : Box m H b) (hp : H p = none) : b ≠ p := by
  obtain ⟨x, y, z, e, r⟩ := h
  exact ne_of_none e hp
theorem But.seqL {b : Addr} {K : PySem.W.Frag} {H H' : Hp} {a : Addr} {xs : List V} (e : But b H H') (n : a ≠ b) (h : SqL K H a xs) : SqL K H' a xs := by
  rcases h with (h | ⟨o, h⟩) | h
  · exact .inl (.inl (e _ _ n h))
  · exact .inl (.inr ⟨o, e _ _ n h⟩)
  · exact .inr h
theorem But.seqT {b : Addr} {K : PySem.W.Frag} {H H' : Hp} {a : Addr} {xs : List V} (e : But b H H') (n : a ≠ b) (h : SqT K H a xs) : SqT K H' a xs := by
  rcases h with (h | ⟨o, h⟩) | h
  · exact .inl (.inl (e _ _ n h))
  · exact .inl (.inr ⟨o, e _ _ n h⟩)
  · exact .inr h
theorem Same.seqT {K : PySem.W.Frag} {H H' : Hp} {a : Addr} {xs : List V} (e : Same H H') (h : SqT K H a xs) : SqT K H' a xs := by
  rcases h with (h | ⟨o, h⟩) | h
  · exact .inl (.inl (e _ _ h))
  · exact .inl (.inr ⟨o, e _ _ h⟩)
  · exact .inr h
/-- what is read at an address that is not the box's -/
theorem box_not_tup {m : Nat} {K : PySem.W.Frag} {H : Hp} {b a : Addr} (h : Box m H b) {xs : List V} (t : H a = some (.tup xs)) : a ≠ b := by
  obtain ⟨x, y, z, e, r⟩ := h
  exact ne_of t e (fun q => HO.noConfusion q)

/-! ### defs with their names -/
structure Dfn (P : Program) (w : World) (K : PySem.W.Frag) (mg : Str → Option Value) (base : Heap) (k : Nat) (x : Str) (ps : List Str) (sp : Sp) : Prop where
  ex : ∃ (f : Addr) (fd : FuncData), FnOk P w K mg base L2.CX0 k f fd ps sp ∧ mg x = some (.ref f) ∧ PySem.W.keepIn K (.ref f) = true ∧ Binds K fd ps []
/-- .. where nothing is being shown -/
structure DfG (P : Program) (w : World) (K : PySem.W.Frag) (mg : Str → Option Value) (base : Heap) (k : Nat) (x : Str) (ps : List Str) (sp : Sp) : Prop where
  ex : ∃ (f : Addr) (fd : FuncData), FnG P w K mg base k f fd ps sp ∧ mg x = some (.ref f) ∧ PySem.W.keepIn K (.ref f) = true ∧ Binds K fd ps []
section
variable {X : Cx} {k j : Nat} {x : Str} {ps : List Str} {sp : Sp} {p pos : Pos} {e : Expr} {es : List Expr} {t : TA}
theorem pe_d (D : Dfn X.prog X.w X.K X.mg X.base k x ps sp) (hr : Room j X.A) (hk : k ≤ j) (hg : Gl X x) (ha : PA X (e :: es) t)
    (hdb : (x == ("__debug__" : Str)) = false := by decide) (he : starEach (e :: es) X.env = (false, eval e X.env) :: starEach es X.env := by rfl)
    (hpl : (backTo pos (starEach es X.env)).any (·.1) = false := by rfl) : PE X (.Call (.Name x p) (e :: es) [] pos) (tCall sp [] L2.E0 t) := by
  obtain ⟨f, fd, F, m, kp, b⟩ := D.ex
  exact L2.pe_call (F.mono hk) hr hg m kp b .nil L2.pass0 ha hdb he hpl
theorem pe_dg (D : DfG X.prog X.w X.K X.mg X.base k x ps sp) (hr : Room j X.A) (hd : X.A.guards = some []) (hk : k ≤ j) (hg : Gl X x) (ha : PA X (e :: es) t)
    (hdb : (x == ("__debug__" : Str)) = false := by decide) (he : starEach (e :: es) X.env = (false, eval e X.env) :: starEach es X.env := by rfl)
    (hpl : (backTo pos (starEach es X.env)).any (·.1) = false := by rfl) : PE X (.Call (.Name x p) (e :: es) [] pos) (tG sp t) := by
  obtain ⟨f, fd, F, m, kp, b⟩ := D.ex
  exact pe_g (F.weak hk) hr hd hg m kp b ha hdb he hpl
end
/-- an expression whose ways meet -/
def tMid (t : TE) : TE := fun σ H Q => ∃ Mid : V → Hp → Prop, t σ H Mid ∧ ∀ v H', Mid v H' → Q v H'
theorem pe_mid {X : Cx} {e : Expr} {t : TE} (h : PE X e t) : PE X e (tMid t) :=
  ⟨fun pins s σ H Q I ⟨M, h1, h2⟩ => thn (h.run pins s σ H M I h1) fun u s1 ⟨v, H1, I1, r, q⟩ => ⟨v, H1, I1, r, h2 v H1 q⟩⟩
/-- a test whose ways meet -/
def tMidT (t : TT) : TT := fun σ H Q => ∃ Mid : Bool → Hp → Prop, t σ H Mid ∧ ∀ b H', Mid b H' → Q b H'
/-- a def called by keywords alone -/
structure DfK (P : Program) (w : World) (K : PySem.W.Frag) (mg : Str → Option Value) (base : Heap) (k : Nat) (x : Str) (ps ks : List Str) (gV : List V → List V) (sp : Sp) : Prop where
  ex : ∃ (f : Addr) (fd : FuncData) (g : List Value → List Value → List Value), FnOk P w K mg base L2.CX0 k f fd ps sp ∧ mg x = some (.ref f) ∧ PySem.W.keepIn K (.ref f) = true ∧ KBn K fd ps 0 ks g (fun _ zs => gV zs)
theorem pe_dk {X : Cx} {k j : Nat} {x : Str} {ps ks : List Str} {sp : Sp} {gV : List V → List V} {p pos : Pos} {kws : List Keyword} {tk : TA} (D : DfK X.prog X.w X.K X.mg X.base k x ps ks gV sp) (hr : Room j X.A) (hk : k ≤ j) (hg : Gl X x)
    (hkw : PK X kws tk) (hall : (backToKw pos (keywordEach kws X.env)).all (·.1.isSome) = true := by rfl) (hks : (backToKw pos (keywordEach kws X.env)).filterMap (·.1) = ks := by rfl) (hdb : (x == ("__debug__" : Str)) = false := by decide)
    (hpl : ((backTo pos (starEach [] X.env)).any (·.1) || (backToKw pos (keywordEach kws X.env)).any (·.1.isNone)) = false := by rfl) :
    PE X (.Call (.Name x p) [] kws pos) (tKw ks.length gV sp tk) := by
  obtain ⟨f, fd, g, F, m, kp, b⟩ := D.ex
  exact pe_kw (F.mono hk) hr hg m kp b hkw hall hks hdb hpl
/-- text * n -/
theorem op_mulS {X : Cx} : OpR X (binaryOp .Mult) (fun x y H Q => ∃ z n, x = .str z ∧ y = .int n ∧ MulOk z n ∧ Q (.str (Txt.mul z n)) H) := by
  intro pins s σ H x y v u Q I rx ry h
  obtain ⟨z, n, rfl, rfl, hc, q⟩ := h
  obtain ⟨t, rfl⟩ := rx
  obtain ⟨t', rfl⟩ := ry
  exact SB.mul hc fun t2 k => ⟨.str _, H, I.tok _, ⟨_, rfl⟩, q⟩
/-- data that may be shown -/
structure Fine (d : PyData) : Prop where
  a : d.showable = true
  b : d.hasDict = false
  c : d.depth ≤ 40
  e : d.shown.length ≤ sizeLine
theorem Fine.of {d : PyData} (B : Nat) (hB : 8 ≤ B) (hB2 : B ≤ 1000) (a : d.showable = true) (b : d.hasDict = false) (c : d.depth ≤ 40) (l : d.leavesShort B = true) (w : d.weight ≤ 10000) : Fine d :=
  ⟨a, b, c, by
    have h := PyData.shown_le B hB d l
    have h2 : (B + 2) * d.weight ≤ 1002 * 10000 := Nat.mul_le_mul (by omega) w
    have h3 : sizeLine = 16777216 := sizeLine_eq
    omega⟩
theorem call_reprF {X : Cx} {k : Nat} (hr : Room k X.A) (hg : X.A.guards = some []) : CallR X (.builtin "repr") (fun xs H Q => ∃ v d, xs = [v] ∧ Dp X.K H v d ∧ Fine d ∧ Q (.str d.shown) H) :=
  fun pins s σ H xs us Q I r ⟨v, d, h1, h2, h3, q⟩ => call_reprD hr hg pins s σ H xs us Q I r ⟨v, d, h1, h2, h3.a, h3.b, h3.c, h3.e, q⟩
theorem fine_ints {a b : Int} (ha : a.natAbs < 10 ^ 20) (hb : b.natAbs < 10 ^ 20) : Fine (.list [.int a, .int b]) := by
  have len : ∀ c : Int, c.natAbs < 10 ^ 20 → (PyData.shown (.int c)).length ≤ 21 := fun c hc => by
    have h := int_text_length_le10 (a := c) (k := 20) (by decide) hc
    show (Str.ofString (toString c)).length ≤ 21
    rw [PySem.ofString_length]
    exact h
  have la := len a ha
  have lb := len b hb
  have ga : a.natAbs.log2 < 1920 := PySem.Flt.log2_lt_of (by decide) (Nat.lt_of_lt_of_le ha (by decide))
  have gb : b.natAbs.log2 < 1920 := PySem.Flt.log2_lt_of (by decide) (Nat.lt_of_lt_of_le hb (by decide))
  refine Fine.of 21 (by decide) (by decide) ?_ rfl (by simp [PyData.depth, PyData.depthAll]) ?_ (by simp only [PyData.weight, PyData.weightAll]; split <;> split <;> omega)
  · simp only [PyData.showable, PyData.showableAll, ga, gb, decide_true, Bool.and_self]
  · simp only [PyData.leavesShort, PyData.leavesShortAll, la, lb, decide_true, Bool.and_self]
/-- a promise that does not speak of what is raised, as a value -/
theorem sqL_at {K : PySem.W.Frag} {H : Hp} {a : Addr} {xs : List V} (h : H a = some (.lst xs)) : SqL K H a xs := SqL.of h
end Gk
namespace Gk
open PySem PySem.Spec PyProof.Rows L2
/-- the caller shows nothing -/
theorem caller_guards : callerA.guards = some [] := rfl
/-- the law's call, its promise told where nothing is being shown -/
theorem callG {P : Program} {w : World} {K : PySem.W.Frag} {mg mb : Str → Option Value} {k : Nat} {fa a : Addr} {fd : FuncData} {x : Str} {sp : Sp} {s1 : Shared} {vs : List Value} {ns : List Int}
    (KX : K.In s1.heap) (n1 : s1.heap.Ns mainGlobals mg) (n2 : s1.heap.Ns builtinsNs mb) (n3 : ∀ x : Str, x ≠ "__name__" → mb x = bootBuiltins x) (lim : s1.heap.NoLimit) (gen : s1.gens = #[])
    (at_ : s1.heap.get? a = some { cls := .type "list", data := .seq vs.toArray }) (iss : IntsAre vs ns) (few : ns.length ≤ sizeLine) (room : Room k callerA)
    (F : ∀ base : Heap, K.In base → base.Ns mainGlobals mg → FnG P w K mg base k fa fd [x] sp) (binds : ∀ (s : Shared) (u : Value), BindsTo s fd ⟨[u], []⟩ [(x, u)])
    (want : ∀ H : Hp, Only H → SqL K H a (ns.map V.int) → sp [.ref a] H (fun v _ => v = .bl true) L2.E0) :
    codeAny (model P w) callerA (.call (.ref fa) ⟨[.ref a], []⟩) (fun r s' => r = .ok (.ret (.bool true)) ∧ OldK s1.heap s'.heap ∧ s'.os = s1.os ∧ AllBare s'.gens) s1 := by
  have rv := L2.vals_ints iss
  have go : ∀ H : Hp, Only H → SqL K H a (ns.map V.int) → HOk P w H s1.heap → (∀ b, H b ≠ none → b = a) → (H a ≠ none → K.lookup a = none) →
      codeAny (model P w) callerA (.call (.ref fa) ⟨[.ref a], []⟩) (fun r s' => r = .ok (.ret (.bool true)) ∧ OldK s1.heap s'.heap ∧ s'.os = s1.os ∧ AllBare s'.gens) s1 := by
    intro H only there held alone apart
    have isA : ∀ {b : Addr} {u : HO}, H b = some u → b = a := fun {b u} e => alone b (fun z => by rw [e] at z; cases z)
    have free : ∀ {b : Addr} {o : Obj} {es : Array DictEntry} {ep : Nat}, s1.heap.get? b = some o → o.data = .dict es ep → H b = none := by
      intro b o es ep e d
      cases q : H b with
      | none => rfl
      | some u =>
        obtain rfl := isA q
        rw [at_] at e
        cases e
        exact Data.noConfusion (show Data.seq vs.toArray _ = Data.dict es ep from d)
    have nsB : ∀ {b : Addr} {m : Str → Option Value}, s1.heap.Ns b m → (hidT s1.heap H).Ns b m := by
      intro b m h
      obtain ⟨o, es, ep, e, d, r⟩ := h
      exact ⟨o, es, ep, hidT_get e (free e d), d, r⟩
    have KB : K.In (hidT s1.heap H) := by
      intro b o e
      refine hidT_get (KX b o e) ?_
      cases q : H b with
      | none => rfl
      | some u =>
        obtain rfl := isA q
        have z := apart (fun z => by rw [q] at z; cases z)
        rw [z] at e
        cases e
    obtain ⟨mc, c1, c2⟩ := lim
    have en : Env0 P w K mg (hidT s1.heap H) callerA [] s1 H :=
      { frames := rfl, mod := ⟨KB, nsB n1, ⟨mb, nsB n2, n3⟩, ⟨mc, nsB c1, c2⟩⟩, bs := fun b o e => of_hidT e, bsz := Nat.le_of_eq (hidT_size _ _), funs := trivial,
        frf := fun b hb => (nomatch (show b ∈ ([] : List Addr) from hb)), hok := held, bare := .of_eq gen }
    refine codeAny_mono ((F _ KB (nsB n1)).go callerA [] s1 H ⟨[.ref a], []⟩ [.ref a] [.ref a] _ room caller_guards en (binds s1 (.ref a)) (.cons rfl .nil) (want H only there)) fun r s' res => ?_
    match r, res with
    | .error _, res => exact False.elim res
    | .ok .next, res => exact False.elim res
    | .ok .brk, res => exact False.elim res
    | .ok .cont, res => exact False.elim res
    | .ok (.ret u), res =>
      obtain ⟨v, H1, os, bare, un, held1, rel, qv⟩ := res
      have qv : v = .bl true := qv
      subst qv
      obtain rfl : u = Value.bool true := rel
      refine ⟨rfl, OldK.of_keep fun b o e => ?_, os, bare⟩
      cases q : H b with
      | none => exact un.keep b o e q (fun z => (nomatch (show b ∈ ([] : List Addr) from z))) (fun z => (nomatch z))
      | some u =>
        rcases only b with z | ⟨ob, xs, z⟩
        · rw [q] at z
          cases z
        · have f1 := (held b _ z).1
          have f2 := (held1 b _ (un.frzs b ob _ z)).1
          rw [e] at f1
          cases f1
          exact f2
  cases kl : K.lookup a with
  | some o =>
    have e := KX a o kl
    rw [at_] at e
    cases e
    exact go (fun _ => none) (fun _ => .inl rfl) (.inr ⟨_, vs.toArray, _, kl, rfl, rfl, rfl, by rw [List.size_toArray, iss.length]; exact few, by simpa using rv⟩) (fun b u z => (nomatch (show (none : Option HO) = some u from z))) (fun b z => absurd rfl z) (fun z => absurd rfl z)
  | none =>
    refine go (fun b => if b = a then some (.frz { cls := .type "list", data := .seq vs.toArray } (.lst (ns.map V.int))) else none) ?_ (.inl (.inr ⟨_, if_pos rfl⟩)) ?_ ?_ (fun _ => kl)
    · intro b
      by_cases h : b = a
      · exact .inr ⟨_, _, if_pos h⟩
      · exact .inl (if_neg h)
    · intro b u z
      by_cases h : b = a
      · obtain rfl := Option.some.inj ((if_pos h).symm.trans z)
        subst h
        exact ⟨at_, by rw [List.length_map]; exact few, vs, _, rv, at_⟩
      · exact (nomatch ((if_neg h).symm.trans z))
    · intro b z
      by_cases h : b = a
      · exact h
      · exact absurd (if_neg h) z

/-- the goal behind the head -/
theorem walkG {l : PySem.W.OpenLaw} {n k : Nat} {q : Program} {loose : List Str} {XP : (Str → Option Value) → Heap → Prop} {YP : World → Heap → Prop} {d : DefRec} {K : Params → PySem.W.Frag} {sp : World → Sp} {x : Str}
    (h1 : l.most = some n) (h2 : n ≤ sizeLine) (h3 : d.params.defaults = []) (h4 : Room k callerA) (h5 : ∀ (w : World) (h : Heap), YP w h → (K w.params).In h)
    (F : ∀ (w : World) (mg : Str → Option Value) (fa : Addr) (h : Heap), (K w.params).In h → h.Ns mainGlobals mg → mg d.name = some (.ref fa) →
      ∃ fd : FuncData, (∀ (s : Shared) (u : Value), BindsTo s fd ⟨[u], []⟩ [(x, u)]) ∧ ∀ base : Heap, (K w.params).In base → base.Ns mainGlobals mg → FnG l.prog w (K w.params) mg base k fa fd [x] (sp w))
    (h6 : ∀ (w : World) (H : Hp) (a : Addr) (ns : List Int), ns.length ≤ n → Only H → SqL (K w.params) H a (ns.map V.int) → sp w [.ref a] H (fun v _ => v = .bl true) L2.E0) :
    PySem.W.WalkO q loose XP YP l.row.toRowW d [] (fun f vs => PySem.call f vs) :=
  Att.attach_call h1 h3 fun w s0 s1 mg mb fa o pm cd doc a vs ns G Y ho hd hcd hmg obj iss len gen => by
    obtain ⟨fd, hb, hF⟩ := F w mg fa _ (h5 w _ Y) G.T.g hmg
    exact callG (h5 w _ Y) G.T.g G.T.b G.T.builtins G.T.nolimit gen obj iss (Nat.le_trans len h2) h4 hF hb (fun H hO hS => h6 w H a ns len hO hS)
end Gk
namespace Fold
/-- a number by its digits, the lowest one first -/
def num : List Bool → Nat
  | [] => 0
  | b :: r => b.toNat + 2 * num r
/-- the digits at their places, modulo w -/
def zig (w : Nat) : Nat → List Bool → Nat
  | _, [] => 0
  | k, b :: r => (if b then 2 ^ (k % w) else 0) ^^^ zig w (k + 1) r
/-- the pieces of a number -/
def pie (w : Nat) : Nat → Nat → Nat
  | 0, _ => 0
  | f + 1, n => (n % 2 ^ w) ^^^ pie w f (n / 2 ^ w)

theorem num_lt : ∀ l : List Bool, num l < 2 ^ l.length
  | [] => by decide
  | b :: r => by
    have h := num_lt r
    have hb : b.toNat ≤ 1 := by cases b <;> decide
    rw [List.length_cons, Nat.pow_succ]
    show b.toNat + 2 * num r < _
    omega
theorem zig_app (w : Nat) : ∀ (a b : List Bool) (k : Nat), zig w k (a ++ b) = zig w k a ^^^ zig w (k + a.length) b
  | [], b, k => by simp [zig]
  | c :: a, b, k => by
    show (if c then 2 ^ (k % w) else 0) ^^^ zig w (k + 1) (a ++ b) = ((if c then 2 ^ (k % w) else 0) ^^^ zig w (k + 1) a) ^^^ zig w (k + (a.length + 1)) b
    rw [zig_app w a b (k + 1), Nat.xor_assoc, show k + 1 + a.length = k + (a.length + 1) by omega]
theorem zig_shift (w : Nat) (hw : 0 < w) : ∀ (l : List Bool) (k : Nat), zig w (k + w) l = zig w k l
  | [], _ => rfl
  | b :: r, k => by
    show (if b then 2 ^ ((k + w) % w) else 0) ^^^ zig w (k + w + 1) r = (if b then 2 ^ (k % w) else 0) ^^^ zig w (k + 1) r
    rw [Nat.add_mod_right, show k + w + 1 = (k + 1) + w by omega, zig_shift w hw r (k + 1)]
/-- few digits: the number itself -/
theorem zig_few (w : Nat) : ∀ (l : List Bool) (k : Nat), k + l.length ≤ w → zig w k l = 2 ^ k * num l
  | [], k, _ => by simp [zig, num]
  | b :: r, k, h => by
    rw [List.length_cons] at h
    have ih := zig_few w r (k + 1) (by omega)
    show (if b then 2 ^ (k % w) else 0) ^^^ zig w (k + 1) r = 2 ^ k * (b.toNat + 2 * num r)
    rw [ih, Nat.mod_eq_of_lt (show k < w by omega)]
    cases b with
    | false =>
      show 0 ^^^ 2 ^ (k + 1) * num r = 2 ^ k * (0 + 2 * num r)
      rw [Nat.zero_xor, Nat.zero_add, Nat.pow_succ, Nat.mul_assoc]
    | true =>
      show 2 ^ k ^^^ 2 ^ (k + 1) * num r = 2 ^ k * (1 + 2 * num r)
      have e1 : 2 ^ (k + 1) * num r = 2 ^ k * (2 * num r) := by rw [Nat.pow_succ, Nat.mul_assoc]
      rw [e1, Nat.mul_add, Nat.mul_one]
      apply Nat.eq_of_testBit_eq
      intro j
      have e2 : 2 ^ k + 2 ^ k * (2 * num r) = 2 ^ k * (1 + 2 * num r) + 0 := by rw [Nat.mul_add, Nat.mul_one, Nat.add_zero]
      rw [e2, Nat.testBit_xor, Nat.testBit_two_pow_mul_add _ (Nat.two_pow_pos k)]
      have e3 : 2 ^ k * (2 * num r) = 2 ^ k * (2 * num r) + 0 := (Nat.add_zero _).symm
      rw [e3, Nat.testBit_two_pow_mul_add _ (Nat.two_pow_pos k)]
      by_cases hj : j < k
      · rw [if_pos hj, if_pos hj, Nat.testBit_two_pow]
        have : ¬ k = j := by omega
        simp [this]
      · rw [if_neg hj, if_neg hj, Nat.testBit_two_pow]
        by_cases e : k = j
        · subst e
          rw [Nat.sub_self]
          simp [Nat.testBit_zero, Nat.add_mod]
        · obtain ⟨m, hm⟩ : ∃ m, j - k = m + 1 := ⟨j - k - 1, by omega⟩
          rw [hm, Nat.testBit_succ, Nat.testBit_succ]
          have a1 : (2 * num r) / 2 = num r := by omega
          have a2 : (1 + 2 * num r) / 2 = num r := by omega
          rw [a1, a2]
          simp [e]
theorem num_app : ∀ a b : List Bool, num (a ++ b) = num a + 2 ^ a.length * num b
  | [], b => by simp [num]
  | c :: a, b => by
    show c.toNat + 2 * num (a ++ b) = c.toNat + 2 * num a + 2 ^ (a.length + 1) * num b
    rw [num_app a b, Nat.pow_succ, Nat.mul_add, Nat.add_assoc, Nat.mul_comm (2 ^ a.length) 2, Nat.mul_assoc]
theorem pie_zig (w : Nat) (hw : 0 < w) : ∀ (f : Nat) (l : List Bool), l.length ≤ f → pie w f (num l) = zig w 0 l
  | 0, l, h => by
    cases l with
    | nil => rfl
    | cons b r => simp at h
  | f + 1, l, h => by
    show (num l % 2 ^ w) ^^^ pie w f (num l / 2 ^ w) = _
    by_cases hl : l.length ≤ w
    · have h1 : num l < 2 ^ w := Nat.lt_of_lt_of_le (num_lt l) (Nat.pow_le_pow_right (by decide) hl)
      rw [Nat.mod_eq_of_lt h1, Nat.div_eq_of_lt h1, zig_few w l 0 (by omega), Nat.pow_zero, Nat.one_mul]
      have := pie_zig w hw f [] (Nat.zero_le _)
      rw [show pie w f 0 = 0 from this, Nat.xor_zero]
    · have e : l = l.take w ++ l.drop w := (List.take_append_drop w l).symm
      have ht : (l.take w).length = w := by rw [List.length_take]; omega
      have hn : num l = num (l.take w) + 2 ^ w * num (l.drop w) := by
        conv => lhs; rw [e, num_app, ht]
      have h1 : num (l.take w) < 2 ^ w := by have := num_lt (l.take w); rwa [ht] at this
      have hm : num l % 2 ^ w = num (l.take w) := by rw [hn, Nat.add_mul_mod_self_left, Nat.mod_eq_of_lt h1]
      have hd : num l / 2 ^ w = num (l.drop w) := by rw [hn, Nat.add_mul_div_left _ _ (Nat.two_pow_pos w), Nat.div_eq_of_lt h1, Nat.zero_add]
      rw [hm, hd, pie_zig w hw f (l.drop w) (by rw [List.length_drop]; omega)]
      conv => rhs; rw [e, zig_app, ht, zig_shift w hw (l.drop w) 0, zig_few w (l.take w) 0 (by omega), Nat.pow_zero, Nat.one_mul]
theorem pie_zero (w : Nat) : ∀ f, pie w f 0 = 0
  | 0 => rfl
  | f + 1 => by
    show 0 % 2 ^ w ^^^ pie w f (0 / 2 ^ w) = 0
    rw [Nat.zero_mod, Nat.zero_div, pie_zero w f]
    rfl
theorem pie_lt (w : Nat) : ∀ f n, pie w f n < 2 ^ w
  | 0, _ => Nat.two_pow_pos w
  | f + 1, n => Nat.xor_lt_two_pow (Nat.mod_lt _ (Nat.two_pow_pos w)) (pie_lt w f _)
theorem zig_lt (w : Nat) (hw : 0 < w) : ∀ (l : List Bool) k, zig w k l < 2 ^ w
  | [], _ => Nat.two_pow_pos w
  | b :: r, k => Nat.xor_lt_two_pow (by
      cases b with
      | false => exact Nat.two_pow_pos w
      | true => exact Nat.pow_lt_pow_right (by decide) (Nat.mod_lt _ hw)) (zig_lt w hw r (k + 1))
/-- the sum of the powers at the places where a number below 2 ^ w has a digit 1 -/
def ones (x : Nat) : Nat → Nat
  | 0 => 0
  | w + 1 => ones x w + (if x.testBit w then 2 ^ w else 0)
theorem ones_eq (x : Nat) : ∀ w, ones x w = x % 2 ^ w
  | 0 => by simp [ones, Nat.mod_one]
  | w + 1 => by
    show ones x w + (if x.testBit w then 2 ^ w else 0) = _
    rw [ones_eq x w, Nat.mod_pow_succ, Nat.testBit_eq_decide_div_mod_eq]
    have h : x / 2 ^ w % 2 = 0 ∨ x / 2 ^ w % 2 = 1 := by omega
    rcases h with h | h <;> simp [h]
end Fold
namespace Pf
open PySem PySem.Spec PyProof.Rows L2 Gk
def topS (i : Nat) : Stmt := PySem.Challenge.pw_pastenough_k09_folded_histories.main.body.getD i (.Pass ⟨0, 0, 0, 0⟩)
abbrev sTake : Stmt := topS 5
abbrev sOf : Stmt := topS 6
abbrev sBox : Stmt := topS 4
theorem scOf : FnScope ["_law_box_here", "_law_some"] ["_law_box_here", "_law_some"] (defScope sOf) := ⟨rfl, rfl, rfl, by decide +kernel, rfl, by decide +kernel, by decide +kernel⟩
theorem scBox : FnScope ["_law_script", "_law_k", "_law_digits", "_law_own"] ["_law_script", "_law_k"] (defScope sBox) := ⟨rfl, rfl, rfl, by decide +kernel, rfl, by decide +kernel, by decide +kernel⟩
theorem scTake : FnScope ["_law_box_here", "_law_many", "_law_digit", "_law_drawn"] ["_law_box_here", "_law_many"] (defScope sTake) := ⟨rfl, rfl, rfl, by decide +kernel, rfl, by decide +kernel, by decide +kernel⟩
def spTake : Sp := fun vs H Q _ => ∃ (b : Addr) (n : Int) (m : Nat), vs = [.ref b, .int n] ∧ 0 < n ∧ n < 1073741824 ∧ Box m H b ∧ m < 1000000000 ∧
  ∀ (d : Int) (H' : Hp), 0 ≤ d → d < n → But b H H' → Box (m + 1) H' b → (∀ p, p ≠ b → H' p = H p) → Q (.int d) H'

section
variable {P : Program} {w : World} {K : PySem.W.Frag} {mg : Str → Option Value} {base : Heap}
theorem ok_take {f : Addr} {fd : FuncData} {k : Nat} (F : L2.Fun K "_law_take" "_law_take" sTake f fd) : FnOk P w K mg base L2.CX0 (k + 1) f fd ["_law_box_here", "_law_many"] spTake := by
  refine F.ok scTake (fun vs H Q E h => ?_) (fun cdv A outer s H vs Q E hr h => ?_)
  · obtain ⟨b, n, m, rfl, _⟩ := h
    rfl
  · obtain ⟨b, n, m, rfl, n0, n1, ⟨x, y, z, hb, z0, z1⟩, hm, q⟩ := h
    refine ⟨_, pss_cons (ps_if (pt_cmpR op_gt (pe_ix ix_list (pv 0) pe_int (fun _ _ => rfl)) pe_int (nomark _))
        (pss_cons (ps_set (i := 2) scTake.nd rfl (.inl rfl) (pe_op op_mod (pe_ix ix_list (pv 0) pe_int (fun _ _ => rfl)) (pv 1)))
        (pss_cons (ps_asg (pe_op op_fdiv (pe_ix ix_list (pv 0) pe_int (fun _ _ => rfl)) (pv 1)) (pg_sub (pv 0) pe_int set_list))
        (pss_one (ps_ret (pv 2))))) pss_nil)
      (pss_cons (ps_asg (pe_op op_add (pe_ix ix_list (pv 0) pe_int (fun _ _ => rfl)) pe_int) (pg_sub (pv 0) pe_int set_list))
      (pss_cons (ps_set (i := 3) scTake.nd rfl (.inl rfl) (pe_op op_mod (pe_op op_mul (pe_op op_add (pe_op op_add (pe_ix ix_list (pv 0) pe_int (fun _ _ => rfl))
          (pe_op op_mul (pe_op op_mul pe_int (pe_ix ix_list (pv 0) pe_int (fun _ _ => rfl))) (pe_ix ix_list (pv 0) pe_int (fun _ _ => rfl)))) pe_int) pe_int) pe_int))
      (pss_cons (ps_set (i := 3) scTake.nd rfl (.inl rfl) (pe_op op_mod (pe_op op_mul (pv 3) (pe_op op_add (pe_op op_mod (pv 3) pe_int) (pe_op op_mul pe_int (pe_ix ix_list (pv 0) pe_int (fun _ _ => rfl))))) pe_int))
      (pss_one (ps_ret (pe_op op_mod (pe_op op_add (pe_op op_fdiv (pv 3) pe_int) (pe_op op_fdiv (pv 3) pe_int)) (pv 1))))))), ?_⟩
    refine ⟨.ref b, rfl, b, _, 0, .int x, rfl, rfl, SqL.of hb, rfl, x, 0, rfl, rfl, _, rfl, ite2 (fun e => ?_) (fun e => ?_)⟩
    · refine ⟨.ref b, rfl, b, _, 0, .int x, rfl, rfl, SqL.of hb, rfl, .int n, rfl, x, n, rfl, rfl, n0, ?_⟩
      refine ⟨.ref b, rfl, b, _, 0, .int x, rfl, rfl, SqL.of hb, rfl, .int n, rfl, x, n, rfl, rfl, ⟨n0, n1⟩, ?_⟩
      refine ⟨.ref b, rfl, b, _, _, 0, rfl, rfl, hb, rfl, ?_⟩
      refine ⟨.int (x % n), rfl, q _ _ (Int.emod_nonneg _ (by omega)) (Int.emod_lt_of_pos _ n0) But.set ⟨_, _, _, upd_same, z0, by omega⟩ fun p hp => upd_ne hp⟩
    · have hz : (z + 1 : Int) < 2 ^ 64 := by omega
      refine ⟨.ref b, rfl, b, _, 2, .int z, rfl, rfl, SqL.of hb, rfl, z, 1, rfl, rfl, ?_⟩
      refine ⟨.ref b, rfl, b, _, _, 2, rfl, rfl, hb, rfl, ?_⟩
      have h1 : upd H b (.lst [.int x, .int y, .int (z + 1)]) b = some (.lst [.int x, .int y, .int (z + 1)]) := upd_same
      refine ⟨.ref b, rfl, b, _, 1, .int y, rfl, rfl, SqL.of h1, rfl, .ref b, rfl, b, _, 2, .int (z + 1), rfl, rfl, SqL.of h1, rfl, _, _, rfl, rfl, .inl ⟨by decide, by decide⟩,
        .ref b, rfl, b, _, 2, .int (z + 1), rfl, rfl, SqL.of h1, rfl, _, _, rfl, rfl, .inr ⟨by omega, hz⟩, _, _, rfl, rfl, _, _, rfl, rfl, _, _, rfl, rfl, .inr ⟨by decide, by decide⟩, _, _, rfl, rfl, by show (0 : Int) < 2305843009213693921; decide, ?_⟩
      refine ⟨_, rfl, _, rfl, _, _, rfl, rfl, by show (0 : Int) < 1000033; decide, .ref b, rfl, b, _, 2, .int (z + 1), rfl, rfl, SqL.of h1, rfl, _, _, rfl, rfl, .inl ⟨by decide, by decide⟩, _, _, rfl, rfl, _, _, rfl, rfl,
        .inl ⟨Int.lt_of_lt_of_le (by decide) (Int.emod_nonneg _ (by decide)), Int.lt_trans (Int.emod_lt_of_pos _ (by decide)) (by decide)⟩, _, _, rfl, rfl, by show (0 : Int) < 2305843009213693907; decide, ?_⟩
      refine ⟨_, rfl, _, _, rfl, rfl, ⟨by decide, by decide⟩, _, rfl, _, _, rfl, rfl, ⟨by decide, by decide⟩, _, _, rfl, rfl, .int n, rfl, _, n, rfl, rfl, n0, ?_⟩
      exact q _ _ (Int.emod_nonneg _ (by omega)) (Int.emod_lt_of_pos _ n0) But.set ⟨_, _, _, h1, by omega, by omega⟩ fun p hp => upd_ne hp
def spOf (K : PySem.W.Frag) : Sp := fun vs H Q _ => ∃ (b a : Addr) (xs : List V) (m : Nat), vs = [.ref b, .ref a] ∧ SqL K H a xs ∧ a ≠ b ∧ 0 < xs.length ∧ xs.length ≤ 1000 ∧ Box m H b ∧ m < 1000000000 ∧
  ∀ (i : Nat) (v : V) (H' : Hp), xs[i]? = some v → But b H H' → Box (m + 1) H' b → (∀ p, p ≠ b → H' p = H p) → Q v H'
theorem ok_of {f : Addr} {fd : FuncData} {k : Nat} (D : Dfn P w K mg base k "_law_take" ["_law_box_here", "_law_many"] spTake) (ml : mg "len" = none)
    (F : L2.Fun K "_law_of" "_law_of" sOf f fd) : FnOk P w K mg base L2.CX0 (k + 1) f fd ["_law_box_here", "_law_some"] (spOf K) := by
  refine F.ok scOf (fun vs H Q E h => ?_) (fun cdv A outer s H vs Q E hr h => ?_)
  · obtain ⟨b, a, xs, m, rfl, _⟩ := h
    rfl
  · obtain ⟨b, a, xs, m, rfl, hS, hne, hl, hl2, hb, hm, q⟩ := h
    refine ⟨_, pss_one (ps_ret (pe_ix ix_list (pv 1) (pe_d D hr (Nat.le_refl _) (by rfl) (pa_cons (pv 0) (pa_cons (pe_callB call_len_seq (by rfl) ml PySem.boot_len (pa_cons (pv 1) pa_nil)) pa_nil))) (fun _ _ => rfl))), ?_⟩
    refine ⟨.ref a, rfl, .ref b, rfl, .ref a, rfl, a, xs, rfl, .inl hS, b, _, m, rfl, by omega, by omega, hb, hm, fun d H' d0 d1 bt bx same => ?_⟩
    have hi : d.toNat < xs.length := by omega
    have g : xs[d.toNat]? = some xs[d.toNat] := List.getElem?_eq_getElem hi
    have ga : atI xs d = some xs[d.toNat] := by
      have := atI_nat g
      rwa [Int.toNat_of_nonneg d0] at this
    exact ⟨a, xs, d, _, rfl, rfl, bt.seqL hne hS, ga, q _ _ H' g bt bx same⟩
def spBox (K : PySem.W.Frag) : Sp := fun vs H Q _ => ∃ (a : Addr) (ns : List Int) (k : Int), vs = [.ref a, .int k] ∧ SqL K H a (ns.map V.int) ∧ ns.length ≤ 63 ∧ 0 ≤ k ∧ k ≤ 1000 ∧
  ∀ p x y, H p = none → Q (.ref p) (upd H p (.lst [.int x, .int y, .int 0]))
theorem flag_small (c : Bool) : -(2 ^ 64) < (if c = true then (1 : Int) else 0) ∧ (if c = true then (1 : Int) else 0) < 2 ^ 64 := by cases c <;> decide
theorem bits60 : CBigPow 10 60 := ⟨by decide, by decide +kernel⟩
theorem bits300 : CBigPow (10 ^ (60 : Int).toNat) 5 := ⟨by decide, by decide +kernel⟩
theorem ok_box {f : Addr} {fd : FuncData} (ml : mg "len" = none) (ma : mg "abs" = none) (mi : mg "int" = none)
    (F : L2.Fun K "_law_box" "_law_box" sBox f fd) : FnOk P w K mg base L2.CX0 1 f fd ["_law_script", "_law_k"] (spBox K) := by
  refine F.ok scBox (fun vs H Q E h => ?_) (fun cdv A outer s H vs Q E hr h => ?_)
  · obtain ⟨a, ns, k, rfl, _⟩ := h
    rfl
  · obtain ⟨a, ns, k, rfl, hS, hl, k0, k1, q⟩ := h
    refine ⟨_, C8.pss_cut (ps_set (i := 2) scBox.nd rfl (.inl rfl) (pe_ifExp (pt_cmpR op_lt (pv 1) (pe_callB call_len_seq (by rfl) ml PySem.boot_len (pa_cons (pv 0) pa_nil)) (nomark _))
        (pe_ix ix_list (pv 0) (pv 1) (fun _ _ => rfl)) (pe_op op_add (pe_op op_mul pe_int (pv 1)) pe_int)))
      (pss_cons (ps_set (i := 3) scBox.nd rfl (.inl rfl) (pe_op op_mul (pe_op op_mod (pe_callB call_abs (by rfl) ma (by decide +kernel) (pa_cons (pv 2) pa_nil)) (pe_op op_bigpow (pe_op op_bigpow pe_int pe_int) pe_int))
          (pe_callTy call_int1 (by rfl) mi (by decide +kernel) (pa_cons (pe_cmpR op_ge (pe_callB call_abs (by rfl) ma (by decide +kernel) (pa_cons (pv 2) pa_nil)) (pe_op op_bigpow pe_int pe_int) (nomark _)) pa_nil))))
      (pss_one (ps_ret (pe_lst (pa_cons (pv 3) (pa_cons (pe_op op_mod (pe_op op_add (pe_op op_add (pe_op op_mul (pe_op op_mod (pv 2) pe_int) pe_int) (pe_op op_mul (pe_op op_mul pe_int (pv 1)) (pv 1))) pe_int) pe_int) (pa_cons pe_int pa_nil))))))), ?_⟩
    refine ⟨fun σ H' => H' = H ∧ ∃ d : Int, σ = [some (.ref a), some (.int k), some (.int d), none], ?_, fun σ' H' hM => ?_⟩
    · refine ⟨.int k, rfl, .ref a, rfl, a, _, rfl, .inl hS, _, _, rfl, rfl, _, rfl, ite2 (fun e => ?_) (fun e => ?_)⟩
      · have hk : k < (ns.map V.int).length := of_decide_eq_true e
        rw [List.length_map] at hk
        have g : (ns.map V.int)[k.toNat]? = some (.int ns[k.toNat]) := by
          rw [List.getElem?_map, List.getElem?_eq_getElem (by omega)]; rfl
        have ga := atI_nat g
        rw [Int.toNat_of_nonneg k0] at ga
        exact ⟨.ref a, rfl, .int k, rfl, a, _, k, _, rfl, rfl, hS, ga, rfl, _, rfl⟩
      · exact ⟨.int k, rfl, _, _, rfl, rfl, .inl ⟨by decide, by decide⟩, _, _, rfl, rfl, rfl, _, rfl⟩
    · obtain ⟨rfl, d, rfl⟩ := hM
      refine ⟨.int d, rfl, d, rfl, _, _, rfl, rfl, bits60, _, _, rfl, rfl, bits300, _, _, rfl, rfl, by show (0 : Int) < (10 ^ (60 : Int).toNat) ^ (5 : Int).toNat; decide +kernel, ?_⟩
      refine ⟨.int d, rfl, d, rfl, _, _, rfl, rfl, ⟨by decide, by decide +kernel⟩, _, _, rfl, rfl, .inr ⟨_, rfl, _, _, rfl, rfl, .inr ?_, ?_⟩⟩
      · exact flag_small _
      · refine ⟨_, rfl, .int d, rfl, _, _, rfl, rfl, by show (0 : Int) < 2305843009213693951; decide, _, _, rfl, rfl, .inr ⟨by decide, by decide⟩, .int k, rfl, _, _, rfl, rfl, .inl ⟨by decide, by decide⟩, .int k, rfl, _, _, rfl, rfl, .inr ⟨by omega, by omega⟩,
          _, _, rfl, rfl, _, _, rfl, rfl, _, _, rfl, rfl, by show (0 : Int) < 2305843009213693921; decide, by show 3 ≤ sizeLine; decide, fun p hp => q p _ _ hp⟩
end
end Pf
namespace Pf
open PySem PySem.Spec PyProof.Rows L2 Gk Fold
abbrev sFold : Stmt := topS 1
abbrev sBin : Stmt := topS 2
theorem scFold : FnScope ["history", "bits", "branch", "size", "number", "cell", "piece"] ["history", "bits", "branch"] (defScope sFold) := ⟨rfl, rfl, rfl, by decide +kernel, rfl, by decide +kernel, by decide +kernel⟩
theorem scBin : FnScope ["history", "number", "digit"] ["history"] (defScope sBin) := ⟨rfl, rfl, rfl, by decide +kernel, rfl, by decide +kernel, by decide +kernel⟩
/-- a history: its digits, the oldest one first -/
def sgn (b : Bool) : Nat := if b then 49 else 48
def txt (l : List Bool) : Str := ⟨(l.map sgn).toArray⟩
theorem txt_size (l : List Bool) : (txt l).cps.size = l.length := by
  show (l.map sgn).toArray.size = _
  rw [List.size_toArray, List.length_map]
theorem txt_at {l : List Bool} {i c : Nat} (h : (txt l).cps[i]? = some c) : ∃ b, l[i]? = some b ∧ c = sgn b := by
  have h' : (l.map sgn).toArray[i]? = some c := h
  rw [List.getElem?_toArray, List.getElem?_map] at h'
  cases e : l[i]? with
  | none => rw [e] at h'; cases h'
  | some b => rw [e] at h'; exact ⟨b, rfl, (Option.some.inj h').symm⟩
theorem int_sgn (b : Bool) : PySem.intText? ⟨#[sgn b]⟩ = some ((b.toNat : Nat) : Int) := by
  cases b <;> decide +kernel
section
variable {P : Program} {w : World} {K : PySem.W.Frag} {mg : Str → Option Value} {base : Heap}
def spBin : Sp := fun vs H Q _ => ∃ l : List Bool, vs = [.str (txt l)] ∧ Q (.int ((num l.reverse : Nat) : Int)) H
theorem ok_bin {f : Addr} {fd : FuncData} (mi : mg "int" = none) (F : L2.Fun K "_binary" "_binary" sBin f fd) : FnOk P w K mg base L2.CX0 1 f fd ["history"] spBin := by
  refine F.ok scBin (fun vs H Q E h => ?_) (fun cdv A outer s H vs Q E hr h => ?_)
  · obtain ⟨l, rfl, _⟩ := h
    rfl
  · obtain ⟨l, rfl, q⟩ := h
    refine ⟨_, pss_cons (ps_set (i := 1) scBin.nd rfl (.inl rfl) pe_int)
      (pss_cons (ps_for PassesOwn.never rfl (pi_str (pv 0)) (pg_name (i := 2) scBin.nd rfl (.inl rfl))
        (pss_one (ps_set (i := 1) scBin.nd rfl (.inl rfl) (pe_op op_add (pe_op op_mul pe_int (pv 1)) (pe_callTy call_int_str (by rfl) mi (by decide +kernel) (pa_cons (pv 2) pa_nil))))))
      (pss_one (ps_ret (pv 1)))), ?_⟩
    refine ⟨_, rfl, txt l, rfl, for_it walk_str (fun i σ H' => H' = H ∧ ∃ y, σ = [some (.str (txt l)), some (.int ((num (l.take i).reverse : Nat) : Int)), y]) ⟨rfl, none, rfl⟩ (fun _ _ _ _ _ => trivial) (fun i x σ H1 H2 hi hp hy => ?_) (fun σ H1 hp => ?_)⟩
    · obtain ⟨rfl, y, rfl⟩ := hp
      obtain ⟨rfl, c, hc, rfl⟩ := hy
      obtain ⟨b, hb, rfl⟩ := txt_at hc
      refine ⟨_, rfl, _, _, rfl, rfl, .inl ⟨by decide, by decide⟩, _, rfl, ⟨#[sgn b]⟩, ((b.toNat : Nat) : Int), rfl, int_sgn b, by show 1 ≤ 640; decide, _, _, rfl, rfl, rfl, some (.str ⟨#[sgn b]⟩), ?_⟩
      rw [List.take_add_one, hb]
      show _ = [some (V.str (txt l)), some (V.int ((num (l.take i ++ [b]).reverse : Nat) : Int)), some (V.str ⟨#[sgn b]⟩)]
      rw [List.reverse_append]
      have e : num ([b].reverse ++ (l.take i).reverse) = b.toNat + 2 * num (l.take i).reverse := rfl
      rw [e]
      have e2 : 2 * ((num (l.take i).reverse : Nat) : Int) + ((b.toNat : Nat) : Int) = ((b.toNat + 2 * num (l.take i).reverse : Nat) : Int) := by omega
      rw [← e2]
      rfl
    · obtain ⟨rfl, y, rfl⟩ := hp
      rw [txt_size, List.take_length]
      exact ⟨_, rfl, q⟩
/-- what a folded history is -/
def fol (l : List Bool) (n b : Nat) : Nat := if n = 0 then 0 else (b % 2 ^ n) ^^^ zig n 0 l.reverse
def spFold : Sp := fun vs H Q _ => ∃ (l : List Bool) (n b : Nat), vs = [.str (txt l), .int (n : Int), .int (b : Int)] ∧ l.length ≤ 64 ∧ n ≤ 16 ∧ b < 8 ∧ ∀ H', Same H H' → Q (.int ((fol l n b : Nat) : Int)) H'
theorem ok_fold {f : Addr} {fd : FuncData} (D : Dfn P w K mg base 1 "_binary" ["history"] spBin) (md : mg "divmod" = none) (F : L2.Fun K "fold" "fold" sFold f fd) : FnOk P w K mg base L2.CX0 2 f fd ["history", "bits", "branch"] spFold := by
  refine F.ok scFold (fun vs H Q E h => ?_) (fun cdv A outer s H vs Q E hr h => ?_)
  · obtain ⟨l, n, b, rfl, _⟩ := h
    rfl
  · obtain ⟨l, n, b, rfl, hl, hn, hb, q⟩ := h
    refine ⟨_, pss_cons (ps_if (pt_cmpR op_lt (pv 1) pe_int (nomark _)) (pss_one (ps_ret pe_int)) pss_nil)
      (pss_cons (ps_set (i := 3) scFold.nd rfl (.inl rfl) (pe_op op_oneShl pe_int (pv 1)))
      (pss_cons (ps_set (i := 4) scFold.nd rfl (.inl rfl) (pe_d D hr (by decide) (by rfl) (pa_cons (pv 0) pa_nil)))
      (pss_cons (ps_set (i := 5) scFold.nd rfl (.inl rfl) (pe_op op_mod (pv 2) (pv 3)))
      (pss_cons (ps_while PassesOwn.never (pt_cmpR op_gt (pv 4) pe_int (nomark _))
        (pss_cons (ps_asg (pe_callB call_divmod (by rfl) md (by decide +kernel) (pa_cons (pv 4) (pa_cons (pv 3) pa_nil))) (pg_tup (by rfl) (pgs_cons (pg_name (i := 4) scFold.nd rfl (.inl rfl)) (pgs_cons (pg_name (i := 6) scFold.nd rfl (.inl rfl)) pgs_nil))))
        (pss_one (ps_set (i := 5) scFold.nd rfl (.inl rfl) (pe_op op_xor (pv 5) (pv 6))))))
      (pss_one (ps_ret (pv 5))))))), ?_⟩
    refine ⟨.int n, rfl, _, _, rfl, rfl, _, rfl, ite2 (fun e => ?_) (fun e => ?_)⟩
    · have h0 : (n : Int) < 1 := of_decide_eq_true e
      have : n = 0 := by omega
      subst this
      exact q H (Same.refl H)
    · have h1 : 0 < n := by
        have := mt decide_eq_true e
        omega
      have hp : (0 : Int) < 2 ^ n := Int.pow_pos (by decide)
      have hs : (2 : Int) ^ n ≤ 65536 := by
        have h2 := Nat.pow_le_pow_right (show 0 < 2 by decide) hn
        have h3 : (2 : Int) ^ n = ((2 ^ n : Nat) : Int) := by
          rw [Int.natCast_pow]
          rfl
        omega
      refine ⟨.int n, rfl, n, rfl, rfl, by omega, .str (txt l), rfl, l, rfl, .int b, rfl, .int (2 ^ n), rfl, _, _, rfl, rfl, hp, ?_⟩
      refine while_by (fun σ H' => Same H H' ∧ ∃ (f x c : Nat) (y : Option V), σ = [some (.str (txt l)), some (.int n), some (.int b), some (.int (2 ^ n)), some (.int (x : Int)), some (.int (c : Int)), y] ∧ x < 2 ^ f ∧ c ^^^ pie n f x = fol l n b)
        (fun σ _ => match σ[4]? with
          | some (some (V.int x)) => x.toNat
          | _ => 0) ⟨Same.refl H, 64, num l.reverse, b % 2 ^ n, none, ?_, ?_, ?_⟩ (fun σ H1 hpv => ?_) (fun σ H Q Q' hq ⟨v, h1, i, j, h2, h3, k, h4, h5⟩ => ⟨v, h1, i, j, h2, h3, k, h4, hq _ _ h5⟩)
      · have e : ((b : Int) % 2 ^ n) = ((b % 2 ^ n : Nat) : Int) := by
          rw [Int.natCast_emod, Int.natCast_pow]
          rfl
        rw [← e]
        rfl
      · have := num_lt l.reverse
        rw [List.length_reverse] at this
        exact Nat.lt_of_lt_of_le this (Nat.pow_le_pow_right (by decide) hl)
      · unfold fol
        rw [if_neg (by omega), pie_zig n h1 64 l.reverse (by rw [List.length_reverse]; exact hl)]
      · obtain ⟨sm, f, x, c, y, rfl, hx, hc⟩ := hpv
        refine ⟨.int x, rfl, _, _, rfl, rfl, _, rfl, ite2 (fun e => ?_) (fun e => ?_)⟩
        · have x0 : (0 : Int) < x := of_decide_eq_true e
          obtain ⟨f', rfl⟩ : ∃ f', f = f' + 1 := by
            cases f with
            | zero => simp at hx; omega
            | succ f' => exact ⟨f', rfl⟩
          refine ⟨.int x, rfl, .int (2 ^ n), rfl, x, 2 ^ n, rfl, ⟨hp, by omega⟩, fun p np => ⟨p, _, rfl, .inl (.inl upd_same), rfl, _, _, rfl, _, _, rfl, rfl, .int c, rfl, _, rfl, _, _, rfl, rfl, ?_⟩⟩
          have ex : ((x : Int) / 2 ^ n) = ((x / 2 ^ n : Nat) : Int) := by
            rw [Int.natCast_ediv, Int.natCast_pow]
            rfl
          have em : ((x : Int) % 2 ^ n) = ((x % 2 ^ n : Nat) : Int) := by
            rw [Int.natCast_emod, Int.natCast_pow]
            rfl
          refine ⟨⟨sm.trans (same_new np), f', x / 2 ^ n, c ^^^ (x % 2 ^ n), some (.int ((x : Int) % 2 ^ n)), ?_, ?_, ?_⟩, ?_⟩
          · have eb : Builtin.bitXor (c : Int) ((x : Int) % 2 ^ n) = ((c ^^^ (x % 2 ^ n) : Nat) : Int) := by
              rw [em, Bits.bitXor_pp (Int.natCast_nonneg _) (Int.natCast_nonneg _), Int.toNat_natCast, Int.toNat_natCast]
            show [some (V.str (txt l)), some (V.int n), some (V.int b), some (V.int (2 ^ n)), some (V.int ((x : Int) / 2 ^ n)), some (V.int (Builtin.bitXor (c : Int) ((x : Int) % 2 ^ n))), some (V.int ((x : Int) % 2 ^ n))] = _
            rw [eb, ex]
          · have h2 : 2 ≤ 2 ^ n := by
              have := Nat.pow_le_pow_right (show 0 < 2 by decide) h1
              simpa using this
            have : x / 2 ^ n ≤ x / 2 := Nat.div_le_div_left h2 (by decide)
            rw [Nat.pow_succ] at hx
            omega
          · rw [Nat.xor_assoc]
            exact hc
          · show ((x : Int) / 2 ^ n).toNat < (x : Int).toNat
            rw [ex, Int.toNat_natCast, Int.toNat_natCast]
            exact Nat.div_lt_self (by omega) (by
              have := Nat.pow_le_pow_right (show 0 < 2 by decide) h1
              simp at this
              omega)
        · have x0 : x = 0 := by
            have := mt decide_eq_true e
            omega
          subst x0
          rw [pie_zero, Nat.xor_zero] at hc
          subst hc
          exact ⟨_, rfl, q _ sm⟩
end
end Pf
namespace Pf
open PySem PySem.Spec PyProof.Rows L2 Gk Fold
abbrev sDue : Stmt := topS 7
theorem scDue : FnScope ["_law_past", "_law_width", "_law_home", "_law_at", "_law_places", "_law_sign", "_law_digit"] ["_law_past", "_law_width", "_law_home"] (defScope sDue) := ⟨rfl, rfl, rfl, by decide +kernel, rfl, by decide +kernel, by decide +kernel⟩
/-- the digits of a number at the first places -/
def pl (T : Nat) (n : Nat) : List V := (List.range n).map fun j => V.int ((T / 2 ^ j % 2 : Nat) : Int)
theorem pl_len (T n : Nat) : (pl T n).length = n := by unfold pl; rw [List.length_map, List.length_range]
theorem pl_at {T n j : Nat} (h : j < n) : (pl T n)[j]? = some (V.int ((T / 2 ^ j % 2 : Nat) : Int)) := by
  unfold pl
  rw [List.getElem?_map, List.getElem?_range h]
  rfl
theorem pl_succ (T n : Nat) : pl T (n + 1) = pl T n ++ [V.int ((T / 2 ^ n % 2 : Nat) : Int)] := by
  unfold pl
  rw [List.range_succ, List.map_append]
  rfl
theorem dig (T j : Nat) : T / 2 ^ j % 2 = (T.testBit j).toNat := by
  rw [Nat.testBit_eq_decide_div_mod_eq]
  have h : T / 2 ^ j % 2 = 0 ∨ T / 2 ^ j % 2 = 1 := by omega
  rcases h with h | h <;> rw [h] <;> rfl
theorem pl_mod (T n : Nat) : pl (T % 2 ^ n) n = pl T n := by
  apply List.ext_getElem?
  intro j
  by_cases h : j < n
  · rw [pl_at h, pl_at h, dig, dig, Nat.testBit_mod_two_pow]
    simp [h]
  · rw [List.getElem?_eq_none (by rw [pl_len]; omega), List.getElem?_eq_none (by rw [pl_len]; omega)]
theorem pl_set {T n j : Nat} (h : j < n) (b : Bool) : (pl T n).set j (V.int (((T / 2 ^ j % 2 : Nat) + (b.toNat : Nat)) % 2 : Nat)) = pl (T ^^^ (if b then 2 ^ j else 0)) n := by
  apply List.ext_getElem?
  intro i
  by_cases hi : i < n
  · rw [pl_at hi, List.getElem?_set]
    by_cases e : j = i
    · subst e
      rw [if_pos rfl, pl_len, if_pos hi]
      congr 2
      rw [dig, dig, Nat.testBit_xor]
      cases b <;> cases hT : T.testBit j <;> simp [Nat.testBit_two_pow]
    · rw [if_neg e, pl_at hi, dig, dig, Nat.testBit_xor]
      cases b <;> simp [Nat.testBit_two_pow, e]
  · rw [List.getElem?_eq_none (by rw [List.length_set, pl_len]; omega), List.getElem?_eq_none (by rw [pl_len]; omega)]
theorem sz_txt {l : List Bool} (h : l.length ≤ 64) : (txt l).length ≤ sizeLine := by
  show (txt l).cps.size ≤ sizeLine
  rw [txt_size]
  exact Nat.le_trans h (by decide)
theorem sgn_one (d : Bool) : decide (V.str ⟨#[sgn d]⟩ = V.str ("1" : Str)) = d := by cases d <;> decide +kernel
theorem txt_rev (l : List Bool) : (⟨(txt l).cps.toList.reverse.toArray⟩ : Str) = txt l.reverse := by
  unfold txt
  simp only [List.map_reverse]
section
variable {P : Program} {w : World} {K : PySem.W.Frag} {mg : Str → Option Value} {base : Heap}
theorem ok_due {f : Addr} {fd : FuncData} (mr : mg "range" = none) (me : mg "enumerate" = none) (mi : mg "int" = none) (ms : mg "sum" = none) (F : L2.Fun K "_law_due" "_law_due" sDue f fd) :
    FnOk P w K mg base L2.CX0 1 f fd ["_law_past", "_law_width", "_law_home"] spFold := by
  refine F.ok scDue (fun vs H Q E h => ?_) (fun cdv A outer s H vs Q E hr h => ?_)
  · obtain ⟨l, n, b, rfl, _⟩ := h
    rfl
  · obtain ⟨l, n, b, rfl, hl, hn, hb, q⟩ := h
    refine ⟨_, pss_cons (ps_setLc (i := 4) (own := [("_law_at", 3)]) (g := gName 3) (by rfl) scDue.nd rfl rfl (sw_true rfl rfl rfl (by decide +kernel)) (pi_range1 rfl mr (pa_cons (pv 1) pa_nil))
          (blkOk_by (N := ["_law_past", "_law_width", "_law_home", "_law_at", "_law_places", "_law_sign", "_law_digit"]) (sc := defScope sDue) (by decide +kernel)) (fun _ _ _ _ _ => pg_name (i := 3) scDue.nd rfl (.inl rfl)) (fun _ _ _ _ _ => pts_nil)
          (fun _ _ _ _ _ => pe_op op_odd (pe_op op_shrN (pv 2) (pv 3)) pe_int))
      (C8.pss_cut (ps_for PassesOwn.never rfl (pi_enumT (by rfl) me (pa_cons (pe_mid (pe_ifExp (pt_cmpR op_gt (pv 1) pe_int (nomark _)) (pe_revT (pv 0)) pe_str)) pa_nil))
          (pg_tup rfl (pgs_cons (pg_name (i := 3) scDue.nd rfl (.inl rfl)) (pgs_cons (pg_name (i := 5) scDue.nd rfl (.inl rfl)) pgs_nil)))
          (pss_one (ps_asg (pe_op op_mod (pe_op op_add (pe_ix ix_list (pv 4) (pe_op op_mod (pv 3) (pv 1)) (fun _ _ => rfl)) (pe_callTy call_int1 (by rfl) mi (by decide +kernel) (pa_cons (pe_cmpR op_eq (pv 5) pe_str (nomark _)) pa_nil))) pe_int)
            (pg_sub (pv 4) (pe_op op_mod (pv 3) (pv 1)) set_list))))
      (pss_one (ps_ret (pe_callB (cr_sum rfl) (by rfl) ms (by decide +kernel) (pa_cons (pe_lc (own := [("_law_at", 3), ("_law_digit", 6)]) (g := gTup K 2 (gCons (gName 3) (gCons (gName 6) gNil))) (by rfl) scDue.nd (pi_enum rfl me (pa_cons (pv 4) pa_nil))
          (blkOk_by (N := ["_law_past", "_law_width", "_law_home", "_law_at", "_law_places", "_law_sign", "_law_digit"]) (sc := defScope sDue) (by decide +kernel))
          (fun _ _ _ _ _ => pg_tup rfl (pgs_cons (pg_name (i := 3) scDue.nd rfl (.inl rfl)) (pgs_cons (pg_name (i := 6) scDue.nd rfl (.inl rfl)) pgs_nil)))
          (fun _ _ _ _ _ => pts_one (pt_cmpR op_eq (pv 6) pe_int (nomark _))) (fun _ _ _ _ _ => pe_op op_oneShl pe_int (pv 3))) pa_nil))))), ?_⟩
    refine ⟨.int n, rfl, n, rfl, by omega, by omega, fun D hD => lc_range (lo := 0) (n := (n : Int).toNat) (fun i H' => H' = upd H D (.lst (pl b i))) rfl (fun i H1 hi hp => ?_) (fun H1 hp => ?_)⟩
    · subst hp
      refine ⟨rfl, .int b, rfl, .int (0 + i), rfl, b, i, rfl, by rw [Int.zero_add], b / 2 ^ i, ?_, rfl, pl b i, upd_same, ?_, ?_⟩
      · rw [Int.natCast_ediv, Int.natCast_pow]
        rfl
      · rw [pl_len]
        exact small1000 (by omega)
      · rw [upd_upd, pl_succ]
    · rw [Int.toNat_natCast] at hp
      subst hp
      refine ⟨fun σ H' => ∃ y3 y5, σ = [some (.str (txt l)), some (.int n), some (.int b), y3, some (.ref D), y5, none] ∧ Same H H' ∧ H' D = some (.lst (pl (fol l n b) n)), ?_, fun σ H1 hM => ?_⟩
      · refine ⟨fun v H' => ∃ rb : List Bool, v = .str (txt rb) ∧ H' = upd H D (.lst (pl b n)) ∧ rb.length ≤ 64 ∧ (0 < n ∨ rb = []) ∧ pl ((b % 2 ^ n) ^^^ zig n 0 rb) n = pl (fol l n b) n, ?_, fun v H1 hv => ?_⟩
        · refine ⟨.int n, rfl, _, _, rfl, rfl, _, rfl, ite2 (fun e => ?_) (fun e => ?_)⟩
          · have n0 : (0 : Int) < n := of_decide_eq_true e
            refine ⟨_, rfl, txt l, rfl, sz_txt hl, l.reverse, ?_, rfl, by rw [List.length_reverse]; exact hl, .inl (by omega), ?_⟩
            · rw [txt_rev]
            · unfold fol
              rw [if_neg (by omega)]
          · have n0 : n = 0 := by
              have := mt decide_eq_true e
              omega
            subst n0
            exact ⟨[], rfl, rfl, Nat.zero_le _, .inr rfl, rfl⟩
        · obtain ⟨rb, rfl, rfl, hrb, hor, hfin⟩ := hv
          refine ⟨txt rb, rfl, for_it walk_et (fun i σ H' => ∃ y3 y5, σ = [some (.str (txt l)), some (.int n), some (.int b), y3, some (.ref D), y5, none] ∧ Same H H' ∧ H' D = some (.lst (pl ((b % 2 ^ n) ^^^ zig n 0 (rb.take i)) n)))
            ⟨none, none, rfl, same_new hD, ?_⟩ (fun _ _ _ _ _ => trivial) (fun i x σ H1 H2 hi hp hy => ?_) (fun σ H1 hp => ?_)⟩
          · rw [upd_same]
            show some (HO.lst (pl b n)) = some (HO.lst (pl (b % 2 ^ n ^^^ 0) n))
            rw [Nat.xor_zero, pl_mod]
          · obtain ⟨y3, y5, rfl, sm, hD1⟩ := hp
            obtain ⟨T, c, rfl, nT, hc, rfl⟩ := hy
            obtain ⟨d, hd, rfl⟩ := txt_at hc
            have n0 : 0 < n := by
              rcases hor with h | h
              · exact h
              · subst h
                simp at hd
            have hm : i % n < n := Nat.mod_lt _ n0
            have em : ((i : Int) % (n : Int)) = ((i % n : Nat) : Int) := (Int.natCast_emod i n).symm
            have dT : D ≠ T := ne_of_none hD1 nT
            have hD2 : (upd H1 T (.tup [.int (i : Nat), .str ⟨#[sgn d]⟩])) D = some (.lst (pl ((b % 2 ^ n) ^^^ zig n 0 (rb.take i)) n)) := by
              rw [upd_ne dT]
              exact hD1
            generalize hT0 : (b % 2 ^ n) ^^^ zig n 0 (rb.take i) = T0 at hD2
            refine ⟨T, _, rfl, .inl (.inl upd_same), rfl, _, _, rfl, _, _, rfl, rfl, ?_⟩
            refine ⟨.ref D, rfl, .int (i : Nat), rfl, .int n, rfl, _, _, rfl, rfl, by show (0 : Int) < n; omega, D, _, (i : Int) % n, _, rfl, rfl, .inl (.inl hD2), (by rw [em]; exact atI_nat (pl_at hm)), ?_⟩
            refine ⟨_, rfl, rfl, .inr ⟨_, rfl, _, _, rfl, rfl, _, _, rfl, rfl, by show (0 : Int) < 2; decide, ?_⟩⟩
            refine ⟨.ref D, rfl, .int (i : Nat), rfl, .int n, rfl, _, _, rfl, rfl, by show (0 : Int) < n; omega, D, _, (i : Int) % n, i % n, rfl, rfl, hD2, ?_, ?_⟩
            · rw [em, pl_len]
              unfold ixN
              rw [if_pos (by omega), if_pos (by omega), Int.toNat_natCast]
            · refine ⟨_, _, rfl, fun a o h => ?_, ?_⟩
              · have h1 := sm a o h
                have aD : a ≠ D := ne_of_none h hD
                rw [upd_ne aD, upd_ne (ne_of_none h1 nT)]
                exact h1
              · rw [upd_same]
                have es : zig n 0 (rb.take (i + 1)) = zig n 0 (rb.take i) ^^^ (if d then 2 ^ (i % n) else 0) := by
                  have hlen : (rb.take i).length = i := by
                    rw [List.length_take]
                    have := (List.getElem?_eq_some_iff.mp hd).1
                    omega
                  rw [List.take_add_one, hd]
                  show zig n 0 (rb.take i ++ [d]) = _
                  rw [zig_app, hlen, Nat.zero_add]
                  show zig n 0 (rb.take i) ^^^ ((if d then 2 ^ (i % n) else 0) ^^^ 0) = _
                  rw [Nat.xor_zero]
                rw [es, ← Nat.xor_assoc, hT0, ← pl_set hm d]
                have ev : (((T0 / 2 ^ (i % n) % 2 : Nat) : Int) + (if decide (V.str ⟨#[sgn d]⟩ = V.str ("1" : Str)) = true then (1 : Int) else 0)) % 2 = (((T0 / 2 ^ (i % n) % 2 : Nat) + d.toNat) % 2 : Nat) := by
                  rw [sgn_one]
                  cases d
                  · show (((T0 / 2 ^ (i % n) % 2 : Nat) : Int) + 0) % 2 = (((T0 / 2 ^ (i % n) % 2 : Nat) + 0) % 2 : Nat)
                    omega
                  · show (((T0 / 2 ^ (i % n) % 2 : Nat) : Int) + 1) % 2 = (((T0 / 2 ^ (i % n) % 2 : Nat) + 1) % 2 : Nat)
                    omega
                exact congrArg (fun z => some (HO.lst ((pl T0 n).set (i % n) (V.int z)))) ev
          · obtain ⟨y3, y5, rfl, sm, hD1⟩ := hp
            rw [txt_size, List.take_length, hfin] at hD1
            exact ⟨_, _, rfl, sm, hD1⟩
      · obtain ⟨y3, y5, rfl, sm, hD1⟩ := hM
        have hT : fol l n b % 2 ^ n = fol l n b := by
          unfold fol
          split
          · rw [Nat.zero_mod]
          · rename_i h
            exact Nat.mod_eq_of_lt (Nat.xor_lt_two_pow (Nat.mod_lt _ (Nat.two_pow_pos n)) (zig_lt n (by omega) _ _))
        generalize fol l n b = T at hD1 hT q
        refine ⟨.ref D, rfl, D, pl T n, rfl, .inl (.inl hD1), fun D2 nD2 => lc_it walk_enum
          (fun i H' => Same H1 H' ∧ ∃ ns : List Int, H' D2 = some (.lst (ns.map V.int)) ∧ ns.length ≤ i ∧ ns.sum = ((ones T i : Nat) : Int)) ⟨same_new nD2, [], upd_same, Nat.le_refl _, rfl⟩
          (fun i H' _ hp => .inl (.inl (hp.1 D _ hD1))) (fun i x H2 H3 hi hp hy => ?_) (fun H' hp => ?_)⟩
        · obtain ⟨sm2, ns, hns, hlen, hsum⟩ := hp
          obtain ⟨R, v1, v2, rfl, nR, rfl, e1, e2⟩ := hy
          obtain rfl : V.int (i : Nat) = v1 := Option.some.inj e1
          rw [pl_len] at hi
          obtain rfl : V.int ((T / 2 ^ i % 2 : Nat) : Int) = v2 := Option.some.inj ((pl_at hi).symm.trans e2)
          have d2R : D2 ≠ R := ne_of_none hns nR
          have sm3 : Same H1 (upd H2 R (.tup [V.int (i : Nat), V.int ((T / 2 ^ i % 2 : Nat) : Int)])) := sm2.trans (same_new nR)
          refine ⟨R, _, rfl, .inl (.inl upd_same), rfl, _, _, rfl, _, _, rfl, rfl, rfl, _, rfl, rfl, _, rfl, ite2 (fun e => ?_) (fun e => ?_)⟩
          · have e' : ((T / 2 ^ i % 2 : Nat) : Int) = 1 := V.int.inj (of_decide_eq_true e)
            have hb1 : T.testBit i = true := by
              rw [Nat.testBit_eq_decide_div_mod_eq]
              exact decide_eq_true (by omega)
            refine ⟨.int (i : Nat), rfl, i, rfl, rfl, by omega, ns.map V.int, by rw [upd_ne d2R]; exact hns, ?_, fun a o h => ?_, ns ++ [2 ^ i], ?_, ?_, ?_⟩
            · rw [List.length_map]
              exact small1000 (by omega)
            · rw [upd_ne (ne_of_none h nD2)]
              exact sm3 a o h
            · rw [upd_same, List.map_append]
              rfl
            · rw [List.length_append]
              show ns.length + 1 ≤ i + 1
              omega
            · rw [List.sum_append, hsum]
              show ((ones T i : Nat) : Int) + (2 ^ i + 0) = ((ones T i + (if T.testBit i then 2 ^ i else 0) : Nat) : Int)
              rw [if_pos hb1, Int.natCast_add, Int.natCast_pow, Int.add_zero]
              rfl
          · have hb0 : T.testBit i = false := by
              rw [Nat.testBit_eq_decide_div_mod_eq]
              refine decide_eq_false fun h => e (decide_eq_true ?_)
              rw [h]
              rfl
            refine ⟨sm3, ns, by rw [upd_ne d2R]; exact hns, by omega, ?_⟩
            rw [hsum]
            show _ = ((ones T i + (if T.testBit i then 2 ^ i else 0) : Nat) : Int)
            rw [hb0]
            rfl
        · obtain ⟨sm2, ns, hns, _, hsum⟩ := hp
          rw [pl_len, ones_eq, hT] at hsum
          refine ⟨D2, ns, rfl, .inl (.inl hns), ?_⟩
          rw [hsum]
          exact q _ (sm.trans sm2)
end
end Pf
namespace Pf
open PySem PySem.Spec PyProof.Rows L2 Gk Fold
abbrev sRight : Stmt := topS 8
abbrev sLaw : Stmt := topS 9
abbrev nRight : List Str := ["_law_box_here", "_law_size", "_law_past", "_law_width", "_law_home", "_law_due_here", "_law_turn"]
abbrev nLaw : List Str := ["_law_script", "_law_k", "_law_box_here", "_law_turn"]
theorem scRight : FnScope nRight ["_law_box_here"] (defScope sRight) := ⟨rfl, rfl, rfl, by decide +kernel, rfl, by decide +kernel, by decide +kernel⟩
theorem scLaw : FnScope nLaw ["_law_script"] (defScope sLaw) := ⟨rfl, rfl, rfl, by decide +kernel, rfl, by decide +kernel, by decide +kernel⟩
def one (b : Bool) : Str := ⟨#[sgn b]⟩
theorem digit_text {d : Int} (h0 : 0 ≤ d) (h1 : d < 2) : ∃ c : Bool, (Str.ofString (toString d)) = one c := by
  have h : d = 0 ∨ d = 1 := by omega
  rcases h with rfl | rfl
  · exact ⟨false, by decide +kernel⟩
  · exact ⟨true, by decide +kernel⟩
theorem join_ones (l : List Bool) : Txt.join ("" : Str) (l.map one) = txt l := by
  have e : l.map one = (l.map fun b => [sgn b]).map SX.S := by rw [List.map_map]; rfl
  have j : ∀ l : List Bool, TL.joinL [] (l.map fun b => [sgn b]) = l.map sgn := by
    intro l
    induction l with
    | nil => rfl
    | cons a r ih =>
      cases r with
      | nil => rfl
      | cons c r =>
        show [sgn a] ++ ([] ++ TL.joinL [] ((c :: r).map fun b => [sgn b])) = _
        rw [ih]
        rfl
  rw [e, show ("" : Str) = SX.S [] from by decide +kernel, SX.join_S, j]
  rfl
theorem ones_sum (l : List Bool) : ((l.map one).map (·.length)).sum = l.length := by
  induction l with
  | nil => rfl
  | cons a r ih =>
    show 1 + ((r.map one).map (·.length)).sum = r.length + 1
    rw [ih]
    omega
theorem fol_lt {l : List Bool} {n b : Nat} (hn : n ≤ 16) : fol l n b < 65536 := by
  have h2 := Nat.pow_le_pow_right (show 0 < 2 by decide) hn
  unfold fol
  split
  · decide
  · exact Nat.lt_of_lt_of_le (Nat.xor_lt_two_pow (Nat.mod_lt _ (Nat.two_pow_pos n)) (zig_lt n (by omega) _ _)) h2
section
variable {P : Program} {w : World} {K : PySem.W.Frag} {mg : Str → Option Value} {base : Heap}
def spRight : Sp := fun vs H Q _ => ∃ (b : Addr) (m : Nat), vs = [.ref b] ∧ Box m H b ∧ m ≤ 100000 ∧ ∀ H', But b H H' → Box (m + 100) H' b → Q (.bl true) H'
theorem ok_right {f : Addr} {fd : FuncData} (DT : Dfn P w K mg base 1 "_law_take" ["_law_box_here", "_law_many"] spTake) (DO : Dfn P w K mg base 2 "_law_of" ["_law_box_here", "_law_some"] (spOf K))
    (DD : Dfn P w K mg base 1 "_law_due" ["_law_past", "_law_width", "_law_home"] spFold) (DF : Dfn P w K mg base 2 "fold" ["history", "bits", "branch"] spFold) (DK : DfK P w K mg base 2 "fold" ["history", "bits", "branch"] ["branch", "bits", "history"] List.reverse spFold)
    (mr : mg "range" = none) (mt : mg "str" = none) (mp : mg "repr" = none) (F : L2.Fun K "_law_right" "_law_right" sRight f fd) : FnG P w K mg base 3 f fd ["_law_box_here"] spRight := by
  refine fnG F scRight (fun vs H Q E h => ?_) (fun cdv A outer s H vs Q hr hg h => ?_)
  · obtain ⟨b, m, rfl, _⟩ := h
    rfl
  · obtain ⟨b, m, rfl, hb, hm, q⟩ := h
    refine ⟨_, pss_cons (ps_set (i := 1) scRight.nd rfl (.inl rfl) (pe_d DO hr (by decide) (by rfl) (pa_cons (pv 0) (pa_cons (pe_lst (pa_cons pe_int (pa_cons pe_int (pa_cons pe_int (pa_cons (pe_d DT hr (by decide) (by rfl) (pa_cons (pv 0) (pa_cons pe_int pa_nil))) pa_nil))))) pa_nil))))
      (pss_cons (ps_set (i := 2) scRight.nd rfl (.inl rfl) (pe_join pe_str (pe_lc (own := [("_law_turn", 6)]) (g := gName 6) (by rfl) scRight.nd (pi_range1 rfl mr (pa_cons (pv 1) pa_nil)) (blkOk_by (N := nRight) (sc := defScope sRight) (by decide +kernel))
          (fun _ _ _ _ _ => pg_name (i := 6) scRight.nd rfl (.inl rfl)) (fun _ _ _ _ _ => pts_nil) (fun _ _ _ _ _ => pe_callTy call_str_int (by rfl) mt (by decide +kernel) (pa_cons (pe_d DT hr (by decide) (by rfl) (pa_cons (pv 0) (pa_cons pe_int pa_nil))) pa_nil)))))
      (pss_cons (ps_for PassesOwn.never rfl (pi_range1 rfl mr (pa_cons pe_int pa_nil)) (pg_name (i := 3) scRight.nd rfl (.inl rfl))
        (pss_cons (ps_set (i := 4) scRight.nd rfl (.inl rfl) (pe_d DT hr (by decide) (by rfl) (pa_cons (pv 0) (pa_cons pe_int pa_nil))))
        (pss_cons (ps_set (i := 5) scRight.nd rfl (.inl rfl) (pe_d DD hr (by decide) (by rfl) (pa_cons (pv 2) (pa_cons (pv 3) (pa_cons (pv 4) pa_nil)))))
        (pss_one (ps_if (pt_cmpR op_ne (pe_callB (call_reprF hr hg) (by rfl) mp (by decide +kernel) (pa_cons (pe_lst (pa_cons (pe_d DF hr (by decide) (by rfl) (pa_cons (pv 2) (pa_cons (pv 3) (pa_cons (pv 4) pa_nil))))
              (pa_cons (pe_dk DK hr (by decide) (by rfl) (pk_cons (pv 4) (pk_cons (pv 3) (pk_cons (pv 2) pk_nil)))) pa_nil))) pa_nil))
            (pe_callB (call_reprF hr hg) (by rfl) mp (by decide +kernel) (pa_cons (pe_lst (pa_cons (pv 5) (pa_cons (pv 5) pa_nil))) pa_nil)) (nomark _))
          (pss_one (ps_ret pe_bl)) pss_nil)))))
      (pss_one (ps_ret pe_bl)))), ?_⟩
    -- the size
    refine ⟨.ref b, rfl, .ref b, rfl, b, 65, m, rfl, by decide, by decide, hb, by omega, fun d H1 d0 d1 bt1 bx1 same1 => ⟨by show 4 ≤ sizeLine; decide, fun a na => ?_⟩⟩
    have nab : a ≠ b := (bx1.ne na).symm
    refine ⟨b, a, [.int 0, .int 1, .int 64, .int d], m + 1, rfl, SqL.of upd_same, nab, Nat.zero_lt_succ _, by show 4 ≤ 1000; decide, bx1.same (same_new na), by omega, fun i v H2 hv bt2 bx2 same2 => ?_⟩
    have but2 : But b H H2 := (bt1.trans (But.new na)).trans bt2
    obtain ⟨z, rfl, z0, z1⟩ : ∃ z : Int, v = .int z ∧ 0 ≤ z ∧ z ≤ 64 := by
      match i, hv with
      | 0, hv => exact ⟨0, (Option.some.inj hv).symm, by decide, by decide⟩
      | 1, hv => exact ⟨1, (Option.some.inj hv).symm, by decide, by decide⟩
      | 2, hv => exact ⟨64, (Option.some.inj hv).symm, by decide, by decide⟩
      | 3, hv => exact ⟨d, (Option.some.inj hv).symm, d0, by omega⟩
      | i + 4, hv => simp at hv
    -- the past
    refine ⟨⟨_, rfl⟩, .int z, rfl, z, rfl, by omega, by omega, fun D nD => lc_range (lo := 0) (n := z.toNat)
      (fun i H' => But b H2 H' ∧ Box (m + 2 + i) H' b ∧ ∃ l : List Bool, l.length = i ∧ H' D = some (.lst ((l.map one).map V.str))) ⟨But.new nD, bx2.same (same_new nD), [], rfl, upd_same⟩
      (fun i H3 hi hp => ?_) (fun H3 hp => ?_)⟩
    · obtain ⟨bt3, bx3, l, hl, hD⟩ := hp
      have nDb : D ≠ b := (bx2.ne nD).symm
      refine ⟨rfl, .ref b, rfl, b, 2, m + 2 + i, rfl, by decide, by decide, bx3, by omega, fun d2 H4 e0 e1 bt4 bx4 same4 => ⟨d2, rfl, PySem.Flt.log2_lt_of (by decide) (Nat.lt_of_lt_of_le (show d2.natAbs < 2 by omega) (by decide)), ?_⟩⟩
      obtain ⟨c, hc⟩ := digit_text e0 e1
      refine ⟨(l.map one).map V.str, (same4 D nDb).trans hD, ?_, ?_, ?_, l ++ [c], ?_, ?_⟩
      · rw [List.length_map, List.length_map, hl]
        exact small1000 (by omega)
      · exact fun a' o' n' h' => by
          by_cases e : a' = D
          · subst e
            rw [h'] at nD
            cases nD
          · rw [upd_ne e]
            exact bt4 _ _ n' (bt3 _ _ n' h')
      · obtain ⟨x1, x2, x3, g1, g2⟩ := bx4
        exact ⟨x1, x2, x3, by rw [upd_ne nDb.symm]; exact g1, g2.1, by have := g2.2; omega⟩
      · rw [List.length_append, hl]
        rfl
      · rw [upd_same, List.map_append, List.map_append, hc]
        rfl
    · obtain ⟨bt3, bx3, l, hl, hD⟩ := hp
      refine ⟨"", D, l.map one, rfl, rfl, .inl (.inl (.inl hD)), ?_, ?_⟩
      · rw [ones_sum]
        show l.length + (l.map one).length * 0 ≤ _
        omega
      · rw [join_ones]
        have hl64 : l.length ≤ 64 := by omega
        -- the widths
        refine ⟨17, rfl, by decide, by decide, for_range (lo := 0) (n := 17) (fun i σ H' => (∃ y3 y4 y5, σ = [some (.ref b), some (.int z), some (.str (txt l)), y3, y4, y5, none]) ∧ But b H H' ∧ Box (m + 2 + z.toNat + i) H' b)
          ⟨⟨none, none, none, rfl⟩, but2.trans bt3, bx3⟩ (fun i σ H4 hi hp => ?_) (fun σ H4 hp => ?_)⟩
        · obtain ⟨⟨y3, y4, y5, rfl⟩, bt4, bx4⟩ := hp
          refine ⟨.ref b, rfl, b, 8, _, rfl, by decide, by decide, bx4, by omega, fun h H5 h0 h1 bt5 bx5 same5 => ?_⟩
          have eh : h = ((h.toNat : Nat) : Int) := (Int.toNat_of_nonneg h0).symm
          have ei : (0 : Int) + (i : Nat) = ((i : Nat) : Int) := Int.zero_add _
          rw [ei]
          refine ⟨.str (txt l), rfl, .int (i : Nat), rfl, .int h, rfl, l, i, h.toNat, by rw [← eh]; rfl, hl64, by omega, by omega, fun H6 sm6 => ?_⟩
          refine ⟨.str (txt l), rfl, .int (i : Nat), rfl, .int h, rfl, l, i, h.toNat, by rw [← eh]; rfl, hl64, by omega, by omega, fun H7 sm7 => ?_⟩
          refine ⟨.int h, rfl, .int (i : Nat), rfl, .str (txt l), rfl, rfl, l, i, h.toNat, by rw [← eh]; rfl, hl64, by omega, by omega, fun H8 sm8 => ⟨by show 2 ≤ sizeLine; decide, fun p np => ?_⟩⟩
          have fl := fol_lt (l := l) (n := i) (b := h.toNat) (by omega)
          have fine := fine_ints (a := ((fol l i h.toNat : Nat) : Int)) (b := ((fol l i h.toNat : Nat) : Int)) (by omega) (by omega)
          refine ⟨_, _, rfl, .lst (SqL.of upd_same) (.cons (.int _) (.cons (.int _) .nil)), fine, .int _, rfl, .int _, rfl, by show 2 ≤ sizeLine; decide, fun p2 np2 => ?_⟩
          refine ⟨_, _, rfl, .lst (SqL.of upd_same) (.cons (.int _) (.cons (.int _) .nil)), fine, rfl, _, rfl, iteNS rfl ?_⟩
          refine ⟨⟨_, _, _, rfl⟩, ?_, ?_⟩
          · exact (((((bt4.trans bt5).trans (But.of_same sm6)).trans (But.of_same sm7)).trans (But.of_same sm8)).trans (But.new np)).trans (But.new np2)
          · exact ((((bx5.same sm6).same sm7).same sm8).same (same_new np)).same (same_new np2)
        · obtain ⟨⟨y3, y4, y5, rfl⟩, bt4, bx4⟩ := hp
          exact q _ bt4 (bx4.up (by omega))

def spLaw (K : PySem.W.Frag) : Sp := fun vs H Q _ => ∃ (a : Addr) (ns : List Int), vs = [.ref a] ∧ SqL K H a (ns.map V.int) ∧ (H a = none ∨ ∃ o xs, H a = some (.frz o xs)) ∧ ns.length ≤ 63 ∧ ∀ H', Q (.bl true) H'
theorem mul_ok : MulOk ("1" : Str) 64 := ⟨by decide, fun _ _ => by decide +kernel, fun _ _ => by decide +kernel⟩
theorem mul_txt : Txt.mul ("1" : Str) 64 = txt (List.replicate 64 true) := by decide +kernel
theorem ok_law {f : Addr} {fd : FuncData} (DB : Dfn P w K mg base 1 "_law_box" ["_law_script", "_law_k"] (spBox K)) (DR : DfG P w K mg base 3 "_law_right" ["_law_box_here"] spRight) (DF : Dfn P w K mg base 2 "fold" ["history", "bits", "branch"] spFold)
    (mr : mg "range" = none) (mx : mg "max" = none) (mn : mg "min" = none) (ml : mg "len" = none) (ma : mg "all" = none) (F : L2.Fun K "law" "law" sLaw f fd) : FnG P w K mg base 4 f fd ["_law_script"] (spLaw K) := by
  refine fnG F scLaw (fun vs H Q E h => ?_) (fun cdv A outer s H vs Q hr hg h => ?_)
  · obtain ⟨a, ns, rfl, _⟩ := h
    rfl
  · obtain ⟨a, ns, rfl, hS, hfz, hl, q⟩ := h
    refine ⟨_, pss_cons (ps_for PassesOwn.never rfl (pi_range1 rfl mr (pa_cons (pe_callB (call_max2 rfl) (by rfl) mx (by decide +kernel) (pa_cons pe_int (pa_cons (pe_callB (call_min2 rfl) (by rfl) mn (by decide +kernel)
            (pa_cons pe_int (pa_cons (pe_callB call_len_seq (by rfl) ml PySem.boot_len (pa_cons (pv 0) pa_nil)) pa_nil))) pa_nil))) pa_nil)) (pg_name (i := 1) scLaw.nd rfl (.inl rfl))
        (pss_cons (ps_set (i := 2) scLaw.nd rfl (.inr rfl) (pe_d DB hr (by decide) (by rfl) (pa_cons (pv 0) (pa_cons (pv 1) pa_nil))))
        (pss_one (ps_if (pt_not (pt_val (pe_callB (cr_all rfl) (by rfl) ma (by decide +kernel) (pa_cons (pe_lc (own := [("_law_turn", 3)]) (g := gName 3) (by rfl) scLaw.nd (pi_range1 rfl mr (pa_cons pe_int pa_nil)) (blkOk_by (N := nLaw) (sc := defScope sLaw) (by decide +kernel))
            (fun _ _ _ _ _ => pg_name (i := 3) scLaw.nd rfl (.inl rfl)) (fun _ _ _ _ _ => pts_nil) (fun _ _ _ _ _ => pe_dg DR hr hg (by decide) (by rfl) (pa_cons (pv 2) pa_nil))) pa_nil))))
          (pss_one (ps_ret pe_bl)) pss_nil))))
      (pss_one (ps_ret (pe_and (pe_cmpR op_eq (pe_d DF hr (by decide) (by rfl) (pa_cons pe_str (pa_cons pe_int (pa_cons pe_int pa_nil)))) pe_int (nomark _))
        (pe_and (pe_cmpR op_eq (pe_d DF hr (by decide) (by rfl) (pa_cons (pe_op op_mulS pe_str pe_int) (pa_cons pe_int (pa_cons pe_int pa_nil)))) pe_int (nomark _))
        (pe_and (pe_cmpR op_eq (pe_d DF hr (by decide) (by rfl) (pa_cons (pe_op op_mulS pe_str pe_int) (pa_cons pe_int (pa_cons pe_int pa_nil)))) pe_int (nomark _))
        (pe_one (pe_cmpR op_eq (pe_d DF hr (by decide) (by rfl) (pa_cons pe_str (pa_cons pe_int (pa_cons pe_int pa_nil)))) pe_int (nomark _)))))))), ?_⟩
    have hmin : (if ((ns.map V.int).length : Int) < 3 then ((ns.map V.int).length : Int) else 3) ≤ 3 := by split <;> omega
    refine ⟨.ref a, rfl, a, _, rfl, .inl hS, _, _, rfl, _, _, rfl, _, rfl, ?_, ?_, ?_⟩
    · split <;> omega
    · split <;> omega
    · generalize hz : (if (if ((ns.map V.int).length : Int) < 3 then ((ns.map V.int).length : Int) else 3) > 1 then (if ((ns.map V.int).length : Int) < 3 then ((ns.map V.int).length : Int) else 3) else 1) = z
      have z3 : z ≤ 3 := by rw [← hz]; split <;> omega
      refine for_range (lo := 0) (n := z.toNat) (fun i σ H' => (∃ y1 y2, σ = [some (.ref a), y1, y2, none]) ∧ SqL K H' a (ns.map V.int)) ⟨⟨none, none, rfl⟩, hS⟩ (fun i σ H1 hi hp => ?_) (fun σ H1 hp => ?_)
      · obtain ⟨⟨y1, y2, rfl⟩, hS1⟩ := hp
        refine ⟨.ref a, rfl, .int (0 + (i : Nat)), rfl, a, ns, 0 + (i : Nat), rfl, hS1, hl, by omega, by omega, fun b x y nb => ?_⟩
        have hS2 : ∀ H', But b (upd H1 b (.lst [.int x, .int y, .int 0])) H' → SqL K H' a (ns.map V.int) := fun H' e => by
          rcases hS1 with (h | ⟨o, h⟩) | h
          · exact .inl (.inl (e _ _ (ne_of_none h nb) (same_new nb _ _ h)))
          · exact .inl (.inr ⟨o, e _ _ (ne_of_none h nb) (same_new nb _ _ h)⟩)
          · exact .inr h
        have hB0 : Box 0 (upd H1 b (.lst [.int x, .int y, .int 0])) b := ⟨x, y, 0, upd_same, Int.le_refl _, Int.le_refl _⟩
        refine ⟨30, rfl, by decide, by decide, fun D nD => lc_range (lo := 0) (n := (30 : Int).toNat)
          (fun j H' => But b (upd H1 b (.lst [.int x, .int y, .int 0])) H' ∧ Box (100 * j) H' b ∧ H' D = some (.lst ((List.replicate j true).map V.bl))) ⟨But.new nD, hB0.same (same_new nD), upd_same⟩ (fun j H2 hj hp => ?_) (fun H2 hp => ?_)⟩
        · obtain ⟨bt, bx, hD⟩ := hp
          have nDb : D ≠ b := (hB0.ne nD).symm
          have hj : j < 30 := hj
          refine ⟨rfl, .ref b, rfl, b, 100 * j, rfl, bx, by omega, fun H3 bt3 bx3 => ⟨(List.replicate j true).map V.bl, bt3 _ _ nDb hD, ?_, ?_, ?_, ?_⟩⟩
          · rw [List.length_map, List.length_replicate]
            exact small1000 (by omega)
          · exact fun a' o' n' h' => by
              by_cases e : a' = D
              · subst e
                rw [h'] at nD
                cases nD
              · rw [upd_ne e]
                exact bt3 _ _ n' (bt _ _ n' h')
          · obtain ⟨x1, x2, x3, g1, g2⟩ := bx3
            exact ⟨x1, x2, x3, by rw [upd_ne nDb.symm]; exact g1, g2.1, by have := g2.2; omega⟩
          · rw [upd_same, List.replicate_succ', List.map_append]
            rfl
        · obtain ⟨bt, bx, hD⟩ := hp
          refine ⟨D, List.replicate 30 true, rfl, .inl (.inl hD), _, rfl, ite2 (fun e => absurd e (by decide)) (fun _ => ⟨⟨_, _, rfl⟩, hS2 _ bt⟩)⟩
      · obtain ⟨⟨y1, y2, rfl⟩, hS1⟩ := hp
        refine ⟨[], 16, 7, rfl, by decide, by decide, by decide, fun H2 _ => ⟨rfl, true, rfl, ?_⟩⟩
        refine ⟨_, _, rfl, rfl, mul_ok, List.replicate 64 true, 16, 0, ?_, by decide, by decide, by decide, fun H3 _ => ⟨rfl, true, rfl, ?_⟩⟩
        · rw [mul_txt]
          rfl
        · refine ⟨_, _, rfl, rfl, mul_ok, List.replicate 64 true, 1, 1, ?_, by decide, by decide, by decide, fun H4 _ => ⟨rfl, true, rfl, ?_⟩⟩
          · rw [mul_txt]
            rfl
          · refine ⟨[true], 0, 7, rfl, by decide, by decide, by decide, fun H5 _ => ⟨rfl, ?_⟩⟩
            exact q _
end
end Pf
namespace Pf
open PySem PySem.Spec PyProof.Rows L2 Gk Fold
theorem law_start {K : PySem.W.Frag} {H : Hp} {a : Addr} {ns : List Int} (hl : ns.length ≤ 63) (hO : Only H) (hS : SqL K H a (ns.map V.int)) : spLaw K [.ref a] H (fun v _ => v = .bl true) L2.E0 :=
  ⟨a, ns, rfl, hS, (hO a).elim Or.inl fun ⟨o, xs, h⟩ => .inr ⟨o, _, h⟩, hl, fun _ => rfl⟩
theorem all_mk {P : Program} {w : World} {K : PySem.W.Frag} {h : Heap} {mg : Str → Option Value} {fa : Addr} (X : K.In h) (G : h.Ns mainGlobals mg) (hfa : mg "law" = some (.ref fa))
    {f0 : Addr} {od0 an0 : Option Addr} {sl0 : Array (Option Value)} {oc0 kV0 dc0 pm0 cd0 ct0 : Value} {f1 : Addr} {od1 an1 : Option Addr} {sl1 : Array (Option Value)} {oc1 kV1 dc1 pm1 cd1 ct1 : Value} {f2 : Addr} {od2 an2 : Option Addr} {sl2 : Array (Option Value)} {oc2 kV2 dc2 pm2 cd2 ct2 : Value} {f3 : Addr} {od3 an3 : Option Addr} {sl3 : Array (Option Value)} {oc3 kV3 dc3 pm3 cd3 ct3 : Value} {f4 : Addr} {od4 an4 : Option Addr} {sl4 : Array (Option Value)} {oc4 kV4 dc4 pm4 cd4 ct4 : Value} {f5 : Addr} {od5 an5 : Option Addr} {sl5 : Array (Option Value)} {oc5 kV5 dc5 pm5 cd5 ct5 : Value} {f6 : Addr} {od6 an6 : Option Addr} {sl6 : Array (Option Value)} {oc6 kV6 dc6 pm6 cd6 ct6 : Value} {f7 : Addr} {od7 an7 : Option Addr} {sl7 : Array (Option Value)} {oc7 kV7 dc7 pm7 cd7 ct7 : Value}
    (a0 : PySem.W.nsIn K mainGlobals "fold" = some (some (.ref f0)))
    (l0 : K.lookup f0 = some ⟨oc0, od0, .func (PySem.W.fnOf "fold" "fold" (defArgs sFold) (defBody sFold) (defScope sFold) .none kV0 dc0 pm0 an0 cd0 ct0), sl0⟩)
    (c0 : PySem.W.codeIn K cd0 "fold" = true) (k0 : PySem.W.keepIn K (.ref f0) = true)
    (a1 : PySem.W.nsIn K mainGlobals "_binary" = some (some (.ref f1)))
    (l1 : K.lookup f1 = some ⟨oc1, od1, .func (PySem.W.fnOf "_binary" "_binary" (defArgs sBin) (defBody sBin) (defScope sBin) .none kV1 dc1 pm1 an1 cd1 ct1), sl1⟩)
    (c1 : PySem.W.codeIn K cd1 "_binary" = true) (k1 : PySem.W.keepIn K (.ref f1) = true)
    (a2 : PySem.W.nsIn K mainGlobals "_law_box" = some (some (.ref f2)))
    (l2 : K.lookup f2 = some ⟨oc2, od2, .func (PySem.W.fnOf "_law_box" "_law_box" (defArgs sBox) (defBody sBox) (defScope sBox) .none kV2 dc2 pm2 an2 cd2 ct2), sl2⟩)
    (c2 : PySem.W.codeIn K cd2 "_law_box" = true) (k2 : PySem.W.keepIn K (.ref f2) = true)
    (a3 : PySem.W.nsIn K mainGlobals "_law_take" = some (some (.ref f3)))
    (l3 : K.lookup f3 = some ⟨oc3, od3, .func (PySem.W.fnOf "_law_take" "_law_take" (defArgs sTake) (defBody sTake) (defScope sTake) .none kV3 dc3 pm3 an3 cd3 ct3), sl3⟩)
    (c3 : PySem.W.codeIn K cd3 "_law_take" = true) (k3 : PySem.W.keepIn K (.ref f3) = true)
    (a4 : PySem.W.nsIn K mainGlobals "_law_of" = some (some (.ref f4)))
    (l4 : K.lookup f4 = some ⟨oc4, od4, .func (PySem.W.fnOf "_law_of" "_law_of" (defArgs sOf) (defBody sOf) (defScope sOf) .none kV4 dc4 pm4 an4 cd4 ct4), sl4⟩)
    (c4 : PySem.W.codeIn K cd4 "_law_of" = true) (k4 : PySem.W.keepIn K (.ref f4) = true)
    (a5 : PySem.W.nsIn K mainGlobals "_law_due" = some (some (.ref f5)))
    (l5 : K.lookup f5 = some ⟨oc5, od5, .func (PySem.W.fnOf "_law_due" "_law_due" (defArgs sDue) (defBody sDue) (defScope sDue) .none kV5 dc5 pm5 an5 cd5 ct5), sl5⟩)
    (c5 : PySem.W.codeIn K cd5 "_law_due" = true) (k5 : PySem.W.keepIn K (.ref f5) = true)
    (a6 : PySem.W.nsIn K mainGlobals "_law_right" = some (some (.ref f6)))
    (l6 : K.lookup f6 = some ⟨oc6, od6, .func (PySem.W.fnOf "_law_right" "_law_right" (defArgs sRight) (defBody sRight) (defScope sRight) .none kV6 dc6 pm6 an6 cd6 ct6), sl6⟩)
    (c6 : PySem.W.codeIn K cd6 "_law_right" = true) (k6 : PySem.W.keepIn K (.ref f6) = true)
    (a7 : PySem.W.nsIn K mainGlobals "law" = some (some (.ref f7)))
    (l7 : K.lookup f7 = some ⟨oc7, od7, .func (PySem.W.fnOf "law" "law" (defArgs sLaw) (defBody sLaw) (defScope sLaw) .none kV7 dc7 pm7 an7 cd7 ct7), sl7⟩)
    (c7 : PySem.W.codeIn K cd7 "law" = true) (k7 : PySem.W.keepIn K (.ref f7) = true)
    (z0 : PySem.W.nsIn K mainGlobals "int" = some none)
    (z1 : PySem.W.nsIn K mainGlobals "divmod" = some none)
    (z2 : PySem.W.nsIn K mainGlobals "len" = some none)
    (z3 : PySem.W.nsIn K mainGlobals "abs" = some none)
    (z4 : PySem.W.nsIn K mainGlobals "range" = some none)
    (z5 : PySem.W.nsIn K mainGlobals "enumerate" = some none)
    (z6 : PySem.W.nsIn K mainGlobals "sum" = some none)
    (z7 : PySem.W.nsIn K mainGlobals "str" = some none)
    (z8 : PySem.W.nsIn K mainGlobals "repr" = some none)
    (z9 : PySem.W.nsIn K mainGlobals "max" = some none)
    (z10 : PySem.W.nsIn K mainGlobals "min" = some none)
    (z11 : PySem.W.nsIn K mainGlobals "all" = some none)
    : ∃ fd : FuncData, (∀ (s : Shared) (v : Value), BindsTo s fd ⟨[v], []⟩ [("_law_script", v)]) ∧ ∀ base : Heap, K.In base → base.Ns mainGlobals mg → FnG P w K mg base 4 fa fd ["_law_script"] (spLaw K) := by
  have e := hfa.symm.trans (PySem.W.mg_of X G a7)
  cases e
  have F0 := fun_mk (st := sFold) l0 c0 k0
  have b0 := F0.binds (ps := ["history", "bits", "branch"]) fun _ _ _ _ _ _ us hl => match us, hl with | [_, _, _], _ => rfl
  have g0 := PySem.W.mg_of X G a0
  have F1 := fun_mk (st := sBin) l1 c1 k1
  have b1 := F1.binds (ps := ["history"]) fun _ _ _ _ _ _ us hl => match us, hl with | [_], _ => rfl
  have g1 := PySem.W.mg_of X G a1
  have F2 := fun_mk (st := sBox) l2 c2 k2
  have b2 := F2.binds (ps := ["_law_script", "_law_k"]) fun _ _ _ _ _ _ us hl => match us, hl with | [_, _], _ => rfl
  have g2 := PySem.W.mg_of X G a2
  have F3 := fun_mk (st := sTake) l3 c3 k3
  have b3 := F3.binds (ps := ["_law_box_here", "_law_many"]) fun _ _ _ _ _ _ us hl => match us, hl with | [_, _], _ => rfl
  have g3 := PySem.W.mg_of X G a3
  have F4 := fun_mk (st := sOf) l4 c4 k4
  have b4 := F4.binds (ps := ["_law_box_here", "_law_some"]) fun _ _ _ _ _ _ us hl => match us, hl with | [_, _], _ => rfl
  have g4 := PySem.W.mg_of X G a4
  have F5 := fun_mk (st := sDue) l5 c5 k5
  have b5 := F5.binds (ps := ["_law_past", "_law_width", "_law_home"]) fun _ _ _ _ _ _ us hl => match us, hl with | [_, _, _], _ => rfl
  have g5 := PySem.W.mg_of X G a5
  have F6 := fun_mk (st := sRight) l6 c6 k6
  have b6 := F6.binds (ps := ["_law_box_here"]) fun _ _ _ _ _ _ us hl => match us, hl with | [_], _ => rfl
  have g6 := PySem.W.mg_of X G a6
  have F7 := fun_mk (st := sLaw) l7 c7 k7
  have n_int := PySem.W.mg_none_of X G z0
  have n_divmod := PySem.W.mg_none_of X G z1
  have n_len := PySem.W.mg_none_of X G z2
  have n_abs := PySem.W.mg_none_of X G z3
  have n_range := PySem.W.mg_none_of X G z4
  have n_enumerate := PySem.W.mg_none_of X G z5
  have n_sum := PySem.W.mg_none_of X G z6
  have n_str := PySem.W.mg_none_of X G z7
  have n_repr := PySem.W.mg_none_of X G z8
  have n_max := PySem.W.mg_none_of X G z9
  have n_min := PySem.W.mg_none_of X G z10
  have n_all := PySem.W.mg_none_of X G z11
  refine ⟨PySem.W.fnOf "law" "law" (defArgs sLaw) (defBody sLaw) (defScope sLaw) .none kV7 dc7 pm7 an7 cd7 ct7, fun s v => .of_eq rfl, fun base _ _ => ?_⟩
  have dBin : Dfn P w K mg base 1 "_binary" ["history"] spBin := ⟨_, _, ok_bin n_int F1, g1, F1.kp, b1⟩
  have oFold : FnOk P w K mg base L2.CX0 2 f0 _ ["history", "bits", "branch"] spFold := ok_fold dBin n_divmod F0
  have dFold : Dfn P w K mg base 2 "fold" ["history", "bits", "branch"] spFold := ⟨_, _, oFold, g0, F0.kp, b0⟩
  have kFold : DfK P w K mg base 2 "fold" ["history", "bits", "branch"] ["branch", "bits", "history"] List.reverse spFold := ⟨_, _, fun _ ws => ws.reverse, oFold, g0, F0.kp,
    ⟨fun s us ws _ h1 h2 => match us, ws, h1, h2 with | [], [_, _, _], _, _ => .of_eq rfl, fun _ r => r.reverse⟩⟩
  have dBox : Dfn P w K mg base 1 "_law_box" ["_law_script", "_law_k"] (spBox K) := ⟨_, _, ok_box n_len n_abs n_int F2, g2, F2.kp, b2⟩
  have dTake : Dfn P w K mg base 1 "_law_take" ["_law_box_here", "_law_many"] spTake := ⟨_, _, ok_take F3, g3, F3.kp, b3⟩
  have dOf : Dfn P w K mg base 2 "_law_of" ["_law_box_here", "_law_some"] (spOf K) := ⟨_, _, ok_of dTake n_len F4, g4, F4.kp, b4⟩
  have dDue : Dfn P w K mg base 1 "_law_due" ["_law_past", "_law_width", "_law_home"] spFold := ⟨_, _, ok_due n_range n_enumerate n_int n_sum F5, g5, F5.kp, b5⟩
  have dRight : DfG P w K mg base 3 "_law_right" ["_law_box_here"] spRight := ⟨_, _, ok_right dTake dOf dDue dFold kFold n_range n_str n_repr F6, g6, F6.kp, b6⟩
  exact ok_law dBox dRight dFold n_range n_max n_min n_len n_all F7
end Pf
open PySem PySem.W PyProof.Rows
set_option maxHeartbeats 0 in
theorem PySem.Challenge.cw_pastenough_k09_folded_histories_holds : PySem.Challenge.rw_pastenough_k09_folded_histories.Holds := by
  w_on; o_law; k_head; (case hw => w_witness2)
  k_fill
  refine Gk.walkG (l := PySem.Challenge.rw_pastenough_k09_folded_histories) (n := 63) (k := 4) (x := "_law_script") (sp := fun w => Pf.spLaw _) rfl (by decide) rfl ⟨rfl, by decide, by decide⟩ (fun w h Y => PySem.W.kIn_of Y) ?F (fun _ _ a ns hl hO hS => Pf.law_start hl hO hS)
  case F =>
    intro w mg fa h KX G hmg
    refine' Pf.all_mk KX G hmg ?a0 ?l0 ?c0 ?k0 ?a1 ?l1 ?c1 ?k1 ?a2 ?l2 ?c2 ?k2 ?a3 ?l3 ?c3 ?k3 ?a4 ?l4 ?c4 ?k4 ?a5 ?l5 ?c5 ?k5 ?a6 ?l6 ?c6 ?k6 ?a7 ?l7 ?c7 ?k7 ?z0 ?z1 ?z2 ?z3 ?z4 ?z5 ?z6 ?z7 ?z8 ?z9 ?z10 ?z11
    (case a0 => k_is)
    (case l0 => k_is)
    (case c0 => k_is)
    (case k0 => k_is)
    (case a1 => k_is)
    (case l1 => k_is)
    (case c1 => k_is)
    (case k1 => k_is)
    (case a2 => k_is)
    (case l2 => k_is)
    (case c2 => k_is)
    (case k2 => k_is)
    (case a3 => k_is)
    (case l3 => k_is)
    (case c3 => k_is)
    (case k3 => k_is)
    (case a4 => k_is)
    (case l4 => k_is)
    (case c4 => k_is)
    (case k4 => k_is)
    (case a5 => k_is)
    (case l5 => k_is)
    (case c5 => k_is)
    (case k5 => k_is)
    (case a6 => k_is)
    (case l6 => k_is)
    (case c6 => k_is)
    (case k6 => k_is)
    (case a7 => k_is)
    (case l7 => k_is)
    (case c7 => k_is)
    (case k7 => k_is)
    (case z0 => k_is)
    (case z1 => k_is)
    (case z2 => k_is)
    (case z3 => k_is)
    (case z4 => k_is)
    (case z5 => k_is)
    (case z6 => k_is)
    (case z7 => k_is)
    (case z8 => k_is)
    (case z9 => k_is)
    (case z10 => k_is)
    (case z11 => k_is)
