import PyProof.Rows.All
import Wide.All
import OpenK.AllK
import Wide.FinOn
import HandS.Base
import HandS.Call
import HandS.List
import HandS.Comp
import HandS.Conv
import HandS.Text
import HandS.Words
import HandS.WordsList
import HandS.Ends
import HandS.SortInts
import HandS.Wide
import HandS.IsInst
import HandS.More
import HandS.Evl
import PySem.Challenge.RW_lastother_k17_whole_only_others_matter
set_option Elab.async false
set_option linter.all false
set_option maxRecDepth 100000
set_option maxHeartbeats 4000000
/-! Lineups over the hand layer: what stands where, and rules of my own. -/
namespace LX
open PySem L2

/-! ### own operator rules -/
def CPowW (i j : Int) : Prop := 0 ≤ j ∧ j ≤ 1000 ∧ i.natAbs < 2 ^ 1000
theorem op_powW {X : Cx} : OpR X (binaryOp .Pow) (rI CPowW fun i j => .int (i ^ j.toNat)) := opI fun i j _ _ _ _ _ hc q => by
  refine PyProof.Rows.pow_int hc.1 ?_ q
  have h1 : Builtin.Int.intBits i ≤ 1000 := PyProof.Rows.intBits_le hc.2.2
  have h2 : (Builtin.Int.intBits i : Int) ≤ 1000 := by omega
  have h3 := Int.mul_le_mul h2 hc.2.1 hc.1 (by decide : (0:Int) ≤ 1000)
  exact Int.le_trans h3 (by decide)

/-! ### the rules that speak of the written part, with its name -/
section
variable {X : Cx} {K : PySem.W.Frag} {e o : Expr} {es : List Expr} {te to : TE} {t : TA} {pos apos cpos : Pos}
theorem kix_list (h : X.K = K := by rfl) : IxR X (rIxL K) := h ▸ ix_list
theorem kix_tup (h : X.K = K := by rfl) : IxR X (rIxT K) := h ▸ ix_tup
theorem ksl_list (h : X.K = K := by rfl) : SlR X (rSlL K) := h ▸ sl_list
def qLen (K : PySem.W.Frag) : List V → Hp → VK → Prop := fun xs H Q => ∃ p ys, xs = [.ref p] ∧ (SqL K H p ys ∨ SqT K H p ys) ∧ Q (.int ys.length) H
theorem klen (h : X.K = K := by rfl) : CallR X (.builtin "len") (qLen K) := h ▸ call_len_seq
def qList (K : PySem.W.Frag) : List V → Hp → VK → Prop := fun xs H Q => ∃ p ys, xs = [.ref p] ∧ (SqL K H p ys ∨ SqT K H p ys) ∧ ∀ l, H l = none → Q (.ref l) (upd H l (.lst ys))
theorem klist (h : X.K = K := by rfl) : CallR X (.type "list") (qList K) := h ▸ call_list_of
theorem ksorted (h : X.K = K := by rfl) : CallR X (.builtin "sorted") (rSortedI K) := h ▸ cr_sortedI
theorem kall (hc : X.calm = true) (h : X.K = K := by rfl) : CallR X (.builtin "all") (rAll K) := h ▸ cr_all hc
theorem kany (hc : X.calm = true) (h : X.K = K := by rfl) : CallR X (.builtin "any") (rAny K) := h ▸ cr_any hc
theorem ksum (hc : X.calm = true) (h : X.K = K := by rfl) : CallR X (.builtin "sum") (rSum K) := h ▸ cr_sum hc
theorem kisi (h : X.K = K := by rfl) : CallR X (.builtin "isinstance") (rIsi K) := h ▸ call_isi
theorem kisiT (h : X.K = K := by rfl) : CallR X (.builtin "isinstance") (rIsiT K) := h ▸ call_isiT
theorem kin (h : X.K = K := by rfl) : OpR X (compareOp .In) (rIn K false) := h ▸ op_in_seq
theorem knotIn (h : X.K = K := by rfl) : OpR X (compareOp .NotIn) (rIn K true) := h ▸ op_notIn_seq
theorem keqD (hu : X.A.units + 64 < cLine) (h : X.K = K := by rfl) : OpR X (compareOp .Eq) (rEqD K) := h ▸ op_eqD hu
theorem kneD (hu : X.A.units + 64 < cLine) (h : X.K = K := by rfl) : OpR X (compareOp .NotEq) (rNeD K) := h ▸ op_neD hu
theorem kpi_list {tg : Expr} (he : PE X e te) (h : X.K = K := by rfl) : PI X tg e (iList K te) := h ▸ pi_list he
theorem kbm {T id : String} {name : Str} {r : V → List V → Hp → VK → Prop} (p1 : PySem.PlainAttrs T) (p2 : PySem.Slot T name id) (p3 : typeOf (.builtin id) = pure (.type "method_descriptor")) (m : MtR X id r) (ho : PE X o to) (ha : PA X (e :: es) t)
    (q1 : attributeBase o name X.env (eval o X.env) = eval o X.env := by rfl)
    (q2 : ((backTo cpos (starEach (e :: es) X.env)).all (fun y => !y.1) && (backToKw cpos (keywordEach [] X.env)).all (fun y => y.1.isSome) && decide ((e :: es).length + ([] : List Keyword).length + (if ([] : List Keyword).isEmpty then 0 else 1) < 30)) = true := by rfl)
    (q3 : (apos.endLine == cpos.line) = true := by rfl) (q4 : starEach (e :: es) X.env = (false, eval e X.env) :: starEach es X.env := by rfl) (q5 : (backTo cpos (starEach es X.env)).any (·.1) = false := by rfl) (h : X.K = K := by rfl) :
    PE X (.Call (.Attribute o name apos) (e :: es) [] cpos) (tBM K T r to t) := h ▸ pe_bm p1 p2 p3 m ho ha q1 q2 q3 q4 q5
theorem kbm0 {T id : String} {name : Str} {r : V → List V → Hp → VK → Prop} (p1 : PySem.PlainAttrs T) (p2 : PySem.Slot T name id) (p3 : typeOf (.builtin id) = pure (.type "method_descriptor")) (m : MtR X id r) (ho : PE X o to)
    (q1 : attributeBase o name X.env (eval o X.env) = eval o X.env := by rfl) (q3 : (apos.endLine == cpos.line) = true := by rfl) (h : X.K = K := by rfl) :
    PE X (.Call (.Attribute o name apos) [] [] cpos) (tBM0 K T r to) := h ▸ pe_bm0 p1 p2 p3 m ho q1 q3
def qTru (K : PySem.W.Frag) (ta : TE) : TT := fun σ H Q => ta σ H fun x H' => ∃ k, TruV K x H' k ∧ Q k H'
theorem kpt_truth {b : Expr} {tb : TE} (hb : PE X b tb) (g : ∀ whole, isTrue b X.env whole = (do let v ← whole; standAt b.pos; holding [v] (truthy v))) (h : X.K = K := by rfl) : PT X b (qTru K tb) := h ▸ pt_truth hb g
theorem kpg_tup {k n : Nat} {u : TGs} (hc : X.calm = true) (hp : PGs X es u) (hn : (assignEach es X.env).length = n := by rfl) (hst : (assignEach es X.env).findIdx? (·.1) = none := by rfl) (h : X.K = K := by rfl) :
    PG X (.Tuple es k pos) (gTup K n u) := h ▸ pg_tup hc hp hn hst
end

/-! ### heaps -/
def Same' (p : Addr) (H H' : Hp) : Prop := ∀ b o, H b = some o → b ≠ p → H' b = some o
theorem Same'.refl (p : Addr) (H : Hp) : Same' p H H := fun _ _ h _ => h
theorem Same'.trans {p : Addr} {H H1 H2 : Hp} (a : Same' p H H1) (b : Same' p H1 H2) : Same' p H H2 := fun c o h n => b c o (a c o h n) n
theorem Same'.upd {p : Addr} {H : Hp} {o : HO} : Same' p H (upd H p o) := fun b u h n => by
  rw [upd_ne n]
  exact h
/-- a row of people: person, color (a code) -/
abbrev Row := List (Nat × Nat)
abbrev sg (c : Nat) : V := .str ⟨#[c]⟩
def oV : Option Nat → V
  | some c => sg c
  | none => .non
abbrev pr (e : Nat × Nat) : List V := [.int (e.1 : Int), sg e.2]
def TupsAt (H : Hp) : List Addr → Row → Prop
  | [], [] => True
  | t :: ts, e :: r => H t = some (.tup (pr e)) ∧ TupsAt H ts r
  | _, _ => False
theorem TupsAt.len {H : Hp} : ∀ {ts : List Addr} {r : Row}, TupsAt H ts r → ts.length = r.length
  | [], [], _ => rfl
  | _ :: ts, _ :: r, h => congrArg (· + 1) (TupsAt.len (ts := ts) (r := r) h.2)
  | [], _ :: _, h => h.elim
  | _ :: _, [], h => h.elim
theorem TupsAt.mono {H H' : Hp} : ∀ {ts : List Addr} {r : Row}, TupsAt H ts r → (∀ b xs, H b = some (.tup xs) → H' b = some (.tup xs)) → TupsAt H' ts r
  | [], [], _, _ => True.intro
  | _ :: ts, _ :: r, h, k => ⟨k _ _ h.1, TupsAt.mono (ts := ts) (r := r) h.2 k⟩
  | [], _ :: _, h, _ => h.elim
  | _ :: _, [], h, _ => h.elim
theorem TupsAt.get {H : Hp} : ∀ {ts : List Addr} {r : Row} {i : Nat} {t : Addr}, TupsAt H ts r → ts[i]? = some t → ∃ e, r[i]? = some e ∧ H t = some (.tup (pr e))
  | [], [], i, t, _, h => by simp at h
  | _ :: ts, e :: r, 0, t, h, q => by
    simp at q
    subst q
    exact ⟨e, rfl, h.1⟩
  | _ :: ts, _ :: r, i + 1, t, h, q => by
    simp at q
    obtain ⟨e, h1, h2⟩ := TupsAt.get (ts := ts) (r := r) h.2 q
    exact ⟨e, by simpa using h1, h2⟩
  | [], _ :: _, _, _, h, _ => h.elim
  | _ :: _, [], _, _, h, _ => h.elim
theorem TupsAt.app {H : Hp} : ∀ {ts us : List Addr} {r q : Row}, TupsAt H ts r → TupsAt H us q → TupsAt H (ts ++ us) (r ++ q)
  | [], _, [], _, _, h => h
  | _ :: ts, us, _ :: r, q, h, k => ⟨h.1, TupsAt.app (ts := ts) (r := r) h.2 k⟩
  | [], _, _ :: _, _, h, _ => h.elim
  | _ :: _, _, [], _, h, _ => h.elim
theorem TupsAt.take {H : Hp} : ∀ {ts : List Addr} {r : Row} (n : Nat), TupsAt H ts r → TupsAt H (ts.take n) (r.take n)
  | _, _, 0, _ => True.intro
  | [], [], _ + 1, _ => True.intro
  | _ :: ts, _ :: r, n + 1, h => ⟨h.1, TupsAt.take (ts := ts) (r := r) n h.2⟩
  | [], _ :: _, _ + 1, h => h.elim
  | _ :: _, [], _ + 1, h => h.elim
theorem TupsAt.drop {H : Hp} : ∀ {ts : List Addr} {r : Row} (n : Nat), TupsAt H ts r → TupsAt H (ts.drop n) (r.drop n)
  | _, _, 0, h => h
  | [], [], _ + 1, _ => True.intro
  | _ :: ts, _ :: r, n + 1, h => TupsAt.drop (ts := ts) (r := r) n h.2
  | [], _ :: _, _ + 1, h => h.elim
  | _ :: _, [], _ + 1, h => h.elim
theorem TupsAt.one {H : Hp} {t : Addr} {e : Nat × Nat} (h : H t = some (.tup (pr e))) : TupsAt H [t] [e] := ⟨h, True.intro⟩
def RowAt (H : Hp) (a : Addr) (r : Row) : Prop := ∃ ts : List Addr, H a = some (.lst (ts.map V.ref)) ∧ TupsAt H ts r
theorem sTups {H H' : Hp} (s : Same H H') : ∀ b xs, H b = some (.tup xs) → H' b = some (.tup xs) := fun b xs h => s b _ h
theorem RowAt.same {H H' : Hp} {a : Addr} {r : Row} (h : RowAt H a r) (s : Same H H') : RowAt H' a r :=
  let ⟨ts, h1, h2⟩ := h
  ⟨ts, s _ _ h1, h2.mono (sTups s)⟩
/-- a list at p is not the tuples' -/
theorem RowAt.same' {H H' : Hp} {a p : Addr} {r : Row} {xs : List V} (h : RowAt H a r) (s : Same' p H H') (hp : H p = some (.lst xs)) (n : a ≠ p) : RowAt H' a r :=
  let ⟨ts, h1, h2⟩ := h
  ⟨ts, s _ _ h1 n, h2.mono fun b ys e => s b _ e fun q => by
    rw [q, hp] at e
    cases e⟩
theorem sNew {H : Hp} {p : Addr} {o : HO} (h : H p = none) : Same H (upd H p o) := fun a u e => by
  rw [upd_ne (ne_of_none e h)]
  exact e
/-- a change of an object that H does not know -/
theorem sUpd {H H' : Hp} {p : Addr} {o : HO} (s : Same H H') (h : H p = none) : Same H (upd H' p o) := fun a u e => by
  rw [upd_ne (ne_of_none e h)]
  exact s a u e
theorem sTo {H H' : Hp} (p : Addr) (s : Same H H') : Same' p H H' := fun b o h _ => s b o h

/-! ### the draws' bag -/
structure Src (H : Hp) (p : Addr) : Prop where
  ex : ∃ s0 s1 s2 : Int, H p = some (.lst [.int s0, .int s1, .int s2]) ∧ s1.natAbs < 2 ^ 400
theorem Src.same {H H' : Hp} {p : Addr} (h : Src H p) (s : Same H H') : Src H' p :=
  let ⟨s0, s1, s2, h1, h2⟩ := h.ex
  ⟨s0, s1, s2, s _ _ h1, h2⟩
theorem Src.lst {H : Hp} {p : Addr} (h : Src H p) : ∃ xs, H p = some (.lst xs) :=
  let ⟨s0, s1, s2, h1, _⟩ := h.ex
  ⟨_, h1⟩

/-! ### readings, step by step -/
section
variable {σ : St} {H : Hp} {Q : VK} {v x y : V} {ta tb tc te : TE} {r r' : R2} {i : Nat} {K : PySem.W.Frag} {t u : TT} {t1 t2 : TS} {D : Ends} {g : TG} {QB : Bool → Hp → Prop} {QA : List V → Hp → Prop} {tr : TA}
theorem rd_var (e : σ[i]? = some (some v)) (q : Q v H) : tVar i σ H Q := ⟨v, e, q⟩
theorem rd_c (q : Q v H) : tC v σ H Q := q
theorem rd_op (q : ta σ H fun x H1 => tb σ H1 fun y H2 => r x y H2 Q) : tOp r ta tb σ H Q := q
theorem rd_un {r : V → Hp → VK → Prop} (q : ta σ H fun x H1 => r x H1 Q) : tUn r ta σ H Q := q
theorem rd_I0 {f : Int → Int → V} {a b : Int} (q : Q (f a b) H) : rI0 f (.int a) (.int b) H Q := ⟨a, b, rfl, rfl, q⟩
theorem rd_I {C : Int → Int → Prop} {f : Int → Int → V} {a b : Int} (c : C a b) (q : Q (f a b) H) : rI C f (.int a) (.int b) H Q := ⟨a, b, rfl, rfl, c, q⟩
theorem rd_U {f : Int → V} {a : Int} (q : Q (f a) H) : rU f (.int a) H Q := ⟨a, rfl, q⟩
theorem rd_eq (s : scal x y = true) (q : Q (.bl (decide (x = y))) H) : rEq x y H Q := ⟨s, q⟩
theorem rd_ne (s : scal x y = true) (q : Q (.bl (!decide (x = y))) H) : rNe x y H Q := ⟨s, q⟩
theorem rd_test (q : te σ H fun x H' => ∃ k, x = .bl k ∧ QB k H') : tTest te σ H QB := q
theorem rd_tB (q : te σ H fun x H' => ∃ k, x = .bl k ∧ QB k H') : tB te σ H QB := q
theorem rd_bl {b : Bool} {R : Bool → Prop} (q : R b) : ∃ k, V.bl b = .bl k ∧ R k := ⟨b, rfl, q⟩
theorem rd_dec {p A B : Prop} [Decidable p] (h1 : p → A) (h2 : ¬ p → B) : if decide p = true then A else B := by
  by_cases h : p
  · rw [decide_eq_true h]
    exact iteT (h1 h)
  · rw [decide_eq_false h]
    exact iteF (h2 h)
theorem rd_ndec {p A B : Prop} [Decidable p] (h1 : ¬ p → A) (h2 : p → B) : if (!decide p) = true then A else B := by
  by_cases h : p
  · rw [decide_eq_true h]
    exact iteF (h2 h)
  · rw [decide_eq_false h]
    exact iteT (h1 h)
theorem rd_nt {A B : Prop} (h : B) : if (!true) = true then A else B := iteF h
theorem rd_nf {A B : Prop} (h : A) : if (!false) = true then A else B := iteT h
theorem rd_yes {p A B : Prop} [Decidable p] (h : p) (q : A) : if decide p = true then A else B := rd_dec (fun _ => q) fun n => absurd h n
theorem rd_no {p A B : Prop} [Decidable p] (h : ¬ p) (q : B) : if decide p = true then A else B := rd_dec (fun n => absurd n h) fun _ => q
theorem rd_2i {a b : Int} {R : Int → Int → Prop} (q : R a b) : ∃ i j, [V.int a, V.int b] = [V.int i, V.int j] ∧ R i j := ⟨a, b, rfl, q⟩
theorem rd_chain (q : ta σ H fun x H1 => tb σ H1 fun y H2 => r x y H2 fun z H3 => ∃ k, z = .bl k ∧ (if k = true then tc σ H3 fun w' H4 => r' y w' H4 Q else Q (.bl false) H3)) : tChain r r' ta tb tc σ H Q := q
theorem rd_and (q : t σ H fun c H1 => if c = true then u σ H1 QB else QB false H1) : tAnd t u σ H QB := q
theorem rd_or (q : t σ H fun c H1 => if c = true then QB true H1 else u σ H1 QB) : tOr t u σ H QB := q
theorem rd_not (q : t σ H fun c H1 => QB (!c) H1) : tNot t σ H QB := q
theorem rd_andV (q : ta σ H fun x H1 => ∃ c, x = .bl c ∧ if c = true then tb σ H1 Q else Q (.bl false) H1) : tAndV ta tb σ H Q := q
theorem rd_orV (q : ta σ H fun x H1 => ∃ c, x = .bl c ∧ if c = true then Q (.bl true) H1 else tb σ H1 Q) : tOrV ta tb σ H Q := q
theorem rd_notV (q : ta σ H fun x H1 => ∃ c, x = .bl c ∧ Q (.bl (!c)) H1) : tNotV ta σ H Q := q
theorem rd_ifE (q : t σ H fun c H1 => if c = true then ta σ H1 Q else tb σ H1 Q) : tIf t ta tb σ H Q := q
theorem rd_next (q : D.nx σ H) : tNext D σ H := q
theorem rd_seq (q : t1 { D with nx := t2 D } σ H) : tSeq t1 t2 D σ H := q
theorem rd_drop (q : te σ H fun _ H1 => D.nx σ H1) : tDrop te D σ H := q
theorem rd_ret (q : te σ H D.rt) : tRet te D σ H := q
theorem rd_ifS (q : t σ H fun b H1 => if b = true then t1 D σ H1 else t2 D σ H1) : tIfS t t1 t2 D σ H := q
theorem rd_asg (q : te σ H fun x H1 => g x σ H1 D.nx) : tAsg te g D σ H := q
theorem rd_name {R : St → Hp → Prop} (q : R (σ.set i (some v)) H) : gName i v σ H R := q
theorem rd_par {j : Nat} (q : tr σ H fun vs H1 => ∃ v w, vs = [v, w] ∧ D.nx ((σ.set i (some v)).set j (some w)) H1) : tPar i j tr D σ H := q
theorem rd_two {v w : V} {R : V → V → Prop} (q : R v w) : ∃ a b, [v, w] = [a, b] ∧ R a b := ⟨v, w, rfl, q⟩
theorem rd_nil (q : QA [] H) : tNil σ H QA := q
theorem rd_cons (q : ta σ H fun x H1 => tr σ H1 fun xs H2 => QA (x :: xs) H2) : tCons ta tr σ H QA := q
theorem rd_tup (q : tr σ H fun xs H1 => xs.length ≤ sizeLine ∧ ∀ p, H1 p = none → Q (.ref p) (upd H1 p (.tup xs))) : tTup tr σ H Q := q
theorem rd_lst (q : tr σ H fun xs H1 => xs.length ≤ sizeLine ∧ ∀ p, H1 p = none → Q (.ref p) (upd H1 p (.lst xs))) : tLst tr σ H Q := q
theorem rd_cb {r : List V → Hp → VK → Prop} (q : tr σ H fun vs H1 => r vs H1 Q) : tCB r tr σ H Q := q
theorem rd_call {sp : Sp} {dvs : List V} {E : XK} (q : tr σ H fun vs H1 => sp (vs ++ dvs) H1 Q E) : tCall sp dvs E tr σ H Q := q
theorem rd_ixL {p : Addr} {xs : List V} {j : Int} (h : H p = some (.lst xs)) (a : atI xs j = some v) (q : Q v H) : rIxL K (.ref p) (.int j) H Q := ⟨p, xs, j, v, rfl, rfl, SqL.of h, a, q⟩
theorem rd_ixT {p : Addr} {xs : List V} {j : Int} (h : H p = some (.tup xs)) (a : atI xs j = some v) (q : Q v H) : rIxT K (.ref p) (.int j) H Q := ⟨p, xs, j, v, rfl, rfl, SqT.of h, a, q⟩
theorem rd_sub {to ti : TE} {s : TSet} {R : St → Hp → Prop} (q : to σ H fun o H1 => ti σ H1 fun i H2 => s o i v H2 fun H3 => R σ H3) : gSub to ti s v σ H R := q
theorem rd_setL {p : Addr} {xs : List V} {k : Int} {j : Nat} {R : Hp → Prop} (h : H p = some (.lst xs)) (e : ixN xs.length k = some j) (q : R (upd H p (.lst (xs.set j v)))) : rSetL (.ref p) (.int k) v H R := ⟨p, xs, k, j, rfl, rfl, h, e, q⟩
theorem rd_len {p : Addr} {xs : List V} (h : H p = some (.lst xs)) (q : Q (.int xs.length) H) : qLen K [.ref p] H Q := ⟨p, xs, rfl, Or.inl (SqL.of h), q⟩
theorem rd_sl {tl th : TO} {r : V → Option Int → Option Int → Hp → VK → Prop} (q : te σ H fun x H1 => tl σ H1 fun l H2 => th σ H2 fun u H3 => r x l u H3 Q) : tSl r te tl th σ H Q := q
theorem rd_nopart {R : Option Int → Hp → Prop} (q : R none H) : tNoPart σ H R := q
theorem rd_part {R : Option Int → Hp → Prop} (q : te σ H fun x H1 => ∃ i, x = .int i ∧ R (some i) H1) : tPart te σ H R := q
theorem rd_int {j : Int} {R : Int → Prop} (q : R j) : ∃ i, V.int j = .int i ∧ R i := ⟨j, rfl, q⟩
theorem rd_slL {p : Addr} {xs : List V} {l u : Option Int} (h : H p = some (.lst xs)) (q : ∀ b, H b = none → Q (.ref b) (upd H b (.lst (cutV xs l u)))) : rSlL K (.ref p) l u H Q := ⟨p, xs, rfl, SqL.of h, q⟩
theorem rd_cat {p b : Addr} {xs ys : List V} (h : H p = some (.lst xs)) (h2 : H b = some (.lst ys)) (z : xs.length + ys.length ≤ sizeLine) (q : ∀ c, H c = none → Q (.ref c) (upd H c (.lst (xs ++ ys)))) : rCat (.ref p) (.ref b) H Q := ⟨p, b, xs, ys, rfl, rfl, h, h2, z, q⟩
theorem rd_isN (q : Q (.bl (decide (x = .non))) H) : (fun x y H Q => y = V.non ∧ Q (.bl (decide (x = .non))) H : R2) x .non H Q := ⟨rfl, q⟩
theorem rd_bm {T : String} {r : V → List V → Hp → VK → Prop} (q : te σ H fun x H1 => tyV K T x H1 ∧ tr σ H1 fun xs H2 => r x xs H2 Q) : tBM K T r te tr σ H Q := q
theorem rd_bm0 {T : String} {r : V → List V → Hp → VK → Prop} (q : te σ H fun x H1 => tyV K T x H1 ∧ r x [] H1 Q) : tBM0 K T r te σ H Q := q
theorem rd_for {wi : TI} (q : wi σ H fun J H1 => ∃ W : Nat → Nat → St → Hp → Prop, (∃ m, W 0 m σ H1) ∧ ∀ i m σ H, W i m σ H →
  (J.stop i H ∧ D.nx σ H) ∨ (J.go i H ∧ ∃ N : St → Hp → Prop, (∀ σ' H', N σ' H' → ∃ m', m' < m ∧ W (i + 1) m' σ' H') ∧ ∀ x H', J.yld i H x H' → g x σ H' fun σ2 H2 => t1 { D with nx := N, ct := N, bk := D.nx } σ2 H2)) : tFor wi g t1 D σ H := q
theorem rd_iList {tl : TE} {R : It → Hp → Prop} (q : tl σ H fun x H1 => ∃ a, x = .ref a ∧ (∃ xs, SqL K H1 a xs) ∧ R (Itl K a) H1) : iList K tl σ H R := q
theorem rd_gtup {n : Nat} {s : TGs} {p : Addr} {xs : List V} {R : St → Hp → Prop} (h : H p = some (.tup xs)) (z : xs.length = n) (q : s xs σ H R) : gTup K n s (.ref p) σ H R := ⟨p, xs, rfl, SqT.of h, z, q⟩
theorem rd_gcons {s : TG} {w : TGs} {vs : List V} {R : St → Hp → Prop} (q : s v σ H fun σ' H' => w vs σ' H' R) : gCons s w (v :: vs) σ H R := ⟨v, vs, rfl, q⟩
theorem rd_gnil {R : St → Hp → Prop} (q : R σ H) : gNil [] σ H R := ⟨rfl, q⟩
theorem rd_sl_len {n : Nat} (h : n ≤ 1000) : n ≤ sizeLine := Nat.le_of_lt (small1000 h)
end

section
variable {σ : St} {H : Hp} {Q : VK} {v x y : V} {K : PySem.W.Frag} {ta te : TE} {D : Ends} {g : TG} {tb : TS}
theorem rd_typ {n : String} (h : zTyV v H = some n) (q : Q (.ty n) H) : r1 kTyp [v] H Q := ⟨n, h, q⟩
theorem rd_2ty {m n : String} {R : String → String → Prop} (q : R m n) : ∃ a b, V.ty m = V.ty a ∧ V.ty n = V.ty b ∧ R a b := ⟨m, n, rfl, rfl, q⟩
theorem rd_NT {m n : String} (q : Q (.bl (!decide (m = n))) H) : rNT (.ty m) (.ty n) H Q := ⟨m, n, rfl, rfl, q⟩
theorem rd_2s {m n : Str} {R : Str → Str → Prop} (q : R m n) : ∃ a b, V.str m = V.str a ∧ V.str n = V.str b ∧ R a b := ⟨m, n, rfl, rfl, q⟩
theorem rd_lenS {m : Str} {R : Str → Prop} (q : R m) : ∃ a, [V.str m] = [V.str a] ∧ R a := ⟨m, rfl, q⟩
theorem rd_lenT {p : Addr} {xs : List V} (h : H p = some (.tup xs)) (q : Q (.int xs.length) H) : qLen K [.ref p] H Q := ⟨p, xs, rfl, Or.inr (SqT.of h), q⟩
theorem rd_isi {t u : Value} {c : V} {b : Bool} (h1 : ClsV c u) (h2 : TyX K H v t) (h3 : PySem.W.kitOne K t u = some b) (q : Q (.bl b) H) : rIsi K [v, c] H Q := ⟨v, c, t, u, b, rfl, h1, h2, h3, q⟩
theorem rd_listOf {p : Addr} {xs : List V} (h : H p = some (.lst xs)) (q : ∀ l, H l = none → Q (.ref l) (upd H l (.lst xs))) : qList K [.ref p] H Q := ⟨p, xs, rfl, Or.inl (SqL.of h), q⟩
theorem rd_rep {p : Addr} {xs : List V} {k : Int} (h : H p = some (.lst xs)) (h1 : 0 ≤ k) (h2 : k < 2 ^ 62) (z : xs.length * k.toNat ≤ sizeLine) (q : rRep (.ref p) (.int k) H Q) : rRep (.ref p) (.int k) H Q := q
/-- for i, x in enumerate(xs): every turn has a new tuple -/
theorem for_enum {a : Addr} {xs : List V} {σ : St} {H : Hp} (Pv : Nat → St → Hp → Prop) (h0 : Pv 0 σ H) (hl : ∀ i σ H, i ≤ xs.length → Pv i σ H → SqL K H a xs)
    (hs : ∀ i x (T : Addr) σ H, xs[i]? = some x → Pv i σ H → H T = none → g (.ref T) σ (upd H T (.tup [.int (i : Nat), x])) fun σ2 H2 => tb { D with nx := Pv (i + 1), ct := Pv (i + 1), bk := D.nx } σ2 H2) (hd : ∀ σ H, Pv xs.length σ H → D.nx σ H) :
    ∃ W : Nat → Nat → St → Hp → Prop, (∃ m, W 0 m σ H) ∧ ∀ i m σ H, W i m σ H →
      ((Ite K a).stop i H ∧ D.nx σ H) ∨ ((Ite K a).go i H ∧ ∃ N : St → Hp → Prop, (∀ σ' H', N σ' H' → ∃ m', m' < m ∧ W (i + 1) m' σ' H') ∧ ∀ x H', (Ite K a).yld i H x H' → g x σ H' fun σ2 H2 => tb { D with nx := N, ct := N, bk := D.nx } σ2 H2) := by
  refine ⟨fun i m σ H => m = xs.length - i ∧ i ≤ xs.length ∧ Pv i σ H, ⟨_, rfl, Nat.zero_le _, h0⟩, fun i m σ H hw => ?_⟩
  obtain ⟨rfl, hi, p⟩ := hw
  have q := hl i σ H hi p
  by_cases hlt : i < xs.length
  · have hx : xs[i]? = some xs[i] := List.getElem?_eq_getElem hlt
    refine Or.inr ⟨⟨xs, xs[i], q, hx⟩, Pv (i + 1), fun σ' H' p' => ⟨xs.length - (i + 1), by omega, rfl, hlt, p'⟩, fun x H' ⟨T, z, e1, e2, e3, e4⟩ => ?_⟩
    subst e1 e3
    have ez : z = xs[i] := Option.some.inj ((e4 xs q).symm.trans hx)
    subst ez
    exact hs i _ T σ H hx p e2
  · have e : i = xs.length := by omega
    subst e
    exact Or.inl ⟨⟨xs, q, Nat.le_refl _⟩, hd σ H p⟩
end

/-! ### rows: the first other color, the colors by person, a call -/
def fo (r : Row) (c : Nat) : Option Nat := (r.find? fun e => e.2 != c).map (·.2)
def colOf (r : Row) (q : Nat) : Nat := ((r.find? fun e => e.1 == q).map (·.2)).getD 0
theorem fo_nil (c : Nat) : fo [] c = none := rfl
theorem fo_yes {e : Nat × Nat} {r : Row} {c : Nat} (h : e.2 ≠ c) : fo (e :: r) c = some e.2 := by
  unfold fo
  rw [List.find?_cons_of_pos (by simpa using h)]
  rfl
theorem fo_no {e : Nat × Nat} {r : Row} {c : Nat} (h : e.2 = c) : fo (e :: r) c = fo r c := by
  unfold fo
  rw [List.find?_cons_of_neg (by simpa using h)]
theorem drop_of {α : Type} {l : List α} {i : Nat} {x : α} (h : l[i]? = some x) : l.drop i = x :: l.drop (i + 1) := by
  obtain ⟨h1, h2⟩ := List.getElem?_eq_some_iff.mp h
  rw [← h2]
  exact List.drop_eq_getElem_cons h1
structure Vr (r : Row) : Prop where
  n1 : 1 ≤ r.length
  n2 : r.length ≤ 60
  col : ∀ e ∈ r, 97 ≤ e.2 ∧ e.2 ≤ 122
  perm : (r.map (·.1)).Perm (List.range r.length)
theorem Vr.lt {r : Row} (h : Vr r) {e : Nat × Nat} (he : e ∈ r) : e.1 < r.length := by
  have := h.perm.mem_iff.mp (List.mem_map_of_mem (f := (·.1)) he)
  exact List.mem_range.mp this
theorem Vr.nodup {r : Row} (h : Vr r) : (r.map (·.1)).Nodup := h.perm.nodup_iff.mpr List.nodup_range
theorem Vr.has {r : Row} (h : Vr r) {q : Nat} (hq : q < r.length) : ∃ e ∈ r, e.1 = q := by
  have := h.perm.mem_iff.mpr (List.mem_range.mpr hq)
  obtain ⟨e, h1, h2⟩ := List.mem_map.mp this
  exact ⟨e, h1, h2⟩
/-- the list that colors_by_person fills -/
def fillC (l : List V) (r : Row) : List V := r.foldl (fun l e => l.set e.1 (sg e.2)) l
theorem fillC_len (r : Row) : ∀ l : List V, (fillC l r).length = l.length := by
  induction r with
  | nil => intro l; rfl
  | cons e r ih =>
    intro l
    show (fillC (l.set e.1 (sg e.2)) r).length = _
    rw [ih, List.length_set]
theorem fillC_no {q : Nat} : ∀ (r : Row) (l : List V), (∀ e ∈ r, e.1 ≠ q) → (fillC l r)[q]? = l[q]? := by
  intro r
  induction r with
  | nil => intro l _; rfl
  | cons e r ih =>
    intro l h
    show (fillC (l.set e.1 (sg e.2)) r)[q]? = _
    rw [ih _ fun x hx => h x (List.mem_cons_of_mem _ hx), List.getElem?_set_ne (h e List.mem_cons_self)]
theorem fillC_at {q : Nat} : ∀ (r : Row) (l : List V), (r.map (·.1)).Nodup → q < l.length → (∃ e ∈ r, e.1 = q) → (fillC l r)[q]? = some (sg (colOf r q)) := by
  intro r
  induction r with
  | nil =>
    intro l _ _ h
    obtain ⟨e, he, _⟩ := h
    cases he
  | cons e r ih =>
    intro l nd hl h
    have nd' := List.nodup_cons.mp (show (e.1 :: r.map (·.1)).Nodup from nd)
    show (fillC (l.set e.1 (sg e.2)) r)[q]? = _
    by_cases c : e.1 = q
    · rw [fillC_no r _ fun x hx z => nd'.1 (by rw [c, ← z]; exact List.mem_map_of_mem (f := (·.1)) hx), c, List.getElem?_set_self hl]
      unfold colOf
      rw [List.find?_cons_of_pos (by simpa using c)]
      rfl
    · rw [ih _ nd'.2 (by rw [List.length_set]; exact hl) ?_]
      · unfold colOf
        rw [List.find?_cons_of_neg (by simpa using c)]
      · obtain ⟨x, hx, hq⟩ := h
        rcases List.mem_cons.mp hx with z | z
        · exact absurd (z ▸ hq) c
        · exact ⟨x, z, hq⟩
def byPerson (r : Row) : List V := (List.range r.length).map fun q => sg (colOf r q)
theorem fillC_is {r : Row} (h : Vr r) {x : V} : fillC (List.replicate r.length x) r = byPerson r := by
  apply List.ext_getElem?
  intro q
  unfold byPerson
  rw [List.getElem?_map]
  by_cases c : q < r.length
  · rw [fillC_at r _ h.nodup (by rw [List.length_replicate]; exact c) (h.has c), List.getElem?_range c]
    rfl
  · rw [List.getElem?_eq_none (by rw [fillC_len, List.length_replicate]; omega), List.getElem?_eq_none (by rw [List.length_range]; omega)]
    rfl
def app (r : Row) (p : Nat) : Row := (p, (fo r (colOf r p)).getD (colOf r p)) :: r.filter fun e => e.1 != p
theorem flat_rep {α : Type} (x : α) : ∀ n : Nat, (List.replicate n [x]).flatten = List.replicate n x
  | 0 => rfl
  | n + 1 => by
    rw [List.replicate_succ, List.flatten_cons, flat_rep x n]
    rfl
theorem fillC_snoc (l : List V) (r : Row) (e : Nat × Nat) : fillC l (r ++ [e]) = (fillC l r).set e.1 (sg e.2) := by
  unfold fillC
  rw [List.foldl_append]
  rfl
theorem take_of {α : Type} {l : List α} {i : Nat} {x : α} (h : l[i]? = some x) : l.take (i + 1) = l.take i ++ [x] := by
  rw [List.take_add_one, h]
  rfl
theorem ixN_nat {n j : Nat} (h : j < n) : ixN n (j : Int) = some j := by
  unfold ixN
  rw [if_pos (by omega), if_pos (by omega)]
  simp
theorem sz60 {n : Nat} (h : n ≤ 60) : n ≤ sizeLine := Nat.le_trans h (by decide)
theorem getElem?_mem {α : Type} {l : List α} {i : Nat} {x : α} (h : l[i]? = some x) : x ∈ l := List.mem_of_getElem? h
/-! ### data -/
theorem dp_ints {K : PySem.W.Frag} {H : Hp} : ∀ ns : List Int, DpAll K H (ns.map V.int) (ns.map PyData.int)
  | [] => .nil
  | n :: ns => .cons (.int n) (dp_ints ns)
theorem lay_ints : ∀ ns : List Int, PyData.canLayAll0 (ns.map PyData.int) = true
  | [] => by simp only [List.map_nil, PyData.canLayAll0]
  | n :: ns => by
    simp only [List.map_cons, PyData.canLayAll0, PyData.canLay0, Bool.true_and]
    exact lay_ints ns
theorem dep_ints : ∀ ns : List Int, PyData.depthAll (ns.map PyData.int) = 0
  | [] => by simp only [List.map_nil, PyData.depthAll]
  | n :: ns => by
    simp only [List.map_cons, PyData.depthAll, PyData.depth]
    rw [dep_ints ns]
    rfl
abbrev dI (ns : List Int) : PyData := .list (ns.map PyData.int)
theorem shp_ints (ns : List Int) : SeqAt.shaped (dI ns) = true := by
  refine Bool.and_eq_true_iff.mpr ⟨?_, decide_eq_true ?_⟩
  · simp only [PyData.canLay0]
    exact lay_ints ns
  · simp only [PyData.depth]
    rw [dep_ints]
    decide
/-- a row as data -/
abbrev dE (e : Nat × Nat) : PyData := .tuple [.int (e.1 : Int), .str ⟨#[e.2]⟩]
abbrev dR (r : Row) : PyData := .list (r.map dE)
theorem dp_tups {K : PySem.W.Frag} {H : Hp} : ∀ {ts : List Addr} {r : Row}, TupsAt H ts r → DpAll K H (ts.map V.ref) (r.map dE)
  | [], [], _ => .nil
  | _ :: ts, e :: r, h => .cons (.tup (SqT.of h.1) (.cons (.int _) (.cons (.str _) .nil))) (dp_tups (ts := ts) (r := r) h.2)
  | [], _ :: _, h => h.elim
  | _ :: _, [], h => h.elim
theorem RowAt.dp {K : PySem.W.Frag} {H : Hp} {a : Addr} {r : Row} (h : RowAt H a r) : Dp K H (.ref a) (dR r) :=
  let ⟨_, h1, h2⟩ := h
  .lst (SqL.of h1) (dp_tups h2)
def Cok (r : Row) : Prop := ∀ e ∈ r, 97 ≤ e.2 ∧ e.2 ≤ 122
theorem str_ok {c : Nat} (h : c ≤ 122) : PyData.strOk ⟨#[c]⟩ = true := by
  show (#[c] : Array Nat).all (· < 0x110000) = true
  simp
  omega
theorem lay_row : ∀ r : Row, Cok r → PyData.canLayAll0 (r.map dE) = true ∧ PyData.depthAll (r.map dE) ≤ 1
  | [], _ => by
    simp only [List.map_nil, PyData.canLayAll0, PyData.depthAll]
    exact ⟨trivial, Nat.zero_le _⟩
  | e :: r, h => by
    obtain ⟨h1, h2⟩ := lay_row r fun x hx => h x (List.mem_cons_of_mem _ hx)
    simp only [List.map_cons, PyData.canLayAll0, PyData.canLay0, PyData.depthAll, PyData.depth, Bool.true_and, Bool.and_true]
    rw [h1, str_ok (h e List.mem_cons_self).2]
    refine ⟨rfl, ?_⟩
    omega
theorem shp_row (r : Row) (h : Cok r) : SeqAt.shaped (dR r) = true := by
  obtain ⟨h1, h2⟩ := lay_row r h
  refine Bool.and_eq_true_iff.mpr ⟨?_, decide_eq_true ?_⟩
  · simp only [PyData.canLay0]
    exact h1
  · simp only [PyData.depth]
    omega
theorem shp_ent (e : Nat × Nat) (h : e.2 ≤ 122) : SeqAt.shaped (dE e) = true := by
  refine Bool.and_eq_true_iff.mpr ⟨?_, decide_eq_true ?_⟩
  · simp only [PyData.canLay0, PyData.canLayAll0, Bool.true_and, Bool.and_true]
    exact str_ok h
  · simp only [PyData.depth, PyData.depthAll]
    decide
section
variable {σ : St} {H : Hp} {Q : VK} {v x y : V} {K : PySem.W.Frag} {ta te : TE} {D : Ends} {g : TG} {tb : TS}
theorem rd_eqD {d : PyData} (h1 : Dp K H x d) (h2 : Dp K H y d) (s : SeqAt.shaped d = true) (q : Q (.bl true) H) : rEqD K x y H Q :=
  ⟨d, d, h1, h2, s, s, by rw [SeqAt.eqv_refl d (SeqAt.canLay_of_shaped s)]; exact q⟩
theorem rd_neD {d : PyData} (h1 : Dp K H x d) (h2 : Dp K H y d) (s : SeqAt.shaped d = true) (q : Q (.bl false) H) : rNeD K x y H Q :=
  ⟨d, d, h1, h2, s, s, by rw [SeqAt.eqv_refl d (SeqAt.canLay_of_shaped s)]; exact q⟩
theorem rd_eqD2 {d e : PyData} (h1 : Dp K H x d) (h2 : Dp K H y e) (s : SeqAt.shaped d = true) (s2 : SeqAt.shaped e = true) {b : Bool} (hb : PyData.eqv d e = b) (q : Q (.bl b) H) : rEqD K x y H Q :=
  ⟨d, e, h1, h2, s, s2, by rw [hb]; exact q⟩
theorem rd_neD2 {d e : PyData} (h1 : Dp K H x d) (h2 : Dp K H y e) (s : SeqAt.shaped d = true) (s2 : SeqAt.shaped e = true) {b : Bool} (hb : PyData.eqv d e = b) (q : Q (.bl (!b)) H) : rNeD K x y H Q :=
  ⟨d, e, h1, h2, s, s2, by rw [hb]; exact q⟩
theorem rd_tyes {R : Bool → Hp → Prop} (q : R true H) : tYes σ H R := q
theorem rd_lstRg {tr : St → Hp → (Int → Int → Hp → Prop) → Prop} (q : tr σ H fun a b H1 => RgOk a b ∧ ∀ q, H1 q = none → Q (.ref q) (upd H1 q (.lst (rgV a b)))) : tLstRg tr σ H Q := q
theorem rd_rg1 {R : Int → Int → Hp → Prop} (q : ta σ H fun x H1 => ∃ n, x = .int n ∧ R 0 n H1) : tRg1 ta σ H R := q
theorem rd_tyL {p : Addr} {xs : List V} (h : H p = some (.lst xs)) (q : Q (.ty "list") H) : r1 kTyp [.ref p] H Q :=
  ⟨"list", by show (match H p with | some (.lst _) => _ | some (.tup _) => _ | _ => _) = _; rw [h], q⟩
theorem rd_tyT {p : Addr} {xs : List V} (h : H p = some (.tup xs)) (q : Q (.ty "tuple") H) : r1 kTyp [.ref p] H Q :=
  ⟨"tuple", by show (match H p with | some (.lst _) => _ | some (.tup _) => _ | _ => _) = _; rw [h], q⟩
end
abbrev pI (r : Row) : List Int := r.map fun e => (e.1 : Int)
theorem pI_map (r : Row) : (pI r).map V.int = r.map fun e => V.int (e.1 : Int) := by
  show (r.map _).map _ = _
  rw [List.map_map]
  rfl
abbrev rI' (n : Nat) : List Int := (List.range n).map fun i : Nat => (i : Int)
theorem rgV_is (n : Nat) : rgV 0 (n : Int) = (rI' n).map V.int := by
  unfold rgV
  rw [List.map_map, show ((n : Int) - 0).toNat = n by omega]
  apply List.map_congr_left
  intro i _
  show V.int (0 + (i : Int)) = V.int (i : Int)
  rw [Int.zero_add]
theorem sorted_is {r : Row} (h : Vr r) {ns : List Int} (hp : ns.Perm (pI r)) (hs : ns.Pairwise (· ≤ ·)) : ns = rI' r.length := by
  have h1 : (pI r).Perm (rI' r.length) := by
    have q := h.perm.map fun i : Nat => (i : Int)
    rw [List.map_map] at q
    exact q
  have h2 : (rI' r.length).Pairwise (· ≤ ·) := by
    refine List.pairwise_map.mpr (List.pairwise_lt_range.imp fun {a b} k => ?_)
    omega
  exact List.Perm.eq_of_pairwise (fun a b _ _ x y => Int.le_antisymm x y) hs h2 (hp.trans h1)
theorem lt60 {n : Nat} (h : n ≤ 60) : n < sizeLine := Nat.lt_of_le_of_lt h (by decide)
abbrev vN (p : Nat) : V := .int (p : Int)
/-! ### a call keeps a row a row -/
theorem byPerson_at {r : Row} {p : Nat} (h : p < r.length) : (byPerson r)[p]? = some (sg (colOf r p)) := by
  unfold byPerson
  rw [List.getElem?_map, List.getElem?_range h]
  rfl
def takenEach (r : Row) : List V := (List.range r.length).map fun q => oV (fo r (colOf r q))
theorem takenEach_at {r : Row} {p : Nat} (h : p < r.length) : (takenEach r)[p]? = some (oV (fo r (colOf r p))) := by
  unfold takenEach
  rw [List.getElem?_map, List.getElem?_range h]
  rfl
theorem fo_mem {r : Row} {c d : Nat} (h : fo r c = some d) : ∃ e ∈ r, e.2 = d ∧ d ≠ c := by
  unfold fo at h
  obtain ⟨e, h1, h2⟩ := Option.map_eq_some_iff.mp h
  have h3 := List.find?_some h1
  refine ⟨e, List.mem_of_find?_eq_some h1, h2, ?_⟩
  rw [← h2]
  simpa using h3
theorem colOf_mem {r : Row} {p : Nat} (h : ∃ e ∈ r, e.1 = p) : (p, colOf r p) ∈ r := by
  unfold colOf
  cases q : r.find? fun e => e.1 == p with
  | none =>
    obtain ⟨e, h1, h2⟩ := h
    have := List.find?_eq_none.mp q e h1
    exact absurd (by simpa using h2) this
  | some e =>
    have h1 := List.mem_of_find?_eq_some q
    have h2 : e.1 = p := by simpa using List.find?_some q
    show (p, e.2) ∈ r
    rw [← h2]
    exact h1
theorem perm_out {p : Nat} : ∀ {r : Row}, (r.map (·.1)).Nodup → (∃ e ∈ r, e.1 = p) → (p :: (r.filter fun e => e.1 != p).map (·.1)).Perm (r.map (·.1))
  | [], _, h => by
    obtain ⟨e, he, _⟩ := h
    cases he
  | e :: r, nd, h => by
    have nd' := List.nodup_cons.mp (show (e.1 :: r.map (·.1)).Nodup from nd)
    by_cases c : e.1 = p
    · rw [List.filter_cons_of_neg (by simpa using c)]
      have e2 : (r.filter fun e => e.1 != p) = r := by
        apply List.filter_eq_self.mpr
        intro x hx
        simp only [bne_iff_ne, ne_eq]
        intro z
        exact nd'.1 (by rw [c, ← z]; exact List.mem_map_of_mem (f := (·.1)) hx)
      rw [e2, List.map_cons, c]
    · rw [List.filter_cons_of_pos (by simpa using c), List.map_cons, List.map_cons]
      have h' : ∃ e ∈ r, e.1 = p := by
        obtain ⟨x, hx, hq⟩ := h
        rcases List.mem_cons.mp hx with z | z
        · exact absurd (z ▸ hq) c
        · exact ⟨x, z, hq⟩
      exact (List.Perm.swap _ _ _).trans ((perm_out nd'.2 h').cons _)
theorem app_perm {r : Row} (h : Vr r) {p : Nat} (hp : p < r.length) : ((app r p).map (·.1)).Perm (r.map (·.1)) := perm_out h.nodup (h.has hp)
theorem app_len {r : Row} (h : Vr r) {p : Nat} (hp : p < r.length) : (app r p).length = r.length := by
  have := (app_perm h hp).length_eq
  rw [List.length_map, List.length_map] at this
  exact this
theorem Vr.colOf {r : Row} (h : Vr r) {p : Nat} (hp : p < r.length) : 97 ≤ LX.colOf r p ∧ LX.colOf r p ≤ 122 := h.col _ (colOf_mem (h.has hp))
theorem Vr.fo {r : Row} (h : Vr r) {c d : Nat} (e : LX.fo r c = some d) : 97 ≤ d ∧ d ≤ 122 := by
  obtain ⟨x, h1, h2, _⟩ := fo_mem e
  rw [← h2]
  exact h.col x h1
theorem Vr.app {r : Row} (h : Vr r) {p : Nat} (hp : p < r.length) : Vr (LX.app r p) where
  n1 := by rw [app_len h hp]; exact h.n1
  n2 := by rw [app_len h hp]; exact h.n2
  col := by
    intro e he
    rcases List.mem_cons.mp he with z | z
    · rw [z]
      show 97 ≤ (LX.fo r (LX.colOf r p)).getD (LX.colOf r p) ∧ (LX.fo r (LX.colOf r p)).getD (LX.colOf r p) ≤ 122
      cases q : LX.fo r (LX.colOf r p) with
      | none => exact h.colOf hp
      | some d => exact h.fo q
    · exact h.col e (List.mem_filter.mp z).1
  perm := by rw [app_len h hp]; exact (app_perm h hp).trans h.perm
/-- calls one after the other -/
def apps (r : Row) (cs : List Nat) : Row := cs.foldl app r
theorem apps_snoc (r : Row) (cs : List Nat) (p : Nat) : apps r (cs ++ [p]) = app (apps r cs) p := by
  unfold apps
  rw [List.foldl_append]
  rfl
theorem apps_len {r : Row} (h : Vr r) : ∀ (cs : List Nat), (∀ p ∈ cs, p < r.length) → Vr (apps r cs) ∧ (apps r cs).length = r.length := by
  intro cs
  induction cs generalizing r with
  | nil => intro _; exact ⟨h, rfl⟩
  | cons p cs ih =>
    intro hc
    have hp := hc p List.mem_cons_self
    have := ih (h.app hp) fun q hq => by
      rw [app_len h hp]
      exact hc q (List.mem_cons_of_mem _ hq)
    exact ⟨this.1, this.2.trans (app_len h hp)⟩
theorem oV_none {o : Option Nat} : decide (oV o = V.non) = o.isNone := by
  cases o with
  | none => rfl
  | some c => rfl
theorem sz60' {n : Nat} (h : n ≤ 100) : n ≤ sizeLine := Nat.le_trans h (by decide)
/-! ### the script and its cells -/
theorem cut_ints (ns : List Int) (lo hi : Option Int) : ∃ ms : List Int, cutV (ns.map V.int) lo hi = ms.map V.int ∧ ms.length ≤ ns.length := by
  unfold cutV
  rw [← List.map_drop, ← List.map_take]
  refine ⟨_, rfl, ?_⟩
  rw [List.length_take, List.length_drop]
  omega
theorem eqv_nil (ns : List Int) : PyData.eqv (dI ns) (dI []) = decide (ns = []) := by
  cases ns with
  | nil => rfl
  | cons n ns => simp [PyData.eqv, PyData.eqvAll]
theorem rd_cut {t u : TS} {D : Ends} {σ : St} {H : Hp} (M : St → Hp → Prop) (h : t { D with nx := M } σ H) (k : ∀ σ' H', M σ' H' → u D σ' H') : Evl.tCut t u D σ H := ⟨M, h, k⟩
theorem rd_bool {H : Hp} {b : Bool} {R : Int → Prop} {Q : VK} (q : Q (.int (if b then 1 else 0)) H) : (∃ i, [V.bl b] = [V.int i] ∧ Q (.int i) H) ∨ ∃ k, [V.bl b] = [V.bl k] ∧ Q (.int (if k then 1 else 0)) H := Or.inr ⟨b, rfl, q⟩
theorem Same'.of {p : Addr} {H H' : Hp} (h : ∀ b, b ≠ p → H' b = H b) : Same' p H H' := fun b o e n => by rw [h b n]; exact e
theorem Same'.free {p q : Addr} {H H' : Hp} (s : Same' p H H') (h : H' q = none) (n : q ≠ p) : H q = none := by
  cases e : H q with
  | none => rfl
  | some o =>
    rw [s q o e n] at h
    cases h
theorem Src.not_none {H : Hp} {p q : Addr} (h : Src H p) (hq : H q = none) : q ≠ p := fun e => by
  obtain ⟨xs, h1⟩ := h.lst
  rw [e, h1] at hq
  cases hq
/-- the script: locked, or an object of the module -/
def Scr (K : PySem.W.Frag) (H : Hp) (l : Addr) (ns : List Int) : Prop := (∃ o, H l = some (.frz o (.lst (ns.map V.int)))) ∨ ∀ H', SqL K H' l (ns.map V.int)
theorem Scr.of {K : PySem.W.Frag} {H : Hp} {l : Addr} {ns : List Int} (hO : Only H) (h : SqL K H l (ns.map V.int)) : Scr K H l ns := by
  rcases h with (h | ⟨o, h⟩) | h
  · rcases hO l with z | ⟨o, xs, z⟩
    · rw [h] at z
      cases z
    · rw [h] at z
      cases z
  · exact Or.inl ⟨o, h⟩
  · exact Or.inr fun H' => Or.inr h
theorem Scr.seq {K : PySem.W.Frag} {H : Hp} {l : Addr} {ns : List Int} (h : Scr K H l ns) : SqL K H l (ns.map V.int) := by
  rcases h with ⟨o, h⟩ | h
  · exact Or.inl (Or.inr ⟨o, h⟩)
  · exact h H
theorem Scr.same {K : PySem.W.Frag} {H H' : Hp} {l : Addr} {ns : List Int} (h : Scr K H l ns) (s : Same H H') : Scr K H' l ns := by
  rcases h with ⟨o, h⟩ | h
  · exact Or.inl ⟨o, s _ _ h⟩
  · exact Or.inr h
theorem Scr.same' {K : PySem.W.Frag} {H H' : Hp} {l p : Addr} {ns : List Int} (h : Scr K H l ns) (s : Same' p H H') (hp : ∃ xs, H p = some (.lst xs)) : Scr K H' l ns := by
  rcases h with ⟨o, h⟩ | h
  · refine Or.inl ⟨o, s _ _ h fun e => ?_⟩
    obtain ⟨xs, hx⟩ := hp
    rw [e, hx] at h
    cases h
  · exact Or.inr h
theorem seqIx {n j : Nat} (h : j < n) : PySem.seqIndex? (j : Int) n = some j := by
  show (if (decide (0 ≤ if (j : Int) < 0 then (j : Int) + n else j) && decide ((if (j : Int) < 0 then (j : Int) + n else j) < (n : Int))) = true then some (if (j : Int) < 0 then (j : Int) + n else j).toNat else none) = some j
  have e : (if (j : Int) < 0 then (j : Int) + n else (j : Int)) = (j : Int) := if_neg (by omega)
  rw [e, if_pos (by rw [decide_eq_true (show (0 : Int) ≤ j by omega), decide_eq_true (show (j : Int) < n by omega)]; rfl)]
  simp
theorem erase_map {α β : Type} (f : α → β) : ∀ (l : List α) (j : Nat), (l.map f).eraseIdx j = (l.eraseIdx j).map f
  | [], _ => rfl
  | x :: l, 0 => rfl
  | x :: l, j + 1 => by
    show f x :: (l.map f).eraseIdx j = f x :: (l.eraseIdx j).map f
    rw [erase_map f l j]
theorem erase_perm {α : Type} : ∀ {l : List α} {j : Nat} {x : α}, l[j]? = some x → (x :: l.eraseIdx j).Perm l
  | [], j, x, h => by simp at h
  | y :: l, 0, x, h => by
    have e : y = x := Option.some.inj h
    rw [e]
    exact List.Perm.refl _
  | y :: l, j + 1, x, h => by
    have ih := erase_perm (l := l) (j := j) (x := x) (by simpa using h)
    exact (List.Perm.swap _ _ _).trans (ih.cons _)
theorem abc_at : ∀ m : Nat, m < 26 → atI (Str.ofString "abcdefghijklmnopqrstuvwxyz").cps.toList (m : Int) = some (97 + m) := by
  decide +kernel
theorem abc_len : (Str.ofString "abcdefghijklmnopqrstuvwxyz").length ≤ sizeLine := by
  have e : (Str.ofString "abcdefghijklmnopqrstuvwxyz").length = 26 := by decide +kernel
  rw [e]
  decide
theorem Same'.tups {p : Addr} {H H' : Hp} (s : Same' p H H') {xs : List V} (hp : H p = some (.lst xs)) : ∀ b ys, H b = some (.tup ys) → H' b = some (.tup ys) := fun b ys e => s b _ e fun q => by
  rw [q, hp] at e
  cases e
/-- a row that is being drawn -/
structure Drw (H : Hp) (D q p : Addr) (n i : Nat) (H0 : Hp) : Prop where
  ex : ∃ (us : List Addr) (rr : Row) (ls : List Nat), H D = some (.lst (us.map V.ref)) ∧ H q = some (.lst (ls.map vN)) ∧ TupsAt H us rr ∧ rr.length = i ∧ (rr.map (·.1) ++ ls).Perm (List.range n) ∧ Cok rr
  src : Src H p
  same : Same' p H0 H
theorem drw_end {H H0 : Hp} {D q p : Addr} {n : Nat} (h : Drw H D q p n n H0) (n1 : 1 ≤ n) (n2 : n ≤ 60) : ∃ r, RowAt H D r ∧ Vr r := by
  obtain ⟨us, rr, ls, h1, h2, h3, h4, h5, h6⟩ := h.ex
  have e := h5.length_eq
  rw [List.length_append, List.length_map, List.length_range] at e
  have : ls = [] := List.length_eq_zero_iff.mp (by omega)
  rw [this, List.append_nil] at h5
  exact ⟨rr, ⟨us, h1, h3⟩, ⟨by omega, by omega, h6, by rw [h4]; exact h5⟩⟩
theorem pick4 (a b c d : Int) {j : Int} (h0 : 0 ≤ j) (h1 : j < 4) : ∃ x : Int, atI [V.int a, V.int b, V.int c, V.int d] j = some (.int x) ∧ (x = a ∨ x = b ∨ x = c ∨ x = d) := by
  have : j = 0 ∨ j = 1 ∨ j = 2 ∨ j = 3 := by omega
  rcases this with e | e | e | e
  · subst e
    exact ⟨a, rfl, Or.inl rfl⟩
  · subst e
    exact ⟨b, rfl, Or.inr (Or.inl rfl)⟩
  · subst e
    exact ⟨c, rfl, Or.inr (Or.inr (Or.inl rfl))⟩
  · subst e
    exact ⟨d, rfl, Or.inr (Or.inr (Or.inr rfl))⟩
theorem rgV_nat {z : Int} (h : 0 ≤ z) : rgV 0 z = (List.range z.toNat).map vN := by
  have e : z = (z.toNat : Int) := by omega
  rw [e, rgV_is, List.map_map]
  rfl
theorem rd_ifV {σ : St} {H : Hp} {Q : VK} {v : V} {t : TT} {ta tb : TE} (b : Bool) (ht : ∀ R : Bool → Hp → Prop, R b H → t σ H R) (ha : b = true → ∀ R : VK, R v H → ta σ H R) (hb : b = false → ∀ R : VK, R v H → tb σ H R) (q : Q v H) : tIf t ta tb σ H Q := by
  refine ht _ ?_
  cases b with
  | true => exact ha rfl _ q
  | false => exact hb rfl _ q
theorem scal_oV (x y : Option Nat) : scal (oV x) (oV y) = true := by
  cases x <;> cases y <;> rfl
theorem oV_inj {x y : Option Nat} (h : oV x = oV y) : x = y := by
  cases x with
  | none =>
    cases y with
    | none => rfl
    | some b => cases h
  | some a =>
    cases y with
    | none => cases h
    | some b =>
      injection h with h
      injection h with h
      injection h with h
      injection h with h
      rw [h]
theorem sg_inj {x y : Nat} (h : sg x = sg y) : x = y := by
  have := oV_inj (x := some x) (y := some y) h
  exact Option.some.inj this
theorem sIx_nat (n d : Nat) (k : Nat) (h : k ≤ n) : HT.sIx n d (some (k : Int)) = k := by
  rw [HT.sIx_nat]
  omega
theorem cut_take (xs : List V) (k : Nat) (h : k ≤ xs.length) : cutV xs none (some (k : Int)) = xs.take k := by
  unfold cutV
  rw [sIx_nat _ _ _ h]
  have e : HT.sIx xs.length 0 none = 0 := rfl
  rw [e]
  rfl
theorem cut_drop (xs : List V) (k : Nat) (h : k ≤ xs.length) : cutV xs (some (k : Int)) none = xs.drop k := by
  unfold cutV
  rw [sIx_nat _ _ _ h]
  have e : HT.sIx xs.length xs.length none = xs.length := rfl
  rw [e]
  apply List.take_of_length_le
  rw [List.length_drop]
  omega
theorem at_last {α : Type} {l : List α} (h : 0 < l.length) : ∃ x ∈ l, atI l (-1) = some x := by
  have h2 : l.length - 1 < l.length := by omega
  refine ⟨l[l.length - 1], List.getElem_mem h2, ?_⟩
  unfold atI ixN
  rw [if_neg (by omega), if_pos (by omega)]
  show l[((-1 : Int) + l.length).toNat]? = _
  rw [show ((-1 : Int) + l.length).toNat = l.length - 1 by omega]
  exact List.getElem?_eq_getElem h2
theorem pick3 (a b c : Nat) {j : Int} (h0 : 0 ≤ j) (h1 : j < 3) : ∃ x : Nat, atI [sg a, sg b, sg c] j = some (sg x) ∧ (x = a ∨ x = b ∨ x = c) := by
  have : j = 0 ∨ j = 1 ∨ j = 2 := by omega
  rcases this with e | e | e
  · subst e
    exact ⟨a, rfl, Or.inl rfl⟩
  · subst e
    exact ⟨b, rfl, Or.inr (Or.inl rfl)⟩
  · subst e
    exact ⟨c, rfl, Or.inr (Or.inr rfl)⟩
theorem rd_forL {K : PySem.W.Frag} {σ : St} {H : Hp} {tl : TE} {g : TG} {tb : TS} {D : Ends} (M : Addr → Hp → Prop) (h1 : ∀ R : VK, (∀ b H1, M b H1 → R (.ref b) H1) → tl σ H R)
    (h2 : ∀ b H1, M b H1 → (∃ xs, SqL K H1 b xs) ∧ ∃ W : Nat → Nat → St → Hp → Prop, (∃ m, W 0 m σ H1) ∧ ∀ i m σ H, W i m σ H →
      ((Itl K b).stop i H ∧ D.nx σ H) ∨ ((Itl K b).go i H ∧ ∃ N : St → Hp → Prop, (∀ σ' H', N σ' H' → ∃ m', m' < m ∧ W (i + 1) m' σ' H') ∧ ∀ x H', (Itl K b).yld i H x H' → g x σ H' fun σ2 H2 => tb { D with nx := N, ct := N, bk := D.nx } σ2 H2)) :
    tFor (iList K tl) g tb D σ H := h1 _ fun b H1 m => ⟨b, rfl, (h2 b H1 m).1, (h2 b H1 m).2⟩
theorem cut_tail (xs : List V) : cutV xs (some 1) none = xs.drop 1 := by
  by_cases h : 1 ≤ xs.length
  · exact cut_drop xs 1 h
  · have e : xs = [] := List.length_eq_zero_iff.mp (by omega)
    rw [e]
    rfl
theorem rd_in {neg : Bool} {K : PySem.W.Frag} {H : Hp} {Q : VK} {x : V} {p : Addr} {xs : List V} {b : Bool} (h : H p = some (.lst xs)) (f : flatV x = true) (fs : xs.all flatV = true) (hb : inV x xs = b) (q : Q (.bl (if neg then !b else b)) H) : rIn K neg x (.ref p) H Q :=
  ⟨p, xs, rfl, Or.inl (SqL.of h), f, fs, by rw [hb]; exact q⟩
theorem rd_notin {K : PySem.W.Frag} {H : Hp} {Q : VK} {x : V} {p : Addr} {xs : List V} {b : Bool} (h : H p = some (.lst xs)) (f : flatV x = true) (fs : xs.all flatV = true) (hb : inV x xs = b) (q : Q (.bl (!b)) H) : rIn K true x (.ref p) H Q :=
  rd_in h f fs hb q
theorem rd_isin {K : PySem.W.Frag} {H : Hp} {Q : VK} {x : V} {p : Addr} {xs : List V} {b : Bool} (h : H p = some (.lst xs)) (f : flatV x = true) (fs : xs.all flatV = true) (hb : inV x xs = b) (q : Q (.bl b) H) : rIn K false x (.ref p) H Q :=
  rd_in h f fs hb q
theorem rd_forR {σ : St} {H : Hp} {ta : TA} {n : Int} {g : TG} {tb : TS} {D : Ends} (M : Hp → Prop) (h1 : ∀ R : List V → Hp → Prop, (∀ H1, M H1 → R [.int n] H1) → ta σ H R) (n0 : 0 ≤ n) (n1 : n ≤ 100000)
    (h2 : ∀ H1, M H1 → ∃ W : Nat → Nat → St → Hp → Prop, (∃ m, W 0 m σ H1) ∧ ∀ i m σ H, W i m σ H →
      ((Itr 0 n.toNat).stop i H ∧ D.nx σ H) ∨ ((Itr 0 n.toNat).go i H ∧ ∃ N : St → Hp → Prop, (∀ σ' H', N σ' H' → ∃ m', m' < m ∧ W (i + 1) m' σ' H') ∧ ∀ x H', (Itr 0 n.toNat).yld i H x H' → g x σ H' fun σ2 H2 => tb { D with nx := N, ct := N, bk := D.nx } σ2 H2)) :
    tFor (iRng1 ta) g tb D σ H := h1 _ fun H1 m => ⟨n, rfl, by omega, by omega, h2 H1 m⟩
theorem rd_forRn {σ : St} {H : Hp} {ta : TA} {g : TG} {tb : TS} {D : Ends} (M : Int → Hp → Prop) (h1 : ∀ R : List V → Hp → Prop, (∀ n H1, M n H1 → R [.int n] H1) → ta σ H R)
    (h2 : ∀ n H1, M n H1 → 0 ≤ n ∧ n ≤ 100000 ∧ ∃ W : Nat → Nat → St → Hp → Prop, (∃ m, W 0 m σ H1) ∧ ∀ i m σ H, W i m σ H →
      ((Itr 0 n.toNat).stop i H ∧ D.nx σ H) ∨ ((Itr 0 n.toNat).go i H ∧ ∃ N : St → Hp → Prop, (∀ σ' H', N σ' H' → ∃ m', m' < m ∧ W (i + 1) m' σ' H') ∧ ∀ x H', (Itr 0 n.toNat).yld i H x H' → g x σ H' fun σ2 H2 => tb { D with nx := N, ct := N, bk := D.nx } σ2 H2)) :
    tFor (iRng1 ta) g tb D σ H := h1 _ fun n H1 m => ⟨n, rfl, by have := (h2 n H1 m).1; omega, by have := (h2 n H1 m).2.1; omega, (h2 n H1 m).2.2⟩
/-! ### what calls take, runs -/
def takens : Row → List Nat → List (Option Nat)
  | _, [] => []
  | r, p :: cs => fo r (colOf r p) :: takens (app r p) cs
theorem takens_snoc : ∀ (r : Row) (cs : List Nat) (p : Nat), takens r (cs ++ [p]) = takens r cs ++ [fo (apps r cs) (colOf (apps r cs) p)]
  | _, [], _ => rfl
  | r, q :: cs, p => by
    show fo r (colOf r q) :: takens (app r q) (cs ++ [p]) = fo r (colOf r q) :: (takens (app r q) cs ++ [_])
    rw [takens_snoc (app r q) cs p]
    rfl
theorem takens_len : ∀ (r : Row) (cs : List Nat), (takens r cs).length = cs.length
  | _, [] => rfl
  | r, p :: cs => congrArg (· + 1) (takens_len (app r p) cs)
/-- the last run grows, or a new one begins -/
def rsnoc (acc : List (Int × Nat)) (x : Int) : List (Int × Nat) :=
  match acc.getLast? with
  | some (y, k) => if y = x then acc.set (acc.length - 1) (x, k + 1) else acc ++ [(x, 1)]
  | none => acc ++ [(x, 1)]
def runsI (cs : List Int) : List (Int × Nat) := cs.foldl rsnoc []
theorem runsI_snoc (cs : List Int) (x : Int) : runsI (cs ++ [x]) = rsnoc (runsI cs) x := by
  unfold runsI
  rw [List.foldl_append]
  rfl
theorem rsnoc_len (acc : List (Int × Nat)) (x : Int) : (rsnoc acc x).length ≤ acc.length + 1 := by
  unfold rsnoc
  split
  · split
    · rw [List.length_set]
      omega
    · rw [List.length_append]
      simp
  · rw [List.length_append]
    simp
theorem runs_fold_len : ∀ (cs : List Int) (acc : List (Int × Nat)), (cs.foldl rsnoc acc).length ≤ acc.length + cs.length
  | [], acc => Nat.le_refl _
  | x :: cs, acc => by
    have h1 := runs_fold_len cs (rsnoc acc x)
    have h2 := rsnoc_len acc x
    show (cs.foldl rsnoc (rsnoc acc x)).length ≤ acc.length + (cs.length + 1)
    omega
theorem runsI_len (cs : List Int) : (runsI cs).length ≤ cs.length := by
  have := runs_fold_len cs []
  have e : ([] : List (Int × Nat)).length = 0 := rfl
  rw [e] at this
  unfold runsI
  omega
def shortR (rs : List (Int × Nat)) : List Int := rs.flatMap fun e => List.replicate (if e.2 % 2 = 1 then 1 else 2) e.1
def short (cs : List Int) : List Int := shortR (runsI cs)
theorem shortR_snoc (rs : List (Int × Nat)) (e : Int × Nat) : shortR (rs ++ [e]) = shortR rs ++ List.replicate (if e.2 % 2 = 1 then 1 else 2) e.1 := by
  unfold shortR
  rw [List.flatMap_append, List.flatMap_cons, List.flatMap_nil, List.append_nil]
theorem shortR_len (rs : List (Int × Nat)) : (shortR rs).length ≤ 2 * rs.length := by
  induction rs with
  | nil => exact Nat.le_refl _
  | cons e rs ih =>
    unfold shortR at ih ⊢
    rw [List.flatMap_cons, List.length_append, List.length_replicate, List.length_cons]
    split <;> omega
abbrev prI (e : Int × Nat) : List V := [.int e.1, .int (e.2 : Int)]
/-- tuples of two ints -/
def PairsAt (H : Hp) : List Addr → List (Int × Nat) → Prop
  | [], [] => True
  | t :: ts, e :: r => H t = some (.tup (prI e)) ∧ PairsAt H ts r
  | _, _ => False
theorem PairsAt.len {H : Hp} : ∀ {ts : List Addr} {r : List (Int × Nat)}, PairsAt H ts r → ts.length = r.length
  | [], [], _ => rfl
  | _ :: ts, _ :: r, h => congrArg (· + 1) (PairsAt.len (ts := ts) (r := r) h.2)
  | [], _ :: _, h => h.elim
  | _ :: _, [], h => h.elim
theorem PairsAt.mono {H H' : Hp} : ∀ {ts : List Addr} {r : List (Int × Nat)}, PairsAt H ts r → (∀ b xs, H b = some (.tup xs) → H' b = some (.tup xs)) → PairsAt H' ts r
  | [], [], _, _ => True.intro
  | _ :: ts, _ :: r, h, k => ⟨k _ _ h.1, PairsAt.mono (ts := ts) (r := r) h.2 k⟩
  | [], _ :: _, h, _ => h.elim
  | _ :: _, [], h, _ => h.elim
theorem PairsAt.get {H : Hp} : ∀ {ts : List Addr} {r : List (Int × Nat)} {i : Nat} {t : Addr}, PairsAt H ts r → ts[i]? = some t → ∃ e, r[i]? = some e ∧ H t = some (.tup (prI e))
  | [], [], i, t, _, h => by simp at h
  | _ :: ts, e :: r, 0, t, h, q => by
    simp at q
    subst q
    exact ⟨e, rfl, h.1⟩
  | _ :: ts, _ :: r, i + 1, t, h, q => by
    simp at q
    obtain ⟨e, h1, h2⟩ := PairsAt.get (ts := ts) (r := r) h.2 q
    exact ⟨e, by simpa using h1, h2⟩
  | [], _ :: _, _, _, h, _ => h.elim
  | _ :: _, [], _, _, h, _ => h.elim
theorem PairsAt.snoc {H : Hp} {t : Addr} {e : Int × Nat} (ht : H t = some (.tup (prI e))) : ∀ {ts : List Addr} {r : List (Int × Nat)}, PairsAt H ts r → PairsAt H (ts ++ [t]) (r ++ [e])
  | [], [], _ => ⟨ht, True.intro⟩
  | _ :: ts, _ :: r, h => ⟨h.1, PairsAt.snoc ht (ts := ts) (r := r) h.2⟩
  | [], _ :: _, h => h.elim
  | _ :: _, [], h => h.elim
theorem PairsAt.set {H : Hp} {t : Addr} {e : Int × Nat} (ht : H t = some (.tup (prI e))) : ∀ {ts : List Addr} {r : List (Int × Nat)} (j : Nat), PairsAt H ts r → PairsAt H (ts.set j t) (r.set j e)
  | [], [], _, _ => True.intro
  | _ :: ts, _ :: r, 0, h => ⟨ht, h.2⟩
  | _ :: ts, _ :: r, j + 1, h => ⟨h.1, PairsAt.set ht (ts := ts) (r := r) j h.2⟩
  | [], _ :: _, _, h => h.elim
  | _ :: _, [], _, h => h.elim
theorem PairsAt.last {H : Hp} {ts : List Addr} {r : List (Int × Nat)} (h : PairsAt H ts r) {e : Int × Nat} (he : r.getLast? = some e) : ∃ t, ts[ts.length - 1]? = some t ∧ H t = some (.tup (prI e)) := by
  have hl := h.len
  rw [List.getLast?_eq_getElem?] at he
  have h1 : r.length - 1 < r.length := (List.getElem?_eq_some_iff.mp he).1
  have h2 : ts.length - 1 < ts.length := by omega
  have h3 := List.getElem?_eq_getElem h2
  obtain ⟨e', h4, h5⟩ := h.get h3
  rw [show ts.length - 1 = r.length - 1 by omega, he] at h4
  cases h4
  exact ⟨_, h3, h5⟩
theorem at_neg1 {α : Type} {l : List α} {x : α} (h : l[l.length - 1]? = some x) : atI l (-1) = some x := by
  have h1 := (List.getElem?_eq_some_iff.mp h).1
  unfold atI ixN
  rw [if_neg (by omega), if_pos (by omega)]
  show l[((-1 : Int) + l.length).toNat]? = _
  rw [show ((-1 : Int) + l.length).toNat = l.length - 1 by omega]
  exact h
theorem ix_neg1 {n : Nat} (h : 0 < n) : ixN n (-1) = some (n - 1) := by
  unfold ixN
  rw [if_neg (by omega), if_pos (by omega)]
  congr 1
  omega
theorem rd_truL {K : PySem.W.Frag} {H : Hp} {p : Addr} {xs : List V} {R : Bool → Prop} (h : H p = some (.lst xs)) (q : R (!xs.isEmpty)) : ∃ k, TruV K (.ref p) H k ∧ R k := ⟨_, Or.inl ⟨xs, SqL.of h, rfl⟩, q⟩
theorem rd_qtru {K : PySem.W.Frag} {σ : St} {H : Hp} {ta : TE} {Q : Bool → Hp → Prop} (q : ta σ H fun x H' => ∃ k, TruV K x H' k ∧ Q k H') : qTru K ta σ H Q := q
theorem sz1000 {n : Nat} (h : n ≤ 100000) : n < sizeLine := Nat.lt_of_le_of_lt h (by decide)
/-- a row that is filtered, its entries as they stand -/
theorem filt_turn {H : Hp} {us : List Addr} {r : Row} {i : Nat} {p : Nat × Nat → Bool} {t : Addr} {e : Nat × Nat} (h : TupsAt H us ((r.take i).filter p)) (he : r[i]? = some e) (ht : H t = some (.tup (pr e))) :
    TupsAt H (if p e = true then us ++ [t] else us) ((r.take (i + 1)).filter p) := by
  rw [take_of he, List.filter_append]
  by_cases c : p e = true
  · rw [if_pos c, List.filter_cons_of_pos c]
    exact h.app (TupsAt.one ht)
  · rw [if_neg c, List.filter_cons_of_neg c]
    show TupsAt H us (_ ++ [])
    rw [List.append_nil]
    exact h
/-- what happens to the runs, by the last one -/
theorem rsnoc_grow {acc : List (Int × Nat)} {x : Int} {k : Nat} (h : acc.getLast? = some (x, k)) : rsnoc acc x = acc.set (acc.length - 1) (x, k + 1) := by
  unfold rsnoc
  rw [h]
  show (if x = x then _ else _) = _
  rw [if_pos rfl]
theorem rsnoc_new {acc : List (Int × Nat)} {x y : Int} {k : Nat} (h : acc.getLast? = some (y, k)) (n : y ≠ x) : rsnoc acc x = acc ++ [(x, 1)] := by
  unfold rsnoc
  rw [h]
  show (if y = x then _ else _) = _
  rw [if_neg n]
theorem rsnoc_nil (x : Int) : rsnoc [] x = [(x, 1)] := rfl
theorem last_of_ne {acc : List (Int × Nat)} (h : acc ≠ []) : ∃ e, acc.getLast? = some e := ⟨_, List.getLast?_eq_some_getLast h⟩
theorem rd_iteJ {b : Bool} {σ : St} {H : Hp} {ta tb : TE} {Q : VK} (v : V) (h1 : b = true → ∀ R : VK, R v H → ta σ H R) (h2 : b = false → ∀ R : VK, R v H → tb σ H R) (q : Q v H) : if b = true then ta σ H Q else tb σ H Q := by
  cases b with
  | true => exact iteT (h1 rfl _ q)
  | false => exact iteF (h2 rfl _ q)
end LX
namespace K17
open PySem L2 LX
def top (i : Nat) : Stmt := PySem.Challenge.pw_lastother_k17_whole_only_others_matter.main.body.getD i (.Pass ⟨0, 0, 0, 0⟩)
abbrev s__law_cells : Stmt := top 26
abbrev s__law_source : Stmt := top 24
abbrev s__law_draw : Stmt := top 25
abbrev s__law_row : Stmt := top 27
abbrev s_is_integer : Stmt := top 6
abbrev s_is_color : Stmt := top 7
abbrev s_is_colored_integer : Stmt := top 12
abbrev s_is_lineup : Stmt := top 10
abbrev s_check_lineup : Stmt := top 11
abbrev s_is_person : Stmt := top 20
abbrev s_check_calls : Stmt := top 22
abbrev s_first_other_color : Stmt := top 13
abbrev s_colors_by_person : Stmt := top 14
abbrev s_apply_call : Stmt := top 19
abbrev s_lineup_after : Stmt := top 18
abbrev s_colors_taken_by_each : Stmt := top 17
abbrev s_check_person : Stmt := top 21
abbrev s_color_taken : Stmt := top 16
abbrev s__law_holds : Stmt := top 29
abbrev s_law : Stmt := top 30
structure Ad where
  f__law_cells : Addr
  d__law_cells : FuncData
  f__law_source : Addr
  d__law_source : FuncData
  f__law_draw : Addr
  d__law_draw : FuncData
  f__law_row : Addr
  d__law_row : FuncData
  f_is_integer : Addr
  d_is_integer : FuncData
  f_is_color : Addr
  d_is_color : FuncData
  f_is_colored_integer : Addr
  d_is_colored_integer : FuncData
  f_is_lineup : Addr
  d_is_lineup : FuncData
  f_check_lineup : Addr
  d_check_lineup : FuncData
  f_is_person : Addr
  d_is_person : FuncData
  f_check_calls : Addr
  d_check_calls : FuncData
  f_first_other_color : Addr
  d_first_other_color : FuncData
  f_colors_by_person : Addr
  d_colors_by_person : FuncData
  f_apply_call : Addr
  d_apply_call : FuncData
  f_lineup_after : Addr
  d_lineup_after : FuncData
  f_colors_taken_by_each : Addr
  d_colors_taken_by_each : FuncData
  f_check_person : Addr
  d_check_person : FuncData
  f_color_taken : Addr
  d_color_taken : FuncData
  f__law_holds : Addr
  d__law_holds : FuncData
  f_law : Addr
  d_law : FuncData
  t_MOST_PEOPLE : Tok
structure Txt (K : PySem.W.Frag) (mg : Str → Option Value) (a : Ad) : Prop where
  b_bool : mg "bool" = none
  b_enumerate : mg "enumerate" = none
  b_int : mg "int" = none
  b_isinstance : mg "isinstance" = none
  b_len : mg "len" = none
  b_list : mg "list" = none
  b_max : mg "max" = none
  b_min : mg "min" = none
  b_range : mg "range" = none
  b_sorted : mg "sorted" = none
  b_str : mg "str" = none
  b_tuple : mg "tuple" = none
  b_type : mg "type" = none
  c_MOST_PEOPLE : mg "MOST_PEOPLE" = some (.int 60 a.t_MOST_PEOPLE)
  F__law_cells : Fun K "_law_cells" "_law_cells" s__law_cells a.f__law_cells a.d__law_cells
  n__law_cells : Binds K a.d__law_cells ["script", "count"] []
  g__law_cells : mg "_law_cells" = some (.ref a.f__law_cells)
  k__law_cells : PySem.W.keepIn K (.ref a.f__law_cells) = true
  F__law_source : Fun K "_law_source" "_law_source" s__law_source a.f__law_source a.d__law_source
  n__law_source : Binds K a.d__law_source ["cell", "index"] []
  g__law_source : mg "_law_source" = some (.ref a.f__law_source)
  k__law_source : PySem.W.keepIn K (.ref a.f__law_source) = true
  F__law_draw : Fun K "_law_draw" "_law_draw" s__law_draw a.f__law_draw a.d__law_draw
  n__law_draw : Binds K a.d__law_draw ["source", "count"] []
  g__law_draw : mg "_law_draw" = some (.ref a.f__law_draw)
  k__law_draw : PySem.W.keepIn K (.ref a.f__law_draw) = true
  F__law_row : Fun K "_law_row" "_law_row" s__law_row a.f__law_row a.d__law_row
  n__law_row : Binds K a.d__law_row ["source", "script", "limit"] []
  g__law_row : mg "_law_row" = some (.ref a.f__law_row)
  k__law_row : PySem.W.keepIn K (.ref a.f__law_row) = true
  F_is_integer : Fun K "is_integer" "is_integer" s_is_integer a.f_is_integer a.d_is_integer
  n_is_integer : Binds K a.d_is_integer ["value"] []
  g_is_integer : mg "is_integer" = some (.ref a.f_is_integer)
  k_is_integer : PySem.W.keepIn K (.ref a.f_is_integer) = true
  F_is_color : Fun K "is_color" "is_color" s_is_color a.f_is_color a.d_is_color
  n_is_color : Binds K a.d_is_color ["value"] []
  g_is_color : mg "is_color" = some (.ref a.f_is_color)
  k_is_color : PySem.W.keepIn K (.ref a.f_is_color) = true
  F_is_colored_integer : Fun K "is_colored_integer" "is_colored_integer" s_is_colored_integer a.f_is_colored_integer a.d_is_colored_integer
  n_is_colored_integer : Binds K a.d_is_colored_integer ["value"] []
  g_is_colored_integer : mg "is_colored_integer" = some (.ref a.f_is_colored_integer)
  k_is_colored_integer : PySem.W.keepIn K (.ref a.f_is_colored_integer) = true
  F_is_lineup : Fun K "is_lineup" "is_lineup" s_is_lineup a.f_is_lineup a.d_is_lineup
  n_is_lineup : Binds K a.d_is_lineup ["value"] []
  g_is_lineup : mg "is_lineup" = some (.ref a.f_is_lineup)
  k_is_lineup : PySem.W.keepIn K (.ref a.f_is_lineup) = true
  F_check_lineup : Fun K "check_lineup" "check_lineup" s_check_lineup a.f_check_lineup a.d_check_lineup
  n_check_lineup : Binds K a.d_check_lineup ["value"] []
  g_check_lineup : mg "check_lineup" = some (.ref a.f_check_lineup)
  k_check_lineup : PySem.W.keepIn K (.ref a.f_check_lineup) = true
  F_is_person : Fun K "is_person" "is_person" s_is_person a.f_is_person a.d_is_person
  n_is_person : Binds K a.d_is_person ["lineup", "value"] []
  g_is_person : mg "is_person" = some (.ref a.f_is_person)
  k_is_person : PySem.W.keepIn K (.ref a.f_is_person) = true
  F_check_calls : Fun K "check_calls" "check_calls" s_check_calls a.f_check_calls a.d_check_calls
  n_check_calls : Binds K a.d_check_calls ["lineup", "value"] []
  g_check_calls : mg "check_calls" = some (.ref a.f_check_calls)
  k_check_calls : PySem.W.keepIn K (.ref a.f_check_calls) = true
  F_first_other_color : Fun K "first_other_color" "first_other_color" s_first_other_color a.f_first_other_color a.d_first_other_color
  n_first_other_color : Binds K a.d_first_other_color ["lineup", "color"] []
  g_first_other_color : mg "first_other_color" = some (.ref a.f_first_other_color)
  k_first_other_color : PySem.W.keepIn K (.ref a.f_first_other_color) = true
  F_colors_by_person : Fun K "colors_by_person" "colors_by_person" s_colors_by_person a.f_colors_by_person a.d_colors_by_person
  n_colors_by_person : Binds K a.d_colors_by_person ["lineup"] []
  g_colors_by_person : mg "colors_by_person" = some (.ref a.f_colors_by_person)
  k_colors_by_person : PySem.W.keepIn K (.ref a.f_colors_by_person) = true
  F_apply_call : Fun K "apply_call" "apply_call" s_apply_call a.f_apply_call a.d_apply_call
  n_apply_call : Binds K a.d_apply_call ["lineup", "person"] []
  g_apply_call : mg "apply_call" = some (.ref a.f_apply_call)
  k_apply_call : PySem.W.keepIn K (.ref a.f_apply_call) = true
  F_lineup_after : Fun K "lineup_after" "lineup_after" s_lineup_after a.f_lineup_after a.d_lineup_after
  n_lineup_after : Binds K a.d_lineup_after ["lineup", "calls"] []
  g_lineup_after : mg "lineup_after" = some (.ref a.f_lineup_after)
  k_lineup_after : PySem.W.keepIn K (.ref a.f_lineup_after) = true
  F_colors_taken_by_each : Fun K "colors_taken_by_each" "colors_taken_by_each" s_colors_taken_by_each a.f_colors_taken_by_each a.d_colors_taken_by_each
  n_colors_taken_by_each : Binds K a.d_colors_taken_by_each ["lineup"] []
  g_colors_taken_by_each : mg "colors_taken_by_each" = some (.ref a.f_colors_taken_by_each)
  k_colors_taken_by_each : PySem.W.keepIn K (.ref a.f_colors_taken_by_each) = true
  F_check_person : Fun K "check_person" "check_person" s_check_person a.f_check_person a.d_check_person
  n_check_person : Binds K a.d_check_person ["lineup", "value"] []
  g_check_person : mg "check_person" = some (.ref a.f_check_person)
  k_check_person : PySem.W.keepIn K (.ref a.f_check_person) = true
  F_color_taken : Fun K "color_taken" "color_taken" s_color_taken a.f_color_taken a.d_color_taken
  n_color_taken : Binds K a.d_color_taken ["lineup", "person"] []
  g_color_taken : mg "color_taken" = some (.ref a.f_color_taken)
  k_color_taken : PySem.W.keepIn K (.ref a.f_color_taken) = true
  F__law_holds : Fun K "_law_holds" "_law_holds" s__law_holds a.f__law_holds a.d__law_holds
  n__law_holds : Binds K a.d__law_holds ["source", "row"] []
  g__law_holds : mg "_law_holds" = some (.ref a.f__law_holds)
  k__law_holds : PySem.W.keepIn K (.ref a.f__law_holds) = true
  F_law : Fun K "law" "law" s_law a.f_law a.d_law
  n_law : Binds K a.d_law ["script"] []
  g_law : mg "law" = some (.ref a.f_law)
  k_law : PySem.W.keepIn K (.ref a.f_law) = true
theorem sc__law_cells : FnScope ["script", "count"] ["script", "count"] (defScope s__law_cells) := ⟨rfl, rfl, rfl, by decide +kernel, rfl, by decide +kernel, by decide +kernel⟩
theorem sc__law_source : FnScope ["cell", "index"] ["cell", "index"] (defScope s__law_source) := ⟨rfl, rfl, rfl, by decide +kernel, rfl, by decide +kernel, by decide +kernel⟩
theorem sc__law_draw : FnScope ["source", "count", "value"] ["source", "count"] (defScope s__law_draw) := ⟨rfl, rfl, rfl, by decide +kernel, rfl, by decide +kernel, by decide +kernel⟩
theorem sc__law_row : FnScope ["source", "script", "limit", "letters", "size", "width", "sizes", "start", "left", "k"] ["source", "script", "limit"] (defScope s__law_row) := ⟨rfl, rfl, rfl, by decide +kernel, rfl, by decide +kernel, by decide +kernel⟩
theorem sc_is_integer : FnScope ["value"] ["value"] (defScope s_is_integer) := ⟨rfl, rfl, rfl, by decide +kernel, rfl, by decide +kernel, by decide +kernel⟩
theorem sc_is_color : FnScope ["value"] ["value"] (defScope s_is_color) := ⟨rfl, rfl, rfl, by decide +kernel, rfl, by decide +kernel, by decide +kernel⟩
theorem sc_is_colored_integer : FnScope ["value"] ["value"] (defScope s_is_colored_integer) := ⟨rfl, rfl, rfl, by decide +kernel, rfl, by decide +kernel, by decide +kernel⟩
theorem sc_is_lineup : FnScope ["value", "item", "person", "_"] ["value"] (defScope s_is_lineup) := ⟨rfl, rfl, rfl, by decide +kernel, rfl, by decide +kernel, by decide +kernel⟩
theorem sc_check_lineup : FnScope ["value"] ["value"] (defScope s_check_lineup) := ⟨rfl, rfl, rfl, by decide +kernel, rfl, by decide +kernel, by decide +kernel⟩
theorem sc_is_person : FnScope ["lineup", "value"] ["lineup", "value"] (defScope s_is_person) := ⟨rfl, rfl, rfl, by decide +kernel, rfl, by decide +kernel, by decide +kernel⟩
theorem sc_check_calls : FnScope ["lineup", "value", "index", "item"] ["lineup", "value"] (defScope s_check_calls) := ⟨rfl, rfl, rfl, by decide +kernel, rfl, by decide +kernel, by decide +kernel⟩
theorem sc_first_other_color : FnScope ["lineup", "color", "_", "worn"] ["lineup", "color"] (defScope s_first_other_color) := ⟨rfl, rfl, rfl, by decide +kernel, rfl, by decide +kernel, by decide +kernel⟩
theorem sc_colors_by_person : FnScope ["lineup", "colors", "person", "color"] ["lineup"] (defScope s_colors_by_person) := ⟨rfl, rfl, rfl, by decide +kernel, rfl, by decide +kernel, by decide +kernel⟩
theorem sc_apply_call : FnScope ["lineup", "person", "color", "taken", "others", "pair"] ["lineup", "person"] (defScope s_apply_call) := ⟨rfl, rfl, rfl, by decide +kernel, rfl, by decide +kernel, by decide +kernel⟩
theorem sc_lineup_after : FnScope ["lineup", "calls", "current", "person", "_"] ["lineup", "calls"] (defScope s_lineup_after) := ⟨rfl, rfl, rfl, by decide +kernel, rfl, by decide +kernel, by decide +kernel⟩
theorem sc_colors_taken_by_each : FnScope ["lineup", "color"] ["lineup"] (defScope s_colors_taken_by_each) := ⟨rfl, rfl, rfl, by decide +kernel, rfl, by decide +kernel, by decide +kernel⟩
theorem sc_check_person : FnScope ["lineup", "value"] ["lineup", "value"] (defScope s_check_person) := ⟨rfl, rfl, rfl, by decide +kernel, rfl, by decide +kernel, by decide +kernel⟩
theorem sc_color_taken : FnScope ["lineup", "person"] ["lineup", "person"] (defScope s_color_taken) := ⟨rfl, rfl, rfl, by decide +kernel, rfl, by decide +kernel, by decide +kernel⟩
theorem sc__law_holds : FnScope ["source", "row", "who", "others", "colors", "next_colors", "turn", "some", "own", "expected", "position", "placed", "later", "front", "takes", "entry", "one", "color"] ["source", "row"] (defScope s__law_holds) := ⟨rfl, rfl, rfl, by decide +kernel, rfl, by decide +kernel, by decide +kernel⟩
theorem sc_law : FnScope ["script", "cells", "k", "source", "row"] ["script"] (defScope s_law) := ⟨rfl, rfl, rfl, by decide +kernel, rfl, by decide +kernel, by decide +kernel⟩
end K17

namespace K17
open PySem L2 LX
local macro_rules | `(tactic| walk_at "rd") => `(tactic| repeat (first
  | with_reducible refine rd_var rfl ?_ | with_reducible refine rd_c ?_ | with_reducible refine rd_op ?_ | with_reducible refine rd_un ?_ | with_reducible refine rd_I0 ?_ | with_reducible refine rd_U ?_
  | with_reducible refine rd_test ?_ | with_reducible refine rd_tB ?_ | with_reducible refine rd_bl ?_ | with_reducible refine rd_chain ?_
  | with_reducible refine rd_and ?_ | with_reducible refine rd_or ?_ | with_reducible refine rd_not ?_ | with_reducible refine rd_andV ?_ | with_reducible refine rd_orV ?_ | with_reducible refine rd_notV ?_
  | with_reducible refine rd_next ?_ | with_reducible refine rd_seq ?_ | with_reducible refine rd_drop ?_ | with_reducible refine rd_ret ?_ | with_reducible refine rd_ifS ?_ | with_reducible refine rd_asg ?_ | with_reducible refine rd_name ?_
  | with_reducible refine rd_par ?_ | with_reducible refine rd_two ?_ | with_reducible refine rd_2i ?_ | with_reducible refine rd_nil ?_ | with_reducible refine rd_cons ?_ | with_reducible refine rd_tup ?_ | with_reducible refine rd_lst ?_ | with_reducible refine rd_cb ?_ | with_reducible refine rd_call ?_
  | with_reducible refine rd_ixL (by assumption) rfl ?_ | with_reducible refine rd_ixT (by assumption) rfl ?_ | with_reducible refine rd_ixL upd_same rfl ?_ | with_reducible refine rd_sub ?_ | with_reducible refine rd_sl ?_ | with_reducible refine rd_nopart ?_ | with_reducible refine rd_part ?_ | with_reducible refine rd_int ?_
  | with_reducible refine rd_len (by assumption) ?_ | with_reducible refine rd_bm ?_ | with_reducible refine rd_bm0 ?_ | with_reducible refine rd_gcons ?_ | with_reducible refine rd_gnil ?_
  | ((with_reducible refine rd_I ?ci ?_); (case ci => first | assumption | (show (0 : Int) < _; decide) | exact Or.inl ⟨by decide, by decide⟩ | exact Or.inr ⟨by decide, by decide⟩ | exact ⟨by decide, by decide, (by decide : Int.natAbs 10 < 2 ^ 1000)⟩))
  | with_reducible refine rd_setL (by assumption) rfl ?_ | with_reducible refine rd_setL upd_same rfl ?_ | with_reducible refine rd_len upd_same ?_
  | with_reducible refine rd_2ty ?_ | with_reducible refine rd_NT ?_ | with_reducible refine rd_2s ?_ | with_reducible refine rd_lenS ?_ | with_reducible refine rd_lenT (by assumption) ?_ | ((with_reducible refine rd_typ ?ct ?_); (case ct => rfl))
  | ((with_reducible refine rd_eq ?cs ?_); (case cs => rfl)) | ((with_reducible refine rd_ne ?cs ?_); (case cs => rfl))
  | with_reducible refine rd_qtru ?_ | with_reducible refine rd_lstRg ?_ | with_reducible refine rd_rg1 ?_ | with_reducible refine rd_tyes ?_ | with_reducible refine rd_tyL (by assumption) ?_ | with_reducible refine rd_tyT (by assumption) ?_
  | with_reducible refine iteT ?_ | with_reducible refine iteF ?_ | with_reducible refine rd_nt ?_ | with_reducible refine rd_nf ?_
  | (dsimp only)))

variable {P : Program} {w : World} {K : PySem.W.Frag} {mg : Str → Option Value} {base : Heap} {a : Ad}
def sp__law_source (K : PySem.W.Frag) : Sp := fun vs H Q _ => ∃ (c k : Int), vs = [.int c, .int k] ∧ 0 ≤ k ∧ k ≤ 100 ∧ ∀ p H', H p = none → Src H' p → (∀ b, b ≠ p → H' b = H b) → Q (.ref p) H'
theorem bnd_source (c k : Int) (h0 : 0 ≤ k) (h1 : k ≤ 100) : ((c % (10 ^ 38 + 133)) ^ 3 + 582749 * k + 223606797749978969).natAbs < 2 ^ 400 := by
  have a0 := Int.emod_nonneg c (show (10 ^ 38 + 133 : Int) ≠ 0 by decide)
  have a1 := Int.emod_lt_of_pos c (show (0 : Int) < 10 ^ 38 + 133 by decide)
  generalize c % (10 ^ 38 + 133) = x at a0 a1
  have b1 : x ^ 2 ≤ (10 ^ 39) * (10 ^ 39) := by
    rw [Int.pow_succ, Int.pow_one]
    exact Int.mul_le_mul (by omega) (by omega) a0 (by decide)
  have b2 : x ^ 3 ≤ (10 ^ 39) * (10 ^ 39) * (10 ^ 39) := by
    rw [Int.pow_succ]
    exact Int.mul_le_mul b1 (by omega) a0 (by decide)
  have b0 : 0 ≤ x ^ 3 := Int.pow_nonneg a0
  have e : (2 : Nat) ^ 400 = 2582249878086908589655919172003011874329705792829223512830659356540647622016841194629645353280137831435903171972747493376 := by decide
  rw [e]
  generalize x ^ 3 = y at b0 b2
  omega
theorem ok__law_source (T : Txt K mg a) : FnOk P w K mg base CX0 1 a.f__law_source a.d__law_source ["cell", "index"] (sp__law_source K) := by
  refine T.F__law_source.ok sc__law_source (fun vs H Q E h => ?_) (fun cdv A outer s H vs Q E hr h => ?_)
  · obtain ⟨c, k, rfl, _⟩ := h
    rfl
  · obtain ⟨c, k, rfl, k0, k1, kq⟩ := h
    have hu := hu_of hr
    have nd := sc__law_source.nd
    refine ⟨_, (pss_one (ps_ret (pe_lst (pa_cons (pe_callB (call_max2 rfl) (by rfl) T.b_max (by decide +kernel) (pa_cons pe_int (pa_cons (pe_op op_sub (pv 0) (pe_op op_powW pe_int pe_int)) pa_nil))) (pa_cons (pe_op op_add (pe_op op_add (pe_op op_powW (pe_op op_mod (pv 0) (pe_op op_add (pe_op op_powW pe_int pe_int) pe_int)) pe_int) (pe_op op_mul pe_int (pv 1))) pe_int) (pa_cons pe_int pa_nil)))))), ?_⟩
    walk_at "rd"
    refine rd_I (C := CPowW) ⟨by decide, by decide, ?_⟩ ?_
    · have a0 := Int.emod_nonneg c (show (10 ^ 38 + 133 : Int) ≠ 0 by decide)
      have a1 := Int.emod_lt_of_pos c (show (0 : Int) < 10 ^ 38 + 133 by decide)
      refine Nat.lt_of_lt_of_le (m := 2 ^ 200) ?_ (Nat.pow_le_pow_right (by decide) (by decide))
      show (c % (10 ^ 38 + 133)).natAbs < 2 ^ 200
      omega
    walk_at "rd"
    refine ⟨rd_sl_len (by simp only [List.length_cons, List.length_nil]; decide), fun p np => kq p _ np ⟨⟨_, _, _, upd_same, bnd_source c k k0 k1⟩⟩ fun b nb => upd_ne nb⟩
def sp__law_draw (K : PySem.W.Frag) : Sp := fun vs H Q _ => ∃ (p : Addr) (n : Int), vs = [.ref p, .int n] ∧ Src H p ∧ 0 < n ∧ n < 2 ^ 60 ∧
  ∀ (r : Int) H', 0 ≤ r → r < n → Src H' p → (∀ b, b ≠ p → H' b = H b) → Q (.int r) H'
theorem ok__law_draw (T : Txt K mg a) : FnOk P w K mg base CX0 1 a.f__law_draw a.d__law_draw ["source", "count"] (sp__law_draw K) := by
  refine T.F__law_draw.ok sc__law_draw (fun vs H Q E h => ?_) (fun cdv A outer s H vs Q E hr h => ?_)
  · obtain ⟨p, n, rfl, _⟩ := h
    rfl
  · obtain ⟨p, n, rfl, S, n0, n1, kq⟩ := h
    obtain ⟨s0, s1, s2, hp, hs1⟩ := S.ex
    have hu := hu_of hr
    have nd := sc__law_draw.nd
    have nw : n.natAbs < 2 ^ 60 := by omega
    refine ⟨_, (pss_cons (ps_if (pt_cmpR op_gt (pe_ix (kix_list (K := K)) (pv 0) pe_int (fun _ _ => rfl)) pe_int (nomark _)) (pss_cons (ps_set (i := 2) nd rfl (Or.inl rfl) (pe_op op_mod (pe_ix (kix_list (K := K)) (pv 0) pe_int (fun _ _ => rfl)) (pv 1)))
      (pss_cons (ps_asg (pe_op op_fdivW (pe_ix (kix_list (K := K)) (pv 0) pe_int (fun _ _ => rfl)) (pv 1)) (pg_sub (pv 0) pe_int set_list))
      (pss_one (ps_ret (pv 2))))) pss_nil)
      (pss_cons (ps_asg (pe_op op_add (pe_ix (kix_list (K := K)) (pv 0) pe_int (fun _ _ => rfl)) pe_int) (pg_sub (pv 0) pe_int set_list))
      (pss_cons (ps_asg (pe_op op_mod (pe_op op_add (pe_op op_add (pe_op op_powW (pe_ix (kix_list (K := K)) (pv 0) pe_int (fun _ _ => rfl)) pe_int) (pe_op op_mul pe_int (pe_ix (kix_list (K := K)) (pv 0) pe_int (fun _ _ => rfl)))) pe_int) (pe_op op_add (pe_op op_powW pe_int pe_int) pe_int)) (pg_sub (pv 0) pe_int set_list))
      (pss_one (ps_ret (pe_op op_mod (pe_op op_fdivW (pe_ix (kix_list (K := K)) (pv 0) pe_int (fun _ _ => rfl)) (pe_op op_powW pe_int pe_int)) (pv 1))))))), ?_⟩
    walk_at "rd"
    refine rd_dec (fun c => ?_) fun c => ?_
    · walk_at "rd"
      refine rd_I (wide_div n0 nw (by decide) (by decide)) ?_
      walk_at "rd"
      exact kq _ _ (Int.emod_nonneg _ (by omega)) (Int.emod_lt_of_pos _ n0) ⟨⟨_, _, _, upd_same, hs1⟩⟩ fun b nb => upd_ne nb
    · walk_at "rd"
      refine rd_I ⟨by decide, by decide, Nat.lt_of_lt_of_le hs1 (Nat.pow_le_pow_right (by decide) (by decide))⟩ ?_
      walk_at "rd"
      refine rd_I (wide_div (b := 60) (by decide) (by decide) (by decide) (by decide)) ?_
      walk_at "rd"
      refine kq _ _ (Int.emod_nonneg _ (by omega)) (Int.emod_lt_of_pos _ n0) ⟨⟨_, _, _, upd_same, ?_⟩⟩ fun b nb => ?_
      · have e : (10 ^ Int.toNat 33 + 61 : Int) = 1000000000000000000000000000000061 := by decide
        rw [e]
        have a0 := Int.emod_nonneg (s1 ^ Int.toNat 3 + 370248451 * (s2 + 1) + 5) (show (1000000000000000000000000000000061 : Int) ≠ 0 by decide)
        have a1 := Int.emod_lt_of_pos (s1 ^ Int.toNat 3 + 370248451 * (s2 + 1) + 5) (show (0 : Int) < 1000000000000000000000000000000061 by decide)
        generalize (s1 ^ Int.toNat 3 + 370248451 * (s2 + 1) + 5) % 1000000000000000000000000000000061 = x at a0 a1 ⊢
        have e2 : (2 : Nat) ^ 400 = 2582249878086908589655919172003011874329705792829223512830659356540647622016841194629645353280137831435903171972747493376 := by decide
        rw [e2]
        omega
      · rw [upd_ne nb, upd_ne nb]
end K17

namespace K17
open PySem L2 LX
local macro_rules | `(tactic| walk_at "rd") => `(tactic| repeat (first
  | with_reducible refine rd_var rfl ?_ | with_reducible refine rd_c ?_ | with_reducible refine rd_op ?_ | with_reducible refine rd_un ?_ | with_reducible refine rd_I0 ?_ | with_reducible refine rd_U ?_
  | with_reducible refine rd_test ?_ | with_reducible refine rd_tB ?_ | with_reducible refine rd_bl ?_ | with_reducible refine rd_chain ?_
  | with_reducible refine rd_and ?_ | with_reducible refine rd_or ?_ | with_reducible refine rd_not ?_ | with_reducible refine rd_andV ?_ | with_reducible refine rd_orV ?_ | with_reducible refine rd_notV ?_
  | with_reducible refine rd_next ?_ | with_reducible refine rd_seq ?_ | with_reducible refine rd_drop ?_ | with_reducible refine rd_ret ?_ | with_reducible refine rd_ifS ?_ | with_reducible refine rd_asg ?_ | with_reducible refine rd_name ?_
  | with_reducible refine rd_par ?_ | with_reducible refine rd_two ?_ | with_reducible refine rd_2i ?_ | with_reducible refine rd_nil ?_ | with_reducible refine rd_cons ?_ | with_reducible refine rd_tup ?_ | with_reducible refine rd_lst ?_ | with_reducible refine rd_cb ?_ | with_reducible refine rd_call ?_
  | with_reducible refine rd_ixL (by assumption) rfl ?_ | with_reducible refine rd_ixT (by assumption) rfl ?_ | with_reducible refine rd_ixL upd_same rfl ?_ | with_reducible refine rd_sub ?_ | with_reducible refine rd_sl ?_ | with_reducible refine rd_nopart ?_ | with_reducible refine rd_part ?_ | with_reducible refine rd_int ?_
  | with_reducible refine rd_len (by assumption) ?_ | with_reducible refine rd_bm ?_ | with_reducible refine rd_bm0 ?_ | with_reducible refine rd_gcons ?_ | with_reducible refine rd_gnil ?_
  | ((with_reducible refine rd_I ?ci ?_); (case ci => first | assumption | (show (0 : Int) < _; decide) | exact Or.inl ⟨by decide, by decide⟩ | exact Or.inr ⟨by decide, by decide⟩ | exact ⟨by decide, by decide, (by decide : Int.natAbs 10 < 2 ^ 1000)⟩))
  | with_reducible refine rd_setL (by assumption) rfl ?_ | with_reducible refine rd_setL upd_same rfl ?_ | with_reducible refine rd_len upd_same ?_
  | with_reducible refine rd_2ty ?_ | with_reducible refine rd_NT ?_ | with_reducible refine rd_2s ?_ | with_reducible refine rd_lenS ?_ | with_reducible refine rd_lenT (by assumption) ?_ | ((with_reducible refine rd_typ ?ct ?_); (case ct => rfl))
  | ((with_reducible refine rd_eq ?cs ?_); (case cs => rfl)) | ((with_reducible refine rd_ne ?cs ?_); (case cs => rfl))
  | with_reducible refine rd_qtru ?_ | with_reducible refine rd_lstRg ?_ | with_reducible refine rd_rg1 ?_ | with_reducible refine rd_tyes ?_ | with_reducible refine rd_tyL (by assumption) ?_ | with_reducible refine rd_tyT (by assumption) ?_
  | with_reducible refine iteT ?_ | with_reducible refine iteF ?_ | with_reducible refine rd_nt ?_ | with_reducible refine rd_nf ?_
  | (dsimp only)))

variable {P : Program} {w : World} {K : PySem.W.Frag} {mg : Str → Option Value} {base : Heap} {a : Ad}
def sp_is_integer (K : PySem.W.Frag) : Sp := fun vs H Q _ => ∃ i : Int, vs = [.int i] ∧ Q (.bl true) H
theorem ok_is_integer (T : Txt K mg a) : FnOk P w K mg base CX0 1 a.f_is_integer a.d_is_integer ["value"] (sp_is_integer K) := by
  refine T.F_is_integer.ok sc_is_integer (fun vs H Q E h => ?_) (fun cdv A outer s H vs Q E hr h => ?_)
  · obtain ⟨i, rfl, _⟩ := h
    rfl
  · obtain ⟨i, rfl, kq⟩ := h
    have nd := sc_is_integer.nd
    refine ⟨_, (pss_one (ps_ret (pe_and (pe_callB (kisi (K := K)) (by rfl) T.b_isinstance (by decide +kernel) (pa_cons (pv 0) (pa_cons (pe_bltn (v := .ty "int") (by rfl) T.b_int (by decide +kernel) rfl) pa_nil))) (pe_one (pe_not (pe_callB (kisi (K := K)) (by rfl) T.b_isinstance (by decide +kernel) (pa_cons (pv 0) (pa_cons (pe_bltn (v := .ty "bool") (by rfl) T.b_bool (by decide +kernel) rfl) pa_nil)))))))), ?_⟩
    walk_at "rd"
    refine rd_isi (.ty "int") (.base (.int i)) (kit_ty (r := true) (by decide +kernel)) ?_
    walk_at "rd"
    refine rd_isi (.ty "bool") (.base (.int i)) (kit_ty (r := false) (by decide +kernel)) ?_
    walk_at "rd"
    exact kq
def sp_is_color (K : PySem.W.Frag) : Sp := fun vs H Q _ => ∃ c : Nat, vs = [sg c] ∧ 97 ≤ c ∧ c ≤ 122 ∧ Q (.bl true) H
theorem ok_is_color (T : Txt K mg a) : FnOk P w K mg base CX0 1 a.f_is_color a.d_is_color ["value"] (sp_is_color K) := by
  refine T.F_is_color.ok sc_is_color (fun vs H Q E h => ?_) (fun cdv A outer s H vs Q E hr h => ?_)
  · obtain ⟨i, rfl, _⟩ := h
    rfl
  · obtain ⟨c, rfl, c0, c1, kq⟩ := h
    have nd := sc_is_color.nd
    refine ⟨_, (pss_one (ps_ret (pe_and (pe_cmpR op_isTyB (pe_typeOf rfl T.b_type (pv 0)) (pe_bltn (v := .ty "str") (by rfl) T.b_str (by decide +kernel) rfl) (nomark _)) (pe_and (pe_cmpR op_eq (pe_callB call_len_str (by rfl) T.b_len (by decide +kernel) (pa_cons (pv 0) pa_nil)) pe_int (nomark _)) (pe_one (pe_chain op_le_str op_le_str pe_str (pv 0) pe_str)))))), ?_⟩
    walk_at "rd"
    refine rd_typ (n := "str") rfl ?_
    walk_at "rd"
    refine rd_yes rfl ?_
    walk_at "rd"
    refine ⟨by show 1 ≤ sizeLine; decide, ?_⟩
    walk_at "rd"
    refine rd_yes rfl ?_
    walk_at "rd"
    refine rd_ndec (fun k => ?_) fun k => absurd k ?_
    · walk_at "rd"
      have e : (!decide (([122] : List Nat) < [c])) = true := by
        rw [decide_eq_false] <;> first | rfl | skip
        intro z
        rcases List.cons_lt_cons_iff.mp z with z | z
        · omega
        · exact absurd z.2 (List.lt_irrefl _)
      have e2 : Q (.bl (!decide (([122] : List Nat) < [c]))) H := by
        rw [e]
        exact kq
      exact e2
    · intro z
      rcases List.cons_lt_cons_iff.mp (show ([c] : List Nat) < [97] from z) with z | z
      · omega
      · exact absurd z.2 (List.lt_irrefl _)
def sp_is_colored_integer (K : PySem.W.Frag) : Sp := fun vs H Q _ => ∃ (t : Addr) (e : Nat × Nat), vs = [.ref t] ∧ H t = some (.tup (pr e)) ∧ 97 ≤ e.2 ∧ e.2 ≤ 122 ∧ Q (.bl true) H
theorem ok_is_colored_integer (T : Txt K mg a) : FnOk P w K mg base CX0 2 a.f_is_colored_integer a.d_is_colored_integer ["value"] (sp_is_colored_integer K) := by
  refine T.F_is_colored_integer.ok sc_is_colored_integer (fun vs H Q E h => ?_) (fun cdv A outer s H vs Q E hr h => ?_)
  · obtain ⟨t, e, rfl, _⟩ := h
    rfl
  · obtain ⟨t, e, rfl, ht, c0, c1, kq⟩ := h
    have nd := sc_is_colored_integer.nd
    refine ⟨_, (pss_one (ps_ret (pe_and (pe_cmpR op_isTyB (pe_typeOf rfl T.b_type (pv 0)) (pe_bltn (v := .ty "tuple") (by rfl) T.b_tuple (by decide +kernel) rfl) (nomark _)) (pe_and (pe_cmpR op_eq (pe_callB (klen (K := K)) (by rfl) T.b_len (by decide +kernel) (pa_cons (pv 0) pa_nil)) pe_int (nomark _)) (pe_and (pe_call (ok_is_integer T) (hr.mono (by decide)) rfl T.g_is_integer T.k_is_integer T.n_is_integer .nil pass0 (pa_cons (pe_ix (kix_tup (K := K)) (pv 0) pe_int (fun _ _ => rfl)) pa_nil)) (pe_one (pe_call (ok_is_color T) (hr.mono (by decide)) rfl T.g_is_color T.k_is_color T.n_is_color .nil pass0 (pa_cons (pe_ix (kix_tup (K := K)) (pv 0) pe_int (fun _ _ => rfl)) pa_nil)))))))), ?_⟩
    walk_at "rd"
    refine rd_yes rfl ?_
    walk_at "rd"
    refine rd_yes rfl ?_
    walk_at "rd"
    refine ⟨_, rfl, ?_⟩
    walk_at "rd"
    refine ⟨_, rfl, c0, c1, kq⟩
def sp_first_other_color (K : PySem.W.Frag) : Sp := fun vs H Q _ => ∃ (l : Addr) (r : Row) (c : Nat), vs = [.ref l, sg c] ∧ RowAt H l r ∧ Q (oV (fo r c)) H
theorem ok_first_other_color (T : Txt K mg a) : FnOk P w K mg base CX0 1 a.f_first_other_color a.d_first_other_color ["lineup", "color"] (sp_first_other_color K) := by
  refine T.F_first_other_color.ok sc_first_other_color (fun vs H Q E h => ?_) (fun cdv A outer s H vs Q E hr h => ?_)
  · obtain ⟨l, r, c, rfl, _⟩ := h
    rfl
  · obtain ⟨l, r, c, rfl, ⟨ts, hl, ht⟩, kq⟩ := h
    have nd := sc_first_other_color.nd
    refine ⟨_, (pss_cons (ps_for PassesOwn.never rfl (kpi_list (K := K) (pv 0)) (kpg_tup (K := K) rfl (pgs_cons (pg_name (i := 2) nd rfl (Or.inl rfl)) (pgs_cons (pg_name (i := 3) nd rfl (Or.inl rfl)) pgs_nil))) (pss_one (ps_if (pt_cmpR op_ne (pv 3) (pv 1) (nomark _)) (pss_one (ps_ret (pv 3))) pss_nil)))
      (pss_one (ps_ret pe_non))), ?_⟩
    walk_at "rd"
    refine ⟨_, rfl, l, rfl, ⟨_, SqL.of hl⟩, for_list (K := K) (a := l) (xs := ts.map V.ref) (fun i σ H' => ∃ x y, σ = [some (.ref l), some (sg c), x, y] ∧ H' = H ∧ fo (r.drop i) c = fo r c)
      ⟨none, none, rfl, rfl, rfl⟩ (fun i σ H' _ ⟨_, _, _, e, _⟩ => e ▸ SqL.of hl) ?_ ?_⟩
    · rintro i v σ H' hi ⟨x, y, rfl, rfl, hf⟩
      rw [List.getElem?_map] at hi
      obtain ⟨t, h1, rfl⟩ := Option.map_eq_some_iff.mp hi
      obtain ⟨e, h2, h3⟩ := ht.get h1
      rw [drop_of h2] at hf
      refine rd_gtup h3 rfl ?_
      walk_at "rd"
      refine rd_ndec (fun k => ?_) fun k => ?_
      · walk_at "rd"
        have q : e.2 ≠ c := fun z => k (by rw [z])
        rw [fo_yes q] at hf
        rw [← hf] at kq
        exact kq
      · walk_at "rd"
        have q : e.2 = c := by
          injection k with k
          injection k with k
          injection k with k
          injection k with k
        rw [fo_no q] at hf
        exact ⟨_, _, rfl, rfl, hf⟩
    · rintro σ H' ⟨x, y, rfl, rfl, hf⟩
      rw [List.length_map, ht.len, List.drop_length] at hf
      walk_at "rd"
      rw [← hf] at kq
      exact kq
def sp_colors_by_person (K : PySem.W.Frag) : Sp := fun vs H Q _ => ∃ (l : Addr) (r : Row), vs = [.ref l] ∧ RowAt H l r ∧ Vr r ∧
  ∀ p H', H p = none → Same H H' → H' p = some (.lst (byPerson r)) → Q (.ref p) H'
theorem ok_colors_by_person (T : Txt K mg a) : FnOk P w K mg base CX0 1 a.f_colors_by_person a.d_colors_by_person ["lineup"] (sp_colors_by_person K) := by
  refine T.F_colors_by_person.ok sc_colors_by_person (fun vs H Q E h => ?_) (fun cdv A outer s H vs Q E hr h => ?_)
  · obtain ⟨l, r, rfl, _⟩ := h
    rfl
  · obtain ⟨l, r, rfl, ⟨ts, hl, ht⟩, V0, kq⟩ := h
    have nd := sc_colors_by_person.nd
    refine ⟨_, (pss_cons (ps_set (i := 1) nd rfl (Or.inl rfl) (pe_op op_rep (pe_lst (pa_cons pe_str pa_nil)) (pe_callB (klen (K := K)) (by rfl) T.b_len (by decide +kernel) (pa_cons (pv 0) pa_nil))))
      (pss_cons (ps_for PassesOwn.never rfl (kpi_list (K := K) (pv 0)) (kpg_tup (K := K) rfl (pgs_cons (pg_name (i := 2) nd rfl (Or.inl rfl)) (pgs_cons (pg_name (i := 3) nd rfl (Or.inl rfl)) pgs_nil))) (pss_one (ps_asg (pv 3) (pg_sub (pv 1) (pv 2) set_list))))
      (pss_one (ps_ret (pv 1))))), ?_⟩
    walk_at "rd"
    refine ⟨by show 1 ≤ sizeLine; decide, fun b hb => ?_⟩
    have hl' : ∀ o, upd H b o l = some (.lst (ts.map V.ref)) := fun o => by
      rw [upd_ne (ne_of_none hl hb)]
      exact hl
    walk_at "rd"
    refine rd_len (hl' _) ?_
    walk_at "rd"
    refine ⟨b, _, _, rfl, rfl, upd_same, by omega, ?_, ?_, fun q hq => ?_⟩
    · have := V0.n2
      rw [List.length_map, ht.len]
      omega
    · show 1 * (((ts.map V.ref).length : Nat) : Int).toNat ≤ sizeLine
      have := V0.n2
      rw [List.length_map, ht.len, Int.toNat_natCast]
      exact sz60 (by omega)
    have hqb : q ≠ b := fun z => by
      rw [z, upd_same] at hq
      cases hq
    have hqH : H q = none := by
      rw [upd_ne hqb] at hq
      exact hq
    have s1 : Same H (upd (upd H b (.lst [V.str (Str.ofString "")])) q (.lst (List.replicate (((ts.map V.ref).length : Nat) : Int).toNat [V.str (Str.ofString "")]).flatten)) := sUpd (sNew hb) hqH
    walk_at "rd"
    refine ⟨_, rfl, l, rfl, ⟨_, SqL.of (s1 _ _ hl)⟩, for_list (K := K) (a := l) (xs := ts.map V.ref) (fun i σ H' => ∃ x y, σ = [some (.ref l), some (.ref q), x, y] ∧ Same H H' ∧ H' q = some (.lst (fillC (List.replicate r.length (V.str (Str.ofString ""))) (r.take i))))
      ⟨none, none, rfl, s1, ?_⟩ (fun i σ H' _ ⟨_, _, _, e, _⟩ => SqL.of (e _ _ hl)) ?_ ?_⟩
    · rw [upd_same, List.length_map, ht.len, Int.toNat_natCast, flat_rep]
      rfl
    · rintro i v σ H' hi ⟨x, y, rfl, s2, hf⟩
      rw [List.getElem?_map] at hi
      obtain ⟨t, h1, rfl⟩ := Option.map_eq_some_iff.mp hi
      obtain ⟨e, h2, h3⟩ := ht.get h1
      refine rd_gtup (s2 _ _ h3) rfl ?_
      walk_at "rd"
      have hlt : e.1 < (fillC (List.replicate r.length (V.str (Str.ofString ""))) (r.take i)).length := by
        rw [fillC_len, List.length_replicate]
        exact V0.lt (getElem?_mem h2)
      refine rd_setL hf (ixN_nat hlt) ?_
      refine ⟨_, _, rfl, sUpd s2 hqH, ?_⟩
      rw [upd_same, take_of h2, fillC_snoc]
    · rintro σ H' ⟨x, y, rfl, s2, hf⟩
      walk_at "rd"
      rw [List.length_map, ht.len, List.take_length, fillC_is V0] at hf
      exact kq q H' hqH s2 hf
end K17

namespace K17
open PySem L2 LX
local macro_rules | `(tactic| walk_at "rd") => `(tactic| repeat (first
  | with_reducible refine rd_var rfl ?_ | with_reducible refine rd_c ?_ | with_reducible refine rd_op ?_ | with_reducible refine rd_un ?_ | with_reducible refine rd_I0 ?_ | with_reducible refine rd_U ?_
  | with_reducible refine rd_test ?_ | with_reducible refine rd_tB ?_ | with_reducible refine rd_bl ?_ | with_reducible refine rd_chain ?_
  | with_reducible refine rd_and ?_ | with_reducible refine rd_or ?_ | with_reducible refine rd_not ?_ | with_reducible refine rd_andV ?_ | with_reducible refine rd_orV ?_ | with_reducible refine rd_notV ?_
  | with_reducible refine rd_next ?_ | with_reducible refine rd_seq ?_ | with_reducible refine rd_drop ?_ | with_reducible refine rd_ret ?_ | with_reducible refine rd_ifS ?_ | with_reducible refine rd_asg ?_ | with_reducible refine rd_name ?_
  | with_reducible refine rd_par ?_ | with_reducible refine rd_two ?_ | with_reducible refine rd_2i ?_ | with_reducible refine rd_nil ?_ | with_reducible refine rd_cons ?_ | with_reducible refine rd_tup ?_ | with_reducible refine rd_lst ?_ | with_reducible refine rd_cb ?_ | with_reducible refine rd_call ?_
  | with_reducible refine rd_ixL (by assumption) rfl ?_ | with_reducible refine rd_ixT (by assumption) rfl ?_ | with_reducible refine rd_ixL upd_same rfl ?_ | with_reducible refine rd_sub ?_ | with_reducible refine rd_sl ?_ | with_reducible refine rd_nopart ?_ | with_reducible refine rd_part ?_ | with_reducible refine rd_int ?_
  | with_reducible refine rd_len (by assumption) ?_ | with_reducible refine rd_bm ?_ | with_reducible refine rd_bm0 ?_ | with_reducible refine rd_gcons ?_ | with_reducible refine rd_gnil ?_
  | ((with_reducible refine rd_I ?ci ?_); (case ci => first | assumption | (show (0 : Int) < _; decide) | exact Or.inl ⟨by decide, by decide⟩ | exact Or.inr ⟨by decide, by decide⟩ | exact ⟨by decide, by decide, (by decide : Int.natAbs 10 < 2 ^ 1000)⟩))
  | with_reducible refine rd_setL (by assumption) rfl ?_ | with_reducible refine rd_setL upd_same rfl ?_ | with_reducible refine rd_len upd_same ?_
  | with_reducible refine rd_2ty ?_ | with_reducible refine rd_NT ?_ | with_reducible refine rd_2s ?_ | with_reducible refine rd_lenS ?_ | with_reducible refine rd_lenT (by assumption) ?_ | ((with_reducible refine rd_typ ?ct ?_); (case ct => rfl))
  | ((with_reducible refine rd_eq ?cs ?_); (case cs => rfl)) | ((with_reducible refine rd_ne ?cs ?_); (case cs => rfl))
  | with_reducible refine rd_qtru ?_ | with_reducible refine rd_lstRg ?_ | with_reducible refine rd_rg1 ?_ | with_reducible refine rd_tyes ?_ | with_reducible refine rd_tyL (by assumption) ?_ | with_reducible refine rd_tyT (by assumption) ?_
  | with_reducible refine iteT ?_ | with_reducible refine iteF ?_ | with_reducible refine rd_nt ?_ | with_reducible refine rd_nf ?_
  | (dsimp only)))

variable {P : Program} {w : World} {K : PySem.W.Frag} {mg : Str → Option Value} {base : Heap} {a : Ad}
def sp_is_lineup (K : PySem.W.Frag) : Sp := fun vs H Q _ => ∃ (l : Addr) (r : Row), vs = [.ref l] ∧ RowAt H l r ∧ Vr r ∧ ∀ H', Same H H' → Q (.bl true) H'
theorem ok_is_lineup (T : Txt K mg a) : FnOk P w K mg base CX0 3 a.f_is_lineup a.d_is_lineup ["value"] (sp_is_lineup K) := by
  refine T.F_is_lineup.ok sc_is_lineup (fun vs H Q E h => ?_) (fun cdv A outer s H vs Q E hr h => ?_)
  · obtain ⟨l, r, rfl, _⟩ := h
    rfl
  · obtain ⟨l, r, rfl, ⟨ts, hl, ht⟩, V0, kq⟩ := h
    have nd := sc_is_lineup.nd
    have hu := hu_of hr
    have hu64 := hr.units
    have hlen : (ts.map V.ref).length = r.length := by rw [List.length_map, ht.len]
    refine ⟨_, (pss_cons (ps_if (PW.pt (pw_or (pt_cmpR op_notTyB (pe_typeOf rfl T.b_type (pv 0)) (pe_bltn (v := .ty "list") (by rfl) T.b_list (by decide +kernel) rfl) (nomark _)) (pw_or1 (pt_not (pt_chain op_le op_le pe_int (pe_callB (klen (K := K)) (by rfl) T.b_len (by decide +kernel) (pa_cons (pv 0) pa_nil)) (pe_glob (v := .int 60) rfl T.c_MOST_PEOPLE ⟨_, rfl⟩)))))) (pss_one (ps_ret pe_bl)) pss_nil)
      (pss_cons (ps_for PassesOwn.never rfl (kpi_list (K := K) (pv 0)) (pg_name (i := 1) nd rfl (Or.inl rfl)) (pss_one (ps_if (pt_not (pt_val (pe_call (ok_is_colored_integer T) (hr.mono (by decide)) rfl T.g_is_colored_integer T.k_is_colored_integer T.n_is_colored_integer .nil pass0 (pa_cons (pv 1) pa_nil)))) (pss_one (ps_ret pe_bl)) pss_nil)))
      (pss_one (ps_ret (pe_cmpR (keqD (K := K) hu64) (pe_callB (ksorted (K := K)) (by rfl) T.b_sorted (by decide +kernel) (pa_cons (pe_lc (own := [("person", 2), ("_", 3)]) (g := gTup K 2 (gCons (gName 2) (gCons (gName 3) gNil))) (tt := tYes) rfl nd (kpi_list (K := K) (pv 0)) (blkOk_by (own := [("person", 2), ("_", 3)]) (N := ["value", "item", "person", "_"]) (sc := defScope s_is_lineup) (by decide +kernel)) (fun _ _ _ _ _ => (kpg_tup (K := K) rfl (pgs_cons (pg_name (i := 2) nd rfl (Or.inl rfl)) (pgs_cons (pg_name (i := 3) nd rfl (Or.inl rfl)) pgs_nil)))) (fun _ _ _ _ _ => pts_nil) (fun _ _ _ _ _ => (pv 2))) pa_nil)) (pe_listRg rfl rfl T.b_list (prg_1 rfl T.b_range (pe_callB (klen (K := K)) (by rfl) T.b_len (by decide +kernel) (pa_cons (pv 0) pa_nil)))) (nomark _)))))), ?_⟩
    walk_at "rd"
    refine rd_ndec (fun k => absurd rfl k) fun _ => ?_
    walk_at "rd"
    refine rd_yes (by have := V0.n1; omega) ?_
    walk_at "rd"
    refine rd_ndec (fun k => absurd (by have := V0.n2; omega) k) fun _ => ?_
    walk_at "rd"
    refine ⟨_, rfl, l, rfl, ⟨_, SqL.of hl⟩, for_list (K := K) (a := l) (xs := ts.map V.ref) (fun i σ H' => ∃ x, σ = [some (.ref l), x, none, none] ∧ H' = H)
      ⟨none, rfl, rfl⟩ (fun i σ H' _ ⟨_, _, e⟩ => e ▸ SqL.of hl) ?_ ?_⟩
    · rintro i v σ H' hi ⟨x, rfl, rfl⟩
      rw [List.getElem?_map] at hi
      obtain ⟨t, h1, rfl⟩ := Option.map_eq_some_iff.mp hi
      obtain ⟨e, h2, h3⟩ := ht.get h1
      have ce := V0.col e (getElem?_mem h2)
      walk_at "rd"
      refine ⟨t, e, rfl, h3, ce.1, ce.2, ?_⟩
      walk_at "rd"
      exact ⟨_, rfl, rfl⟩
    · rintro σ H' ⟨x, rfl, rfl⟩
      walk_at "rd"
      refine ⟨_, rfl, l, rfl, ⟨_, SqL.of hl⟩, fun D hD => lc_list (K := K) (a := l) (xs := ts.map V.ref) (fun i H2 => H2 = upd H' D (.lst ((pI (r.take i)).map V.int))) rfl
        (fun i H2 _ e => by rw [e]; exact SqL.of ((sNew hD) _ _ hl)) ?_ ?_⟩
      · rintro i v H2 hi rfl
        rw [List.getElem?_map] at hi
        obtain ⟨t, h1, rfl⟩ := Option.map_eq_some_iff.mp hi
        obtain ⟨e, h2, h3⟩ := ht.get h1
        refine rd_gtup ((sNew hD) _ _ h3) rfl ?_
        walk_at "rd"
        refine ⟨rfl, ?_⟩
        walk_at "rd"
        refine ⟨_, upd_same, lt60 ?_, ?_⟩
        · have := (List.getElem?_eq_some_iff.mp h2).1
          have := V0.n2
          rw [List.length_map, List.length_map, List.length_take]
          omega
        · rw [upd_upd, take_of h2]
          simp only [pI, List.map_append, List.map_cons, List.map_nil]
      · rintro H2 rfl
        rw [hlen, List.take_length]
        walk_at "rd"
        refine ⟨D, pI r, rfl, SqL.of upd_same, fun ns q hp hs hq => ?_⟩
        have e1 := sorted_is V0 hp hs
        subst e1
        have sD : Same H' (upd H' D (.lst ((pI r).map V.int))) := sNew hD
        have s2 : Same H' (upd (upd H' D (.lst ((pI r).map V.int))) q (.lst ((rI' r.length).map V.int))) := fun b o e => (sNew hq) _ _ (sD _ _ e)
        walk_at "rd"
        refine rd_len (s2 _ _ hl) ?_
        walk_at "rd"
        refine ⟨RgOk.of_le (by omega) ?_ (by omega) (by omega), fun q2 hq2 => ?_⟩
        · have := V0.n2
          omega
        · rw [hlen, rgV_is]
          refine rd_eqD (d := dI (rI' r.length)) (.lst (SqL.of ((sNew hq2) _ _ upd_same)) (dp_ints _)) (.lst (SqL.of upd_same) (dp_ints _)) (shp_ints _) ?_
          exact kq _ fun b o e => (sNew hq2) _ _ (s2 _ _ e)
def sp_check_lineup (K : PySem.W.Frag) : Sp := fun vs H Q _ => ∃ (l : Addr) (r : Row), vs = [.ref l] ∧ RowAt H l r ∧ Vr r ∧ ∀ H', Same H H' → Q .non H'
theorem ok_check_lineup (T : Txt K mg a) : FnOk P w K mg base CX0 4 a.f_check_lineup a.d_check_lineup ["value"] (sp_check_lineup K) := by
  refine T.F_check_lineup.ok sc_check_lineup (fun vs H Q E h => ?_) (fun cdv A outer s H vs Q E hr h => ?_)
  · obtain ⟨l, r, rfl, _⟩ := h
    rfl
  · obtain ⟨l, r, rfl, hR, V0, kq⟩ := h
    have nd := sc_check_lineup.nd
    refine ⟨_, (pss_one (ps_if (pt_not (pt_val (pe_call (ok_is_lineup T) (hr.mono (by decide)) rfl T.g_is_lineup T.k_is_lineup T.n_is_lineup .nil pass0 (pa_cons (pv 0) pa_nil)))) pss_never pss_nil)), ?_⟩
    walk_at "rd"
    refine ⟨l, r, rfl, hR, V0, fun H' s1 => ?_⟩
    walk_at "rd"
    exact kq H' s1
def sp_is_person (K : PySem.W.Frag) : Sp := fun vs H Q _ => ∃ (l : Addr) (r : Row) (p : Nat), vs = [.ref l, .int (p : Int)] ∧ RowAt H l r ∧ p < r.length ∧ Q (.bl true) H
theorem ok_is_person (T : Txt K mg a) : FnOk P w K mg base CX0 2 a.f_is_person a.d_is_person ["lineup", "value"] (sp_is_person K) := by
  refine T.F_is_person.ok sc_is_person (fun vs H Q E h => ?_) (fun cdv A outer s H vs Q E hr h => ?_)
  · obtain ⟨l, r, p, rfl, _⟩ := h
    rfl
  · obtain ⟨l, r, p, rfl, ⟨ts, hl, ht⟩, hp, kq⟩ := h
    have nd := sc_is_person.nd
    have hlen : (ts.map V.ref).length = r.length := by rw [List.length_map, ht.len]
    refine ⟨_, (pss_one (ps_ret (pe_and (pe_call (ok_is_integer T) (hr.mono (by decide)) rfl T.g_is_integer T.k_is_integer T.n_is_integer .nil pass0 (pa_cons (pv 1) pa_nil)) (pe_one (pe_chain op_le op_lt pe_int (pv 1) (pe_callB (klen (K := K)) (by rfl) T.b_len (by decide +kernel) (pa_cons (pv 0) pa_nil))))))), ?_⟩
    walk_at "rd"
    refine ⟨_, rfl, ?_⟩
    walk_at "rd"
    refine rd_yes (by omega) ?_
    walk_at "rd"
    rw [decide_eq_true (by rw [hlen]; omega)]
    exact kq
def sp_check_person (K : PySem.W.Frag) : Sp := fun vs H Q _ => ∃ (l : Addr) (r : Row) (p : Nat), vs = [.ref l, .int (p : Int)] ∧ RowAt H l r ∧ p < r.length ∧ Q .non H
theorem ok_check_person (T : Txt K mg a) : FnOk P w K mg base CX0 3 a.f_check_person a.d_check_person ["lineup", "value"] (sp_check_person K) := by
  refine T.F_check_person.ok sc_check_person (fun vs H Q E h => ?_) (fun cdv A outer s H vs Q E hr h => ?_)
  · obtain ⟨l, r, p, rfl, _⟩ := h
    rfl
  · obtain ⟨l, r, p, rfl, hR, hp, kq⟩ := h
    have nd := sc_check_person.nd
    refine ⟨_, (pss_one (ps_if (pt_not (pt_val (pe_call (ok_is_person T) (hr.mono (by decide)) rfl T.g_is_person T.k_is_person T.n_is_person .nil pass0 (pa_cons (pv 0) (pa_cons (pv 1) pa_nil))))) pss_never pss_nil)), ?_⟩
    walk_at "rd"
    refine ⟨l, r, p, rfl, hR, hp, ?_⟩
    walk_at "rd"
    exact kq
def sp_check_calls (K : PySem.W.Frag) : Sp := fun vs H Q _ => ∃ (l c : Addr) (r : Row) (cs : List Nat), vs = [.ref l, .ref c] ∧ RowAt H l r ∧ H c = some (.lst (cs.map vN)) ∧ (∀ p ∈ cs, p < r.length) ∧
  ∀ H', Same H H' → Q .non H'
theorem ok_check_calls (T : Txt K mg a) : FnOk P w K mg base CX0 3 a.f_check_calls a.d_check_calls ["lineup", "value"] (sp_check_calls K) := by
  refine T.F_check_calls.ok sc_check_calls (fun vs H Q E h => ?_) (fun cdv A outer s H vs Q E hr h => ?_)
  · obtain ⟨l, c, r, cs, rfl, _⟩ := h
    rfl
  · obtain ⟨l, c, r, cs, rfl, hR, hc, hcs, kq⟩ := h
    have nd := sc_check_calls.nd
    refine ⟨_, (pss_cons (ps_if (pt_cmpR op_notTyB (pe_typeOf rfl T.b_type (pv 1)) (pe_bltn (v := .ty "list") (by rfl) T.b_list (by decide +kernel) rfl) (nomark _)) pss_never pss_nil)
      (pss_one (ps_for PassesOwn.never rfl (pi_enum rfl T.b_enumerate (pa_cons (pv 1) pa_nil)) (kpg_tup (K := K) rfl (pgs_cons (pg_name (i := 2) nd rfl (Or.inl rfl)) (pgs_cons (pg_name (i := 3) nd rfl (Or.inl rfl)) pgs_nil))) (pss_one (ps_if (pt_not (pt_val (pe_call (ok_is_person T) (hr.mono (by decide)) rfl T.g_is_person T.k_is_person T.n_is_person .nil pass0 (pa_cons (pv 0) (pa_cons (pv 3) pa_nil))))) pss_never pss_nil))))), ?_⟩
    walk_at "rd"
    refine rd_ndec (fun k => absurd rfl k) fun _ => ?_
    walk_at "rd"
    refine ⟨_, rfl, c, _, rfl, SqL.of hc, for_enum (K := K) (a := c) (xs := cs.map vN) (fun i σ H' => ∃ x y, σ = [some (.ref l), some (.ref c), x, y] ∧ Same H H')
      ⟨none, none, rfl, Same.refl H⟩ (fun i σ H' _ ⟨_, _, _, e⟩ => SqL.of (e _ _ hc)) ?_ ?_⟩
    · rintro i v t σ H' hi ⟨x, y, rfl, s1⟩ hT
      rw [List.getElem?_map] at hi
      obtain ⟨p, h1, rfl⟩ := Option.map_eq_some_iff.mp hi
      have s2 := fun o => Same.trans s1 (sNew (o := o) hT)
      refine rd_gtup upd_same rfl ?_
      walk_at "rd"
      refine ⟨l, r, p, rfl, hR.same (s2 _), hcs p (getElem?_mem h1), ?_⟩
      walk_at "rd"
      exact ⟨_, _, rfl, s2 _⟩
    · rintro σ H' ⟨x, y, rfl, s1⟩
      walk_at "rd"
      exact kq H' s1
end K17

namespace K17
open PySem L2 LX
local macro_rules | `(tactic| walk_at "rd") => `(tactic| repeat (first
  | with_reducible refine rd_var rfl ?_ | with_reducible refine rd_c ?_ | with_reducible refine rd_op ?_ | with_reducible refine rd_un ?_ | with_reducible refine rd_I0 ?_ | with_reducible refine rd_U ?_
  | with_reducible refine rd_test ?_ | with_reducible refine rd_tB ?_ | with_reducible refine rd_bl ?_ | with_reducible refine rd_chain ?_
  | with_reducible refine rd_and ?_ | with_reducible refine rd_or ?_ | with_reducible refine rd_not ?_ | with_reducible refine rd_andV ?_ | with_reducible refine rd_orV ?_ | with_reducible refine rd_notV ?_
  | with_reducible refine rd_next ?_ | with_reducible refine rd_seq ?_ | with_reducible refine rd_drop ?_ | with_reducible refine rd_ret ?_ | with_reducible refine rd_ifS ?_ | with_reducible refine rd_asg ?_ | with_reducible refine rd_name ?_
  | with_reducible refine rd_par ?_ | with_reducible refine rd_two ?_ | with_reducible refine rd_2i ?_ | with_reducible refine rd_nil ?_ | with_reducible refine rd_cons ?_ | with_reducible refine rd_tup ?_ | with_reducible refine rd_lst ?_ | with_reducible refine rd_cb ?_ | with_reducible refine rd_call ?_
  | with_reducible refine rd_ixL (by assumption) rfl ?_ | with_reducible refine rd_ixT (by assumption) rfl ?_ | with_reducible refine rd_ixL upd_same rfl ?_ | with_reducible refine rd_sub ?_ | with_reducible refine rd_sl ?_ | with_reducible refine rd_nopart ?_ | with_reducible refine rd_part ?_ | with_reducible refine rd_int ?_
  | with_reducible refine rd_len (by assumption) ?_ | with_reducible refine rd_bm ?_ | with_reducible refine rd_bm0 ?_ | with_reducible refine rd_gcons ?_ | with_reducible refine rd_gnil ?_
  | ((with_reducible refine rd_I ?ci ?_); (case ci => first | assumption | (show (0 : Int) < _; decide) | exact Or.inl ⟨by decide, by decide⟩ | exact Or.inr ⟨by decide, by decide⟩ | exact ⟨by decide, by decide, (by decide : Int.natAbs 10 < 2 ^ 1000)⟩))
  | with_reducible refine rd_setL (by assumption) rfl ?_ | with_reducible refine rd_setL upd_same rfl ?_ | with_reducible refine rd_len upd_same ?_
  | with_reducible refine rd_2ty ?_ | with_reducible refine rd_NT ?_ | with_reducible refine rd_2s ?_ | with_reducible refine rd_lenS ?_ | with_reducible refine rd_lenT (by assumption) ?_ | ((with_reducible refine rd_typ ?ct ?_); (case ct => rfl))
  | ((with_reducible refine rd_eq ?cs ?_); (case cs => rfl)) | ((with_reducible refine rd_ne ?cs ?_); (case cs => rfl))
  | with_reducible refine rd_qtru ?_ | with_reducible refine rd_lstRg ?_ | with_reducible refine rd_rg1 ?_ | with_reducible refine rd_tyes ?_ | with_reducible refine rd_tyL (by assumption) ?_ | with_reducible refine rd_tyT (by assumption) ?_
  | with_reducible refine iteT ?_ | with_reducible refine iteF ?_ | with_reducible refine rd_nt ?_ | with_reducible refine rd_nf ?_
  | (dsimp only)))

variable {P : Program} {w : World} {K : PySem.W.Frag} {mg : Str → Option Value} {base : Heap} {a : Ad}
def sp_color_taken (K : PySem.W.Frag) : Sp := fun vs H Q _ => ∃ (l : Addr) (r : Row) (p : Nat), vs = [.ref l, vN p] ∧ RowAt H l r ∧ Vr r ∧ p < r.length ∧ ∀ H', Same H H' → Q (oV (fo r (colOf r p))) H'
theorem ok_color_taken (T : Txt K mg a) : FnOk P w K mg base CX0 5 a.f_color_taken a.d_color_taken ["lineup", "person"] (sp_color_taken K) := by
  refine T.F_color_taken.ok sc_color_taken (fun vs H Q E h => ?_) (fun cdv A outer s H vs Q E hr h => ?_)
  · obtain ⟨l, r, p, rfl, _⟩ := h
    rfl
  · obtain ⟨l, r, p, rfl, hR, V0, hp, kq⟩ := h
    have nd := sc_color_taken.nd
    refine ⟨_, (pss_cons (ps_expr (pe_call (ok_check_lineup T) (hr.mono (by decide)) rfl T.g_check_lineup T.k_check_lineup T.n_check_lineup .nil pass0 (pa_cons (pv 0) pa_nil)))
      (pss_cons (ps_expr (pe_call (ok_check_person T) (hr.mono (by decide)) rfl T.g_check_person T.k_check_person T.n_check_person .nil pass0 (pa_cons (pv 0) (pa_cons (pv 1) pa_nil))))
      (pss_one (ps_ret (pe_call (ok_first_other_color T) (hr.mono (by decide)) rfl T.g_first_other_color T.k_first_other_color T.n_first_other_color .nil pass0 (pa_cons (pv 0) (pa_cons (pe_ix (kix_list (K := K)) (pe_call (ok_colors_by_person T) (hr.mono (by decide)) rfl T.g_colors_by_person T.k_colors_by_person T.n_colors_by_person .nil pass0 (pa_cons (pv 0) pa_nil)) (pv 1) (fun _ _ => rfl)) pa_nil))))))), ?_⟩
    walk_at "rd"
    refine ⟨l, r, rfl, hR, V0, fun H1 s1 => ?_⟩
    walk_at "rd"
    refine ⟨l, r, p, rfl, hR.same s1, hp, ?_⟩
    walk_at "rd"
    refine ⟨l, r, rfl, hR.same s1, V0, fun q H2 hq s2 hb => ?_⟩
    walk_at "rd"
    refine rd_ixL hb (atI_nat (byPerson_at hp)) ?_
    walk_at "rd"
    refine ⟨l, r, _, rfl, (hR.same s1).same s2, ?_⟩
    exact kq _ (s1.trans s2)
def sp_colors_taken_by_each (K : PySem.W.Frag) : Sp := fun vs H Q _ => ∃ (l : Addr) (r : Row), vs = [.ref l] ∧ RowAt H l r ∧ Vr r ∧
  ∀ p H', H p = none → Same H H' → H' p = some (.lst (takenEach r)) → Q (.ref p) H'
theorem ok_colors_taken_by_each (T : Txt K mg a) : FnOk P w K mg base CX0 5 a.f_colors_taken_by_each a.d_colors_taken_by_each ["lineup"] (sp_colors_taken_by_each K) := by
  refine T.F_colors_taken_by_each.ok sc_colors_taken_by_each (fun vs H Q E h => ?_) (fun cdv A outer s H vs Q E hr h => ?_)
  · obtain ⟨l, r, rfl, _⟩ := h
    rfl
  · obtain ⟨l, r, rfl, hR, V0, kq⟩ := h
    have nd := sc_colors_taken_by_each.nd
    refine ⟨_, (pss_cons (ps_expr (pe_call (ok_check_lineup T) (hr.mono (by decide)) rfl T.g_check_lineup T.k_check_lineup T.n_check_lineup .nil pass0 (pa_cons (pv 0) pa_nil)))
      (pss_one (ps_ret (pe_lc (own := [("color", 1)]) (g := gName 1) (tt := tYes) rfl nd (kpi_list (K := K) (pe_call (ok_colors_by_person T) (hr.mono (by decide)) rfl T.g_colors_by_person T.k_colors_by_person T.n_colors_by_person .nil pass0 (pa_cons (pv 0) pa_nil))) (blkOk_by (own := [("color", 1)]) (N := ["lineup", "color"]) (sc := defScope s_colors_taken_by_each) (by decide +kernel)) (fun _ _ _ _ _ => (pg_name (i := 1) nd rfl (Or.inl rfl))) (fun _ _ _ _ _ => pts_nil) (fun _ _ _ _ _ => (pe_call (ok_first_other_color T) (hr.mono (by decide)) rfl T.g_first_other_color T.k_first_other_color T.n_first_other_color .nil pass0 (pa_cons (pv 0) (pa_cons (pv 1) pa_nil)))))))), ?_⟩
    walk_at "rd"
    refine ⟨l, r, rfl, hR, V0, fun H1 s1 => ?_⟩
    walk_at "rd"
    refine ⟨_, rfl, l, r, rfl, hR.same s1, V0, fun q H2 hq s2 hb => ⟨q, rfl, ⟨_, SqL.of hb⟩, fun D hD => lc_list (K := K) (a := q) (xs := byPerson r) (fun i H3 => H3 = upd H2 D (.lst ((takenEach r).take i))) rfl
      (fun i H3 _ e => by rw [e]; exact SqL.of ((sNew hD) _ _ hb)) ?_ ?_⟩⟩
    · rintro i v H3 hi rfl
      have hil : i < r.length := by
        have := (List.getElem?_eq_some_iff.mp hi).1
        unfold byPerson at this
        rw [List.length_map, List.length_range] at this
        exact this
      rw [byPerson_at hil] at hi
      cases hi
      walk_at "rd"
      refine ⟨rfl, ?_⟩
      walk_at "rd"
      refine ⟨l, r, _, rfl, ((hR.same s1).same s2).same (sNew hD), ?_⟩
      refine ⟨_, upd_same, lt60 ?_, ?_⟩
      · have := V0.n2
        rw [List.length_take]
        omega
      · rw [upd_upd, take_of (takenEach_at hil)]
    · rintro H3 rfl
      have e : (takenEach r).take (byPerson r).length = takenEach r := by
        apply List.take_of_length_le
        unfold takenEach byPerson
        rw [List.length_map, List.length_map, List.length_range]
        exact Nat.le_refl _
      rw [e]
      refine kq D _ ?_ (sUpd (s1.trans s2) ?_) upd_same
      · exact s1.free (s2.free hD)
      · exact s1.free (s2.free hD)
def sp_apply_call (K : PySem.W.Frag) : Sp := fun vs H Q _ => ∃ (l : Addr) (r : Row) (p : Nat), vs = [.ref l, vN p] ∧ RowAt H l r ∧ Vr r ∧ p < r.length ∧
  ∀ t L H', H t = none → H L = none → Same H H' → H' t = some (.tup [.ref L, oV (fo r (colOf r p))]) → RowAt H' L (app r p) → Q (.ref t) H'
theorem ok_apply_call (T : Txt K mg a) : FnOk P w K mg base CX0 2 a.f_apply_call a.d_apply_call ["lineup", "person"] (sp_apply_call K) := by
  refine T.F_apply_call.ok sc_apply_call (fun vs H Q E h => ?_) (fun cdv A outer s H vs Q E hr h => ?_)
  · obtain ⟨l, r, p, rfl, _⟩ := h
    rfl
  · obtain ⟨l, r, p, rfl, hR, V0, hp, kq⟩ := h
    have nd := sc_apply_call.nd
    refine ⟨_, (pss_cons (ps_set (i := 2) nd rfl (Or.inl rfl) (pe_ix (kix_list (K := K)) (pe_call (ok_colors_by_person T) (hr.mono (by decide)) rfl T.g_colors_by_person T.k_colors_by_person T.n_colors_by_person .nil pass0 (pa_cons (pv 0) pa_nil)) (pv 1) (fun _ _ => rfl)))
      (pss_cons (ps_set (i := 3) nd rfl (Or.inl rfl) (pe_call (ok_first_other_color T) (hr.mono (by decide)) rfl T.g_first_other_color T.k_first_other_color T.n_first_other_color .nil pass0 (pa_cons (pv 0) (pa_cons (pv 2) pa_nil))))
      (pss_cons (ps_setLc (i := 4) (own := [("pair", 5)]) (g := gName 5) rfl nd rfl rfl (sw_true rfl rfl rfl (by decide +kernel)) (kpi_list (K := K) (pv 0)) (blkOk_by (own := [("pair", 5)]) (N := ["lineup", "person", "color", "taken", "others", "pair"]) (sc := defScope s_apply_call) (by decide +kernel)) (fun _ _ _ _ _ => (pg_name (i := 5) nd rfl (Or.inl rfl))) (fun _ _ _ _ _ => pts_one (pt_cmpR op_ne (pe_ix (kix_tup (K := K)) (pv 5) pe_int (fun _ _ => rfl)) (pv 1) (nomark _))) (fun _ _ _ _ _ => (pv 5)))
      (pss_one (ps_ret (pe_tup (pa_cons (pe_op op_cat (pe_lst (pa_cons (pe_tup (pa_cons (pv 1) (pa_cons (pe_ifExp (pt_cmpR op_isN (pv 3) pe_non (nomark _)) (pv 2) (pv 3)) pa_nil))) pa_nil)) (pv 4)) (pa_cons (pv 3) pa_nil)))))))), ?_⟩
    walk_at "rd"
    refine ⟨l, r, rfl, hR, V0, fun q H1 hq s1 hb => ?_⟩
    walk_at "rd"
    refine rd_ixL hb (atI_nat (byPerson_at hp)) ?_
    walk_at "rd"
    have hR1 := hR.same s1
    refine ⟨l, r, _, rfl, hR1, ?_⟩
    walk_at "rd"
    obtain ⟨ts, hl, ht⟩ := hR1
    refine ⟨_, rfl, l, rfl, ⟨_, SqL.of hl⟩, fun D hD => lc_list (K := K) (a := l) (xs := ts.map V.ref) (fun i H3 => ∃ us, H3 = upd H1 D (.lst (us.map V.ref)) ∧ TupsAt H1 us ((r.take i).filter fun e => e.1 != p)) ⟨[], rfl, True.intro⟩
      (fun i H3 _ ⟨_, e, _⟩ => by rw [e]; exact SqL.of ((sNew hD) _ _ hl)) ?_ ?_⟩
    · rintro i v H3 hi ⟨us, rfl, hU⟩
      rw [List.getElem?_map] at hi
      obtain ⟨t, h1, rfl⟩ := Option.map_eq_some_iff.mp hi
      obtain ⟨e, h2, h3⟩ := ht.get h1
      have hz := hU.len
      have hf := filt_turn hU h2 h3
      walk_at "rd"
      refine ⟨rfl, ?_⟩
      walk_at "rd"
      refine rd_ixT ((sNew hD) _ _ h3) rfl ?_
      walk_at "rd"
      refine rd_ndec (fun k => ?_) fun k => ?_
      · have c : (e.1 != p) = true := by
          rw [bne_iff_ne]
          intro z
          exact k (by rw [z])
        rw [if_pos c] at hf
        walk_at "rd"
        refine ⟨_, upd_same, lt60 ?_, us ++ [t], ?_, hf⟩
        · rw [List.length_map, hz]
          have := List.length_filter_le (fun e : Nat × Nat => e.1 != p) (r.take i)
          rw [List.length_take] at this
          have := V0.n2
          omega
        · rw [upd_upd, List.map_append]
          rfl
      · have c : ¬ (e.1 != p) = true := by
          rw [bne_iff_ne]
          intro z
          injection k with k
          exact z (by omega)
        rw [if_neg c] at hf
        exact ⟨us, rfl, hf⟩
    · rintro H3 ⟨us, rfl, hU⟩
      rw [List.length_map, ht.len, List.take_length] at hU
      have hz : us.length ≤ 60 := by
        rw [hU.len]
        have := List.length_filter_le (fun e : Nat × Nat => e.1 != p) r
        have := V0.n2
        omega
      have s3 : Same H1 (upd H1 D (.lst (us.map V.ref))) := sNew hD
      walk_at "rd"
      refine rd_ifE ?_
      walk_at "rd"
      refine ⟨rfl, ?_⟩
      -- both ways the same pair is made
      have fin : ∀ c : Nat, c = (fo r (colOf r p)).getD (colOf r p) → ∀ (T t L0 c0 : Addr) (h0 : (upd H1 D (.lst (us.map V.ref))) t = none)
          (h1 : (upd (upd H1 D (.lst (us.map V.ref))) t (.tup [vN p, sg c])) L0 = none)
          (h2 : (upd (upd (upd H1 D (.lst (us.map V.ref))) t (.tup [vN p, sg c])) L0 (.lst [.ref t])) c0 = none)
          (h3 : (upd (upd (upd (upd H1 D (.lst (us.map V.ref))) t (.tup [vN p, sg c])) L0 (.lst [.ref t])) c0 (.lst ([.ref t] ++ us.map V.ref))) T = none),
          Q (.ref T) (upd (upd (upd (upd (upd H1 D (.lst (us.map V.ref))) t (.tup [vN p, sg c])) L0 (.lst [.ref t])) c0 (.lst ([.ref t] ++ us.map V.ref))) T (.tup [.ref c0, oV (fo r (colOf r p))])) := by
        intro c hc T t L0 c0 h0 h1 h2 h3
        have a1 := sNew (o := .tup [vN p, sg c]) h0
        have a2 := sNew (o := .lst [.ref t]) h1
        have a3 := sNew (o := .lst ([.ref t] ++ us.map V.ref)) h2
        have a4 := sNew (o := .tup [.ref c0, oV (fo r (colOf r p))]) h3
        have b2 := s3.trans (a1.trans a2)
        have b4 := b2.trans (a3.trans a4)
        refine kq T c0 _ (s1.free ((b2.trans a3).free h3)) (s1.free (b2.free h2)) (s1.trans b4) upd_same ⟨t :: us, a4 _ _ (by rw [upd_same]; rfl), ?_, ?_⟩
        · refine a4 _ _ (a3 _ _ (a2 _ _ ?_))
          rw [upd_same, hc]
        · exact hU.mono fun b xs e => b4 _ _ e
      have szU : (us.map V.ref).length ≤ 60 := by rw [List.length_map]; exact hz
      have go : ∀ c : Nat, c = (fo r (colOf r p)).getD (colOf r p) → ∀ (t L0 : Addr) (h0 : (upd H1 D (.lst (us.map V.ref))) t = none)
          (h1 : (upd (upd H1 D (.lst (us.map V.ref))) t (.tup [vN p, sg c])) L0 = none), (upd (upd (upd H1 D (.lst (us.map V.ref))) t (.tup [vN p, sg c])) L0 (.lst [.ref t])) D = some (.lst (us.map V.ref)) := by
        intro c hc t L0 h0 h1
        exact (sNew h1) _ _ ((sNew h0) _ _ upd_same)
      cases hfo : fo r (colOf r p) with
      | none =>
        rw [hfo] at fin go
        walk_at "rd"
        refine rd_yes rfl ?_
        walk_at "rd"
        refine ⟨by show 2 ≤ sizeLine; decide, fun t h0 => ?_⟩
        walk_at "rd"
        refine ⟨by show 1 ≤ sizeLine; decide, fun L0 h1 => ?_⟩
        walk_at "rd"
        refine rd_cat upd_same (go (colOf r p) rfl t L0 h0 h1) (sz60' (by show 1 + (us.map V.ref).length ≤ 100; omega)) fun c0 h2 => ?_
        walk_at "rd"
        refine ⟨by show 2 ≤ sizeLine; decide, fun T h3 => ?_⟩
        exact fin (colOf r p) rfl T t L0 c0 h0 h1 h2 h3
      | some d =>
        rw [hfo] at fin go
        walk_at "rd"
        refine rd_no (fun z => by cases z) ?_
        walk_at "rd"
        refine ⟨by show 2 ≤ sizeLine; decide, fun t h0 => ?_⟩
        walk_at "rd"
        refine ⟨by show 1 ≤ sizeLine; decide, fun L0 h1 => ?_⟩
        walk_at "rd"
        refine rd_cat upd_same (go d rfl t L0 h0 h1) (sz60' (by show 1 + (us.map V.ref).length ≤ 100; omega)) fun c0 h2 => ?_
        walk_at "rd"
        refine ⟨by show 2 ≤ sizeLine; decide, fun T h3 => ?_⟩
        exact fin d rfl T t L0 c0 h0 h1 h2 h3
def sp_lineup_after (K : PySem.W.Frag) : Sp := fun vs H Q _ => ∃ (l c : Addr) (r : Row) (cs : List Nat), vs = [.ref l, .ref c] ∧ RowAt H l r ∧ Vr r ∧ H c = some (.lst (cs.map vN)) ∧ (∀ p ∈ cs, p < r.length) ∧
  ∀ L H', H L = none → Same H H' → RowAt H' L (apps r cs) → Q (.ref L) H'
theorem ok_lineup_after (T : Txt K mg a) : FnOk P w K mg base CX0 5 a.f_lineup_after a.d_lineup_after ["lineup", "calls"] (sp_lineup_after K) := by
  refine T.F_lineup_after.ok sc_lineup_after (fun vs H Q E h => ?_) (fun cdv A outer s H vs Q E hr h => ?_)
  · obtain ⟨l, c, r, cs, rfl, _⟩ := h
    rfl
  · obtain ⟨l, c, r, cs, rfl, hR, V0, hc, hcs, kq⟩ := h
    have nd := sc_lineup_after.nd
    refine ⟨_, (pss_cons (ps_expr (pe_call (ok_check_lineup T) (hr.mono (by decide)) rfl T.g_check_lineup T.k_check_lineup T.n_check_lineup .nil pass0 (pa_cons (pv 0) pa_nil)))
      (pss_cons (ps_expr (pe_call (ok_check_calls T) (hr.mono (by decide)) rfl T.g_check_calls T.k_check_calls T.n_check_calls .nil pass0 (pa_cons (pv 0) (pa_cons (pv 1) pa_nil))))
      (pss_cons (ps_set (i := 2) nd rfl (Or.inl rfl) (pe_callTy (klist (K := K)) (by rfl) T.b_list (by decide +kernel) (pa_cons (pv 0) pa_nil)))
      (pss_cons (ps_for PassesOwn.never rfl (kpi_list (K := K) (pv 1)) (pg_name (i := 3) nd rfl (Or.inl rfl)) (pss_one (ps_asg (pe_call (ok_apply_call T) (hr.mono (by decide)) rfl T.g_apply_call T.k_apply_call T.n_apply_call .nil pass0 (pa_cons (pv 2) (pa_cons (pv 3) pa_nil))) (kpg_tup (K := K) rfl (pgs_cons (pg_name (i := 2) nd rfl (Or.inl rfl)) (pgs_cons (pg_name (i := 4) nd rfl (Or.inl rfl)) pgs_nil))))))
      (pss_one (ps_ret (pv 2))))))), ?_⟩
    walk_at "rd"
    refine ⟨l, r, rfl, hR, V0, fun H1 s1 => ?_⟩
    walk_at "rd"
    refine ⟨l, c, r, cs, rfl, hR.same s1, s1 _ _ hc, hcs, fun H2 s2 => ?_⟩
    walk_at "rd"
    have s12 := s1.trans s2
    obtain ⟨ts, hl, ht⟩ := hR.same s12
    refine rd_listOf hl fun L hL => ?_
    walk_at "rd"
    have s3 : Same H2 (upd H2 L (.lst (ts.map V.ref))) := sNew hL
    refine ⟨_, rfl, c, rfl, ⟨_, SqL.of (s3 _ _ (s12 _ _ hc))⟩, for_list (K := K) (a := c) (xs := cs.map vN) (fun i σ H' => ∃ L x y, σ = [some (.ref l), some (.ref c), some (.ref L), x, y] ∧ H L = none ∧ Same H H' ∧ RowAt H' L (apps r (cs.take i)))
      ⟨L, none, none, rfl, s12.free hL, s12.trans s3, ts, upd_same, ht.mono (sTups s3)⟩ (fun i σ H' _ ⟨_, _, _, _, _, e, _⟩ => SqL.of (e _ _ hc)) ?_ ?_⟩
    · rintro i v σ H' hi ⟨L, x, y, rfl, hL, s4, hRL⟩
      rw [List.getElem?_map] at hi
      obtain ⟨p, h1, rfl⟩ := Option.map_eq_some_iff.mp hi
      have hv := apps_len V0 (cs.take i) fun q hq => hcs q (List.mem_of_mem_take hq)
      have hp := hcs p (getElem?_mem h1)
      walk_at "rd"
      refine ⟨L, _, p, rfl, hRL, hv.1, by rw [hv.2]; exact hp, fun t L2 H3 ht0 hL2 s5 hT hR2 => ?_⟩
      refine rd_gtup hT rfl ?_
      walk_at "rd"
      refine ⟨L2, _, _, rfl, s4.free hL2, s4.trans s5, ?_⟩
      rw [take_of h1, apps_snoc]
      exact hR2
    · rintro σ H' ⟨L, x, y, rfl, hL, s4, hRL⟩
      rw [List.length_map, List.take_length] at hRL
      walk_at "rd"
      exact kq L H' hL s4 hRL
end K17

namespace K17
open PySem L2 LX
local macro_rules | `(tactic| walk_at "rd") => `(tactic| repeat (first
  | with_reducible refine rd_var rfl ?_ | with_reducible refine rd_c ?_ | with_reducible refine rd_op ?_ | with_reducible refine rd_un ?_ | with_reducible refine rd_I0 ?_ | with_reducible refine rd_U ?_
  | with_reducible refine rd_test ?_ | with_reducible refine rd_tB ?_ | with_reducible refine rd_bl ?_ | with_reducible refine rd_chain ?_
  | with_reducible refine rd_and ?_ | with_reducible refine rd_or ?_ | with_reducible refine rd_not ?_ | with_reducible refine rd_andV ?_ | with_reducible refine rd_orV ?_ | with_reducible refine rd_notV ?_
  | with_reducible refine rd_next ?_ | with_reducible refine rd_seq ?_ | with_reducible refine rd_drop ?_ | with_reducible refine rd_ret ?_ | with_reducible refine rd_ifS ?_ | with_reducible refine rd_asg ?_ | with_reducible refine rd_name ?_
  | with_reducible refine rd_par ?_ | with_reducible refine rd_two ?_ | with_reducible refine rd_2i ?_ | with_reducible refine rd_nil ?_ | with_reducible refine rd_cons ?_ | with_reducible refine rd_tup ?_ | with_reducible refine rd_lst ?_ | with_reducible refine rd_cb ?_ | with_reducible refine rd_call ?_
  | with_reducible refine rd_ixL (by assumption) rfl ?_ | with_reducible refine rd_ixT (by assumption) rfl ?_ | with_reducible refine rd_ixL upd_same rfl ?_ | with_reducible refine rd_sub ?_ | with_reducible refine rd_sl ?_ | with_reducible refine rd_nopart ?_ | with_reducible refine rd_part ?_ | with_reducible refine rd_int ?_
  | with_reducible refine rd_len (by assumption) ?_ | with_reducible refine rd_bm ?_ | with_reducible refine rd_bm0 ?_ | with_reducible refine rd_gcons ?_ | with_reducible refine rd_gnil ?_
  | ((with_reducible refine rd_I ?ci ?_); (case ci => first | assumption | (show (0 : Int) < _; decide) | exact Or.inl ⟨by decide, by decide⟩ | exact Or.inr ⟨by decide, by decide⟩ | exact ⟨by decide, by decide, (by decide : Int.natAbs 10 < 2 ^ 1000)⟩))
  | with_reducible refine rd_setL (by assumption) rfl ?_ | with_reducible refine rd_setL upd_same rfl ?_ | with_reducible refine rd_len upd_same ?_
  | with_reducible refine rd_2ty ?_ | with_reducible refine rd_NT ?_ | with_reducible refine rd_2s ?_ | with_reducible refine rd_lenS ?_ | with_reducible refine rd_lenT (by assumption) ?_ | ((with_reducible refine rd_typ ?ct ?_); (case ct => rfl))
  | ((with_reducible refine rd_eq ?cs ?_); (case cs => rfl)) | ((with_reducible refine rd_ne ?cs ?_); (case cs => rfl))
  | with_reducible refine rd_qtru ?_ | with_reducible refine rd_lstRg ?_ | with_reducible refine rd_rg1 ?_ | with_reducible refine rd_tyes ?_ | with_reducible refine rd_tyL (by assumption) ?_ | with_reducible refine rd_tyT (by assumption) ?_
  | with_reducible refine iteT ?_ | with_reducible refine iteF ?_ | with_reducible refine rd_nt ?_ | with_reducible refine rd_nf ?_
  | (dsimp only)))

variable {P : Program} {w : World} {K : PySem.W.Frag} {mg : Str → Option Value} {base : Heap} {a : Ad}
def sp__law_cells (K : PySem.W.Frag) : Sp := fun vs H Q _ => ∃ (l : Addr) (ns : List Int) (n : Int), vs = [.ref l, .int n] ∧ Scr K H l ns ∧ ns.length ≤ 63 ∧
  ∀ p H' (cs : List Int), H p = none → Same H H' → H' p = some (.lst (cs.map V.int)) → cs.length ≤ 70 → Q (.ref p) H'
theorem ok__law_cells (T : Txt K mg a) : FnOk P w K mg base CX0 1 a.f__law_cells a.d__law_cells ["script", "count"] (sp__law_cells K) := by
  refine T.F__law_cells.ok sc__law_cells (fun vs H Q E h => ?_) (fun cdv A outer s H vs Q E hr h => ?_)
  · obtain ⟨l, ns, n, rfl, _⟩ := h
    rfl
  · obtain ⟨l, ns, n, rfl, hSc, hz, kq⟩ := h
    have hS := hSc.seq
    have nd := sc__law_cells.nd
    have hu64 := hr.units
    refine ⟨_, (pss_one (ps_ret (pe_op op_cat (pe_slice (ksl_list (K := K)) (pv 0) po_none (po_some (pv 1))) (pe_op op_rep (pe_lst (pa_cons pe_int pa_nil)) (pe_callTy call_int1 (by rfl) T.b_int (by decide +kernel) (pa_cons (pe_cmpR (keqD (K := K) hu64) (pv 0) (pe_lst pa_nil) (nomark _)) pa_nil)))))), ?_⟩
    walk_at "rd"
    refine ⟨l, _, rfl, hS, fun p hp => ?_⟩
    obtain ⟨ms, e1, e2⟩ := cut_ints ns none (some n)
    rw [e1]
    have s1 : Same H (upd H p (.lst (ms.map V.int))) := sNew hp
    walk_at "rd"
    refine ⟨by show 1 ≤ sizeLine; decide, fun b hb => ?_⟩
    have s2 := s1.trans (sNew (o := .lst [V.int 0]) hb)
    walk_at "rd"
    refine ⟨Nat.zero_le _, fun q hq => ?_⟩
    have s3 := s2.trans (sNew (o := .lst []) hq)
    refine rd_eqD2 (d := dI ns) (e := dI []) (.lst (s3.seq hS) (dp_ints ns)) (.lst (SqL.of upd_same) .nil) (shp_ints _) (shp_ints _) (eqv_nil ns) ?_
    walk_at "rd"
    refine Or.inr ⟨_, rfl, ?_⟩
    have hbq : b ≠ q := (ne_of_none (o := .lst [V.int 0]) (by first | exact upd_same) hq)
    have hb3 : (upd (upd (upd H p (.lst (ms.map V.int))) b (.lst [V.int 0])) q (.lst [])) b = some (.lst [V.int 0]) := by
      rw [upd_ne hbq]
      exact upd_same
    have hbp : b ≠ p := (ne_of_none (o := .lst (ms.map V.int)) upd_same hb).symm
    have hpq : p ≠ q := ne_of_none (o := .lst (ms.map V.int)) (by rw [upd_ne hbp.symm]; exact upd_same) hq
    have hk : ∃ k : Nat, k ≤ 1 ∧ (if decide (ns = []) = true then (1 : Int) else 0) = (k : Int) := by
      by_cases c : ns = []
      · exact ⟨1, Nat.le_refl _, by rw [if_pos (decide_eq_true c)]; rfl⟩
      · exact ⟨0, by decide, by rw [if_neg (by rw [decide_eq_false c]; decide)]; rfl⟩
    obtain ⟨k, hk1, hk2⟩ := hk
    rw [hk2]
    refine ⟨b, _, _, rfl, rfl, hb3, by omega, by omega, ?_, fun c hc => ?_⟩
    · show 1 * (k : Int).toNat ≤ sizeLine
      exact sz60 (by omega)
    rw [Int.toNat_natCast, flat_rep]
    have hcp : p ≠ c := ne_of_none (o := .lst (ms.map V.int)) (by rw [upd_ne hpq, upd_ne hbp.symm]; exact upd_same) hc
    have hl : (List.replicate k (V.int 0)) = (List.replicate k (0 : Int)).map V.int := by rw [List.map_replicate]
    refine rd_cat (by rw [upd_ne hcp, upd_ne hpq, upd_ne hbp.symm]; exact upd_same) upd_same ?_ fun d hd => ?_
    · rw [List.length_map, List.length_replicate]
      exact sz60' (by omega)
    · have s4 := s3.trans (sNew (o := .lst (List.replicate k (V.int 0))) hc)
      rw [hl, ← List.map_append]
      rw [hl] at hd s4
      refine kq d _ _ (s4.free hd) (s4.trans (sNew hd)) upd_same ?_
      rw [List.length_append, List.length_replicate]
      omega
def sp__law_row (K : PySem.W.Frag) : Sp := fun vs H Q _ => ∃ (p l : Addr) (ns : List Int), vs = [.ref p, .ref l, .int 60] ∧ Src H p ∧ Scr K H l ns ∧ ns.length ≤ 63 ∧
  ∀ L H' r, H L = none → Same' p H H' → Src H' p → RowAt H' L r → Vr r → Q (.ref L) H'
theorem ok__law_row (T : Txt K mg a) : FnOk P w K mg base CX0 2 a.f__law_row a.d__law_row ["source", "script", "limit"] (sp__law_row K) := by
  refine T.F__law_row.ok sc__law_row (fun vs H Q E h => ?_) (fun cdv A outer s H vs Q E hr h => ?_)
  · obtain ⟨p, l, ns, rfl, _⟩ := h
    rfl
  · obtain ⟨p, l, ns, rfl, S, hS, hz, kq⟩ := h
    have nd := sc__law_row.nd
    have hu64 := hr.units
    refine ⟨_, (pss_cons (ps_set (i := 3) nd rfl (Or.inr rfl) pe_str)
      (pss_cons (ps_asg (pe_tup (pa_cons (pe_op op_add pe_int (pe_call (ok__law_draw T) (hr.mono (by decide)) rfl T.g__law_draw T.k__law_draw T.n__law_draw .nil pass0 (pa_cons (pv 0) (pa_cons pe_int pa_nil)))) (pa_cons (pe_op op_add pe_int (pe_call (ok__law_draw T) (hr.mono (by decide)) rfl T.g__law_draw T.k__law_draw T.n__law_draw .nil pass0 (pa_cons (pv 0) (pa_cons pe_int pa_nil)))) pa_nil))) (kpg_tup (K := K) rfl (pgs_cons (pg_name (i := 4) nd rfl (Or.inl rfl)) (pgs_cons (pg_name (i := 5) nd rfl (Or.inr rfl)) pgs_nil))))
      (Evl.pss_cut (ps_if (pt_cmpR (kneD (K := K) hu64) (pv 1) (pe_lst pa_nil) (nomark _)) (pss_cons (ps_set (i := 6) nd rfl (Or.inl rfl) (pe_lst (pa_cons pe_int (pa_cons (pe_op op_add pe_int (pe_call (ok__law_draw T) (hr.mono (by decide)) rfl T.g__law_draw T.k__law_draw T.n__law_draw .nil pass0 (pa_cons (pv 0) (pa_cons pe_int pa_nil)))) (pa_cons (pe_op op_add pe_int (pe_call (ok__law_draw T) (hr.mono (by decide)) rfl T.g__law_draw T.k__law_draw T.n__law_draw .nil pass0 (pa_cons (pv 0) (pa_cons pe_int pa_nil)))) (pa_cons (pv 2) pa_nil))))))
      (pss_one (ps_asg (pe_tup (pa_cons (pe_callB (call_min2 rfl) (by rfl) T.b_min (by decide +kernel) (pa_cons (pv 2) (pa_cons (pe_ix (kix_list (K := K)) (pv 6) (pe_call (ok__law_draw T) (hr.mono (by decide)) rfl T.g__law_draw T.k__law_draw T.n__law_draw .nil pass0 (pa_cons (pv 0) (pa_cons pe_int pa_nil))) (fun _ _ => rfl)) pa_nil))) (pa_cons (pe_ix (kix_list (K := K)) (pe_lst (pa_cons pe_int (pa_cons pe_int (pa_cons pe_int (pa_cons pe_int pa_nil))))) (pe_call (ok__law_draw T) (hr.mono (by decide)) rfl T.g__law_draw T.k__law_draw T.n__law_draw .nil pass0 (pa_cons (pv 0) (pa_cons pe_int pa_nil))) (fun _ _ => rfl)) pa_nil))) (kpg_tup (K := K) rfl (pgs_cons (pg_name (i := 4) nd rfl (Or.inl rfl)) (pgs_cons (pg_name (i := 5) nd rfl (Or.inr rfl)) pgs_nil)))))) pss_nil)
      (pss_cons (ps_set (i := 7) nd rfl (Or.inr rfl) (pe_call (ok__law_draw T) (hr.mono (by decide)) rfl T.g__law_draw T.k__law_draw T.n__law_draw .nil pass0 (pa_cons (pv 0) (pa_cons (pe_op op_sub pe_int (pv 5)) pa_nil))))
      (pss_cons (ps_set (i := 8) nd rfl (Or.inr rfl) (pe_listRg rfl rfl T.b_list (prg_1 rfl T.b_range (pv 4))))
      (pss_one (ps_ret (pe_lc (own := [("k", 9)]) (g := gName 9) (tt := tYes) rfl nd (pi_range1 rfl T.b_range (pa_cons (pv 4) pa_nil)) (blkOk_by (own := [("k", 9)]) (N := ["source", "script", "limit", "letters", "size", "width", "sizes", "start", "left", "k"]) (sc := defScope s__law_row) (by decide +kernel)) (fun _ _ _ _ _ => (pg_name (i := 9) nd rfl (Or.inl rfl))) (fun _ _ _ _ _ => pts_nil) (fun _ _ _ _ _ => (pe_tup (pa_cons (kbm (K := K) PySem.F.plainAttrs_list PySem.F.slot_list_pop PySem.F.type_list_pop mt_popAt (pv 8) (pa_cons (pe_call (ok__law_draw T) (hr.mono (by decide)) rfl T.g__law_draw T.k__law_draw T.n__law_draw .nil pass0 (pa_cons (pv 0) (pa_cons (pe_callB (klen (K := K)) (by rfl) T.b_len (by decide +kernel) (pa_cons (pv 8) pa_nil)) pa_nil))) pa_nil)) (pa_cons (pe_ix ix_str (pv 3) (pe_op op_add (pv 7) (pe_call (ok__law_draw T) (hr.mono (by decide)) rfl T.g__law_draw T.k__law_draw T.n__law_draw .nil pass0 (pa_cons (pv 0) (pa_cons (pv 5) pa_nil)))) (fun _ _ => rfl)) pa_nil)))))))))))), ?_⟩
    walk_at "rd"
    refine ⟨p, 2, rfl, S, by decide, by decide, fun r1 H1 r10 r11 S1 f1 => ?_⟩
    walk_at "rd"
    refine ⟨p, 2, rfl, S1, by decide, by decide, fun r2 H2 r20 r21 S2 f2 => ?_⟩
    walk_at "rd"
    refine ⟨by show 2 ≤ sizeLine; decide, fun t ht => ?_⟩
    have s2 : Same' p H H2 := (Same'.of f1).trans (Same'.of f2)
    have s3 : Same' p H (upd H2 t (.tup [.int (2 + r1), .int (2 + r2)])) := s2.trans (sTo p (sNew ht))
    have S3 : Src (upd H2 t (.tup [.int (2 + r1), .int (2 + r2)])) p := S2.same (sNew ht)
    refine rd_gtup upd_same rfl ?_
    walk_at "rd"
    refine rd_cut (fun σ' H' => ∃ (sz wd : Int) (x6 : Option V), σ' = [some (.ref p), some (.ref l), some (.int 60), some (.str (Str.ofString "abcdefghijklmnopqrstuvwxyz")), some (.int sz), some (.int wd), x6, none, none, none] ∧ 1 ≤ sz ∧ sz ≤ 60 ∧ 1 ≤ wd ∧ wd ≤ 26 ∧ Same' p H H' ∧ Src H' p) ?_ ?_
    · walk_at "rd"
      refine ⟨Nat.zero_le _, fun q hq => ?_⟩
      have s4 := s3.trans (sTo p (sNew (o := .lst []) hq))
      have S4 := S3.same (sNew (o := .lst []) hq)
      refine rd_neD2 (d := dI ns) (e := dI []) (.lst (hS.same' s4 S.lst).seq (dp_ints ns)) (.lst (SqL.of upd_same) .nil) (shp_ints _) (shp_ints _) (eqv_nil ns) ?_
      walk_at "rd"
      refine rd_ndec (fun _ => ?_) fun _ => ?_
      · walk_at "rd"
        refine ⟨p, 5, rfl, S4, by decide, by decide, fun a1 H3 a10 a11 S5 f5 => ?_⟩
        walk_at "rd"
        refine ⟨p, 20, rfl, S5, by decide, by decide, fun a2 H4 a20 a21 S6 f6 => ?_⟩
        walk_at "rd"
        refine ⟨by show 4 ≤ sizeLine; decide, fun b hb => ?_⟩
        have s6 := s4.trans ((Same'.of f5).trans (Same'.of f6))
        have s7 := s6.trans (sTo p (sNew (o := .lst [.int 1, .int (1 + a1), .int (1 + a2), .int 60]) hb))
        have S7 := S6.same (sNew (o := .lst [.int 1, .int (1 + a1), .int (1 + a2), .int 60]) hb)
        have hbp : b ≠ p := S6.not_none hb
        walk_at "rd"
        refine ⟨p, 4, rfl, S7, by decide, by decide, fun a3 H5 a30 a31 S8 f8 => ?_⟩
        have s8 := s7.trans (Same'.of f8)
        obtain ⟨x, hx, hx2⟩ := pick4 1 (1 + a1) (1 + a2) 60 a30 a31
        refine rd_ixL (by rw [f8 b hbp]; exact upd_same) hx ?_
        walk_at "rd"
        refine ⟨by show 4 ≤ sizeLine; decide, fun b2 hb2 => ?_⟩
        have s9 := s8.trans (sTo p (sNew (o := .lst [.int 1, .int 2, .int 3, .int 26]) hb2))
        have S9 := S8.same (sNew (o := .lst [.int 1, .int 2, .int 3, .int 26]) hb2)
        have hbp2 : b2 ≠ p := S8.not_none hb2
        walk_at "rd"
        refine ⟨p, 4, rfl, S9, by decide, by decide, fun a4 H6 a40 a41 S10 f10 => ?_⟩
        have s10 := s9.trans (Same'.of f10)
        obtain ⟨y, hy, hy2⟩ := pick4 1 2 3 26 a40 a41
        refine rd_ixL (by rw [f10 b2 hbp2]; exact upd_same) hy ?_
        walk_at "rd"
        refine ⟨by show 2 ≤ sizeLine; decide, fun t2 ht2 => ?_⟩
        refine rd_gtup upd_same rfl ?_
        walk_at "rd"
        refine ⟨_, y, _, rfl, ?_, ?_, by omega, by omega, s10.trans (sTo p (sNew ht2)), S10.same (sNew ht2)⟩
        · split <;> omega
        · split <;> omega
      · walk_at "rd"
        exact ⟨2 + r1, 2 + r2, none, rfl, by omega, by omega, by omega, by omega, s4, S4⟩
    · rintro σ' H' ⟨sz, wd, x6, rfl, z1, z2, w1, w2, s5, S5⟩
      walk_at "rd"
      refine ⟨p, 27 - wd, rfl, S5, by omega, by omega, fun st H6 st0 st1 S6 f6 => ?_⟩
      walk_at "rd"
      refine ⟨RgOk.of_le (by omega) (by omega) (by omega) (by omega), fun q hq => ?_⟩
      have s6 := s5.trans (Same'.of f6)
      have hqp : q ≠ p := S6.not_none hq
      have s7 := s6.trans (sTo p (sNew (o := .lst (rgV 0 sz)) hq))
      have S7 := S6.same (sNew (o := .lst (rgV 0 sz)) hq)
      walk_at "rd"
      refine ⟨_, rfl, sz, rfl, by omega, by omega, fun D hD => lc_range (lo := 0) (n := sz.toNat) (fun i H8 => Drw H8 D q p sz.toNat i H) ?_ ?_ ?_⟩
      · have hDq : D ≠ q := (ne_of_none (o := .lst (rgV 0 sz)) upd_same hD).symm
        refine ⟨⟨[], [], List.range sz.toNat, upd_same, ?_, True.intro, rfl, List.Perm.refl _, fun e he => by cases he⟩, S7.same (sNew hD), s7.trans (sTo p (sNew hD))⟩
        rw [upd_ne hDq.symm, upd_same, rgV_nat (by omega)]
      · rintro i H8 hi ⟨⟨us, rr, ls, hD8, hq8, ht8, hl8, hp8, hc8⟩, S8, s8⟩
        have hlen := hp8.length_eq
        rw [List.length_append, List.length_map, List.length_range] at hlen
        have hls : 0 < ls.length := by omega
        have hlm : ((ls.map vN).length : Int) = (ls.length : Int) := by rw [List.length_map]
        walk_at "rd"
        refine ⟨rfl, ?_⟩
        walk_at "rd"
        refine ⟨Or.inl ⟨rfl, _, SqL.of hq8⟩, ?_⟩
        walk_at "rd"
        refine ⟨p, _, rfl, S8, by omega, by omega, fun j H9 j0 j1 S9 f9 => ?_⟩
        obtain ⟨j, rfl⟩ : ∃ j' : Nat, j = (j' : Int) := ⟨j.toNat, by omega⟩
        have hj : j < ls.length := by omega
        have hDp : D ≠ p := S7.not_none hD
        have hDq : D ≠ q := (ne_of_none (o := .lst (rgV 0 sz)) upd_same hD).symm
        obtain ⟨per, hper⟩ : ∃ x, ls[j]? = some x := ⟨ls[j], List.getElem?_eq_getElem hj⟩
        have hq9 : H9 q = some (.lst (ls.map vN)) := by rw [f9 q hqp]; exact hq8
        have hD9 : H9 D = some (.lst (us.map V.ref)) := by rw [f9 D hDp]; exact hD8
        refine ⟨q, _, _, j, vN per, rfl, rfl, hq9, by omega, by omega, seqIx (by rw [List.length_map]; exact hj), by rw [List.getElem?_map, hper]; rfl, ?_⟩
        rw [erase_map]
        walk_at "rd"
        have S10 : Src (upd H9 q (.lst ((ls.eraseIdx j).map vN))) p := by
          obtain ⟨s0, s1, s2, e1, e2⟩ := S9.ex
          exact ⟨s0, s1, s2, by rw [upd_ne hqp.symm]; exact e1, e2⟩
        refine ⟨p, wd, rfl, S10, by omega, by omega, fun m H11 m0 m1 S11 f11 => ?_⟩
        walk_at "rd"
        obtain ⟨m', em⟩ : ∃ m' : Nat, st + m = (m' : Int) := ⟨(st + m).toNat, by omega⟩
        have hm' : m' < 26 := by omega
        rw [em]
        refine ⟨_, _, 97 + m', rfl, rfl, abc_len, abc_at m' hm', ?_⟩
        walk_at "rd"
        refine ⟨by show 2 ≤ sizeLine; decide, fun tt htt => ?_⟩
        have hq11 : H11 q = some (.lst ((ls.eraseIdx j).map vN)) := by rw [f11 q hqp]; exact upd_same
        have hD11 : H11 D = some (.lst (us.map V.ref)) := by rw [f11 D hDp, upd_ne hDq]; exact hD9
        have ht11 : TupsAt H11 us rr := ht8.mono fun b xs e => by
          have hbp : b ≠ p := fun z => by
            obtain ⟨ys, hy⟩ := S8.lst
            rw [z, hy] at e
            cases e
          have hbq : b ≠ q := fun z => by
            rw [z, hq8] at e
            cases e
          rw [f11 b hbp, upd_ne hbq, f9 b hbp]
          exact e
        have new := sNew (o := .tup [vN per, sg (97 + m')]) htt
        refine ⟨_, new _ _ hD11, lt60 (by rw [List.length_map, ht8.len]; omega), ⟨us ++ [tt], rr ++ [(per, 97 + m')], ls.eraseIdx j, ?_, ?_, ?_, ?_, ?_, ?_⟩, ?_, ?_⟩
        · rw [upd_same, List.map_append]
          rfl
        · rw [upd_ne hDq.symm]
          exact new _ _ hq11
        · refine (TupsAt.app (ht11.mono (sTups new)) (TupsAt.one upd_same)).mono fun b xs e => ?_
          rw [upd_ne fun z => by rw [z, new _ _ hD11] at e; cases e]
          exact e
        · rw [List.length_append, hl8]
          rfl
        · rw [List.map_append, List.append_assoc]
          exact ((List.Perm.refl _).append (erase_perm hper)).trans hp8
        · intro e he
          rcases List.mem_append.mp he with z | z
          · exact hc8 e z
          · have : e = (per, 97 + m') := by simpa using z
            rw [this]
            show 97 ≤ 97 + m' ∧ 97 + m' ≤ 122
            omega
        · obtain ⟨s0, s1, s2, e1, e2⟩ := S11.ex
          exact ⟨s0, s1, s2, by rw [upd_ne hDp.symm]; exact new _ _ e1, e2⟩
        · intro b o e n
          have hbD : b ≠ D := ne_of_none e (s7.free hD hDp)
          have hbq : b ≠ q := ne_of_none e (s6.free hq hqp)
          rw [upd_ne hbD]
          refine new _ _ ?_
          rw [f11 b n, upd_ne hbq, f9 b n]
          exact s8 _ _ e n
      · intro H8 hd
        obtain ⟨r, hR, hV⟩ := drw_end hd (by omega) (by omega)
        refine kq D H8 r ?_ hd.same hd.src hR hV
        exact s7.free hD (S7.not_none hD)
end K17

namespace K17
open PySem L2 LX
/-- the others, and somebody put among them -/
def oth (r : Row) (w : Nat) : Row := r.filter fun e => e.1 != w
def put (o : Row) (k : Nat) (e : Nat × Nat) : Row := o.take k ++ [e] ++ o.drop k
theorem fo_append (a b : Row) (c : Nat) : fo (a ++ b) c = (fo a c).or (fo b c) := by
  unfold fo
  rw [List.find?_append]
  cases a.find? fun e => e.2 != c <;> rfl
theorem fo_put (o : Row) (k w c : Nat) : fo (put o k (w, c)) c = fo o c := by
  unfold put
  rw [fo_append, fo_append, fo_no (e := (w, c)) (r := []) rfl, fo_nil, Option.or_none, ← fo_append, List.take_append_drop]
theorem find_append_none {a b : Row} {w : Nat} (h : ∀ e ∈ a, e.1 ≠ w) : (a ++ b).find? (fun e => e.1 == w) = b.find? fun e => e.1 == w := by
  rw [List.find?_append, List.find?_eq_none.mpr fun e he => by simpa using h e he]
  rfl
theorem oth_ne {r : Row} {w : Nat} : ∀ e ∈ oth r w, e.1 ≠ w := fun e he => by simpa using (List.mem_filter.mp he).2
theorem colOf_put {o : Row} {k w c : Nat} (h : ∀ e ∈ o, e.1 ≠ w) : colOf (put o k (w, c)) w = c := by
  unfold colOf put
  rw [List.append_assoc, find_append_none fun e he => h e (List.mem_of_mem_take he)]
  show ((List.find? (fun e => e.1 == w) ((w, c) :: o.drop k)).map (·.2)).getD 0 = c
  rw [List.find?_cons_of_pos (by simp)]
  rfl
theorem filter_put {o : Row} {k w c : Nat} (h : ∀ e ∈ o, e.1 ≠ w) : (put o k (w, c)).filter (fun e => e.1 != w) = o := by
  unfold put
  rw [List.filter_append, List.filter_append, List.filter_cons_of_neg (by simp), List.filter_nil, List.append_nil, ← List.filter_append, List.take_append_drop]
  exact List.filter_eq_self.mpr fun e he => by simpa using h e he
theorem put_perm (o : Row) (k : Nat) (e : Nat × Nat) : (put o k e).Perm (e :: o) := by
  unfold put
  rw [List.append_assoc]
  refine List.perm_middle.trans ?_
  show (e :: (o.take k ++ o.drop k)).Perm (e :: o)
  rw [List.take_append_drop]
theorem oth_len {r : Row} (h : Vr r) {w : Nat} (hw : w < r.length) : (oth r w).length + 1 = r.length := by
  have := (perm_out h.nodup (h.has hw)).length_eq
  rw [List.length_cons, List.length_map, List.length_map] at this
  exact this
theorem put_valid {r : Row} (h : Vr r) {w : Nat} (hw : w < r.length) (k c : Nat) (c1 : 97 ≤ c) (c2 : c ≤ 122) : Vr (put (oth r w) k (w, c)) ∧ (put (oth r w) k (w, c)).length = r.length := by
  have p := put_perm (oth r w) k (w, c)
  have e : (put (oth r w) k (w, c)).length = r.length := by
    rw [p.length_eq, List.length_cons, oth_len h hw]
  refine ⟨⟨by rw [e]; exact h.n1, by rw [e]; exact h.n2, fun x hx => ?_, ?_⟩, e⟩
  · rcases List.mem_cons.mp (p.mem_iff.mp hx) with z | z
    · rw [z]
      exact ⟨c1, c2⟩
    · exact h.col x (List.mem_filter.mp z).1
  · rw [e]
    exact ((show ((put (oth r w) k (w, c)).map (·.1)).Perm (w :: (oth r w).map (·.1)) from p.map (·.1)).trans (perm_out h.nodup (h.has hw))).trans h.perm
theorem app_put {o : Row} {k w c : Nat} (h : ∀ e ∈ o, e.1 ≠ w) : app (put o k (w, c)) w = (w, (fo o c).getD c) :: o := by
  unfold app
  rw [colOf_put h, fo_put, filter_put h]
/-- what own color is expected to take -/
theorem exp_is {e : Nat × Nat} {o : Row} {c : Nat} : fo (e :: o) c = if c = e.2 then fo (e :: o) e.2 else some e.2 := by
  by_cases h : c = e.2
  · rw [if_pos h, h]
  · rw [if_neg h, fo_yes fun z => h z.symm]
theorem front_in {e : Nat × Nat} {o : Row} {c : Nat} : (fo (e :: o) c).getD c = e.2 ∨ some ((fo (e :: o) c).getD c) = fo (e :: o) e.2 := by
  by_cases h : c = e.2
  · cases q : fo (e :: o) c with
    | none => exact Or.inl h
    | some d =>
      rw [h] at q
      exact Or.inr q.symm
  · rw [fo_yes fun z => h z.symm]
    exact Or.inl rfl
theorem colOf_of {r : Row} (nd : (r.map (·.1)).Nodup) {e : Nat × Nat} (he : e ∈ r) : colOf r e.1 = e.2 := by
  induction r with
  | nil => cases he
  | cons x r ih =>
    have nd' := List.nodup_cons.mp (show (x.1 :: r.map (·.1)).Nodup from nd)
    unfold colOf
    rcases List.mem_cons.mp he with z | z
    · rw [z, List.find?_cons_of_pos (by simp)]
      rfl
    · have : x.1 ≠ e.1 := fun q => nd'.1 (by rw [q]; exact List.mem_map_of_mem (f := (·.1)) z)
      rw [List.find?_cons_of_neg (by simpa using this)]
      exact ih nd'.2 z
theorem takes_is {w f : Nat} {o : Row} {c : Nat} : fo ((w, f) :: o) c = some f ↔ c ≠ f := by
  by_cases h : f = c
  · rw [fo_no (e := (w, f)) h]
    constructor
    · intro q
      obtain ⟨x, _, _, h3⟩ := fo_mem q
      exact h3.symm
    · intro n
      exact absurd h.symm n
  · rw [fo_yes (e := (w, f)) h]
    exact ⟨fun _ => fun z => h z.symm, fun _ => rfl⟩
theorem nexts_at (o : Row) (c : Nat) : (((o.map (·.2)).filter fun x => x != c).map sg ++ [V.non])[0]? = some (oV (fo o c)) := by
  induction o with
  | nil => rfl
  | cons e o ih =>
    by_cases h : e.2 = c
    · rw [fo_no h, List.map_cons, List.filter_cons_of_neg (by simpa using h)]
      exact ih
    · rw [fo_yes h, List.map_cons, List.filter_cons_of_pos (by simpa using h)]
      rfl
end K17


namespace K17
open PySem L2 LX
local macro_rules | `(tactic| walk_at "rd") => `(tactic| repeat (first
  | with_reducible refine rd_var rfl ?_ | with_reducible refine rd_c ?_ | with_reducible refine rd_op ?_ | with_reducible refine rd_un ?_ | with_reducible refine rd_I0 ?_ | with_reducible refine rd_U ?_
  | with_reducible refine rd_test ?_ | with_reducible refine rd_tB ?_ | with_reducible refine rd_bl ?_ | with_reducible refine rd_chain ?_
  | with_reducible refine rd_and ?_ | with_reducible refine rd_or ?_ | with_reducible refine rd_not ?_ | with_reducible refine rd_andV ?_ | with_reducible refine rd_orV ?_ | with_reducible refine rd_notV ?_
  | with_reducible refine rd_next ?_ | with_reducible refine rd_seq ?_ | with_reducible refine rd_drop ?_ | with_reducible refine rd_ret ?_ | with_reducible refine rd_ifS ?_ | with_reducible refine rd_asg ?_ | with_reducible refine rd_name ?_
  | with_reducible refine rd_par ?_ | with_reducible refine rd_two ?_ | with_reducible refine rd_2i ?_ | with_reducible refine rd_nil ?_ | with_reducible refine rd_cons ?_ | with_reducible refine rd_tup ?_ | with_reducible refine rd_lst ?_ | with_reducible refine rd_cb ?_ | with_reducible refine rd_call ?_
  | with_reducible refine rd_ixL (by assumption) rfl ?_ | with_reducible refine rd_ixT (by assumption) rfl ?_ | with_reducible refine rd_ixL upd_same rfl ?_ | with_reducible refine rd_sub ?_ | with_reducible refine rd_sl ?_ | with_reducible refine rd_nopart ?_ | with_reducible refine rd_part ?_ | with_reducible refine rd_int ?_
  | with_reducible refine rd_len (by assumption) ?_ | with_reducible refine rd_bm ?_ | with_reducible refine rd_bm0 ?_ | with_reducible refine rd_gcons ?_ | with_reducible refine rd_gnil ?_
  | ((with_reducible refine rd_I ?ci ?_); (case ci => first | assumption | (show (0 : Int) < _; decide) | exact Or.inl ⟨by decide, by decide⟩ | exact Or.inr ⟨by decide, by decide⟩ | exact ⟨by decide, by decide, (by decide : Int.natAbs 10 < 2 ^ 1000)⟩))
  | with_reducible refine rd_setL (by assumption) rfl ?_ | with_reducible refine rd_setL upd_same rfl ?_ | with_reducible refine rd_len upd_same ?_
  | with_reducible refine rd_2ty ?_ | with_reducible refine rd_NT ?_ | with_reducible refine rd_2s ?_ | with_reducible refine rd_lenS ?_ | with_reducible refine rd_lenT (by assumption) ?_ | ((with_reducible refine rd_typ ?ct ?_); (case ct => rfl))
  | ((with_reducible refine rd_eq ?cs ?_); (case cs => rfl)) | ((with_reducible refine rd_ne ?cs ?_); (case cs => rfl))
  | with_reducible refine rd_qtru ?_ | with_reducible refine rd_lstRg ?_ | with_reducible refine rd_rg1 ?_ | with_reducible refine rd_tyes ?_ | with_reducible refine rd_tyL (by assumption) ?_ | with_reducible refine rd_tyT (by assumption) ?_
  | with_reducible refine iteT ?_ | with_reducible refine iteF ?_ | with_reducible refine rd_nt ?_ | with_reducible refine rd_nf ?_
  | (dsimp only)))

variable {P : Program} {w : World} {K : PySem.W.Frag} {mg : Str → Option Value} {base : Heap} {a : Ad}
def sp__law_holds (K : PySem.W.Frag) : Sp := fun vs H Q _ => ∃ (p l : Addr) (r : Row), vs = [.ref p, .ref l] ∧ Src H p ∧ RowAt H l r ∧ Vr r ∧ 2 ≤ r.length ∧
  ∀ H', Same' p H H' → Src H' p → Q (.bl true) H'
theorem ok__law_holds (T : Txt K mg a) : FnOk P w K mg base CX0 6 a.f__law_holds a.d__law_holds ["source", "row"] (sp__law_holds K) := by
  refine T.F__law_holds.ok sc__law_holds (fun vs H Q E h => ?_) (fun cdv A outer s H vs Q E hr h => ?_)
  · obtain ⟨p, l, r, rfl, _⟩ := h
    rfl
  · obtain ⟨p, l, r, rfl, S, ⟨ts, hl, ht⟩, V0, n2, kq⟩ := h
    have nd := sc__law_holds.nd
    have hu64 := hr.units
    have hts : (ts.map V.ref).length = r.length := by rw [List.length_map, ht.len]
    have n60 := V0.n2
    refine ⟨_, (pss_cons (ps_set (i := 2) nd rfl (Or.inr rfl) (pe_call (ok__law_draw T) (hr.mono (by decide)) rfl T.g__law_draw T.k__law_draw T.n__law_draw .nil pass0 (pa_cons (pv 0) (pa_cons (pe_callB (klen (K := K)) (by rfl) T.b_len (by decide +kernel) (pa_cons (pv 1) pa_nil)) pa_nil))))
      (pss_cons (ps_setLc (i := 3) (own := [("entry", 15)]) (g := gName 15) rfl nd rfl rfl (sw_true rfl rfl rfl (by decide +kernel)) (kpi_list (K := K) (pv 1)) (blkOk_by (own := [("entry", 15)]) (N := ["source", "row", "who", "others", "colors", "next_colors", "turn", "some", "own", "expected", "position", "placed", "later", "front", "takes", "entry", "one", "color"]) (sc := defScope s__law_holds) (by decide +kernel)) (fun _ _ _ _ _ => (pg_name (i := 15) nd rfl (Or.inl rfl))) (fun _ _ _ _ _ => pts_one (pt_cmpR op_ne (pe_ix (kix_tup (K := K)) (pv 15) pe_int (fun _ _ => rfl)) (pv 2) (nomark _))) (fun _ _ _ _ _ => (pv 15)))
      (pss_cons (ps_set (i := 4) nd rfl (Or.inr rfl) (pe_lc (own := [("one", 16), ("color", 17)]) (g := gTup K 2 (gCons (gName 16) (gCons (gName 17) gNil))) (tt := tYes) rfl nd (kpi_list (K := K) (pv 3)) (blkOk_by (own := [("one", 16), ("color", 17)]) (N := ["source", "row", "who", "others", "colors", "next_colors", "turn", "some", "own", "expected", "position", "placed", "later", "front", "takes", "entry", "one", "color"]) (sc := defScope s__law_holds) (by decide +kernel)) (fun _ _ _ _ _ => (kpg_tup (K := K) rfl (pgs_cons (pg_name (i := 16) nd rfl (Or.inl rfl)) (pgs_cons (pg_name (i := 17) nd rfl (Or.inl rfl)) pgs_nil)))) (fun _ _ _ _ _ => pts_nil) (fun _ _ _ _ _ => (pv 17))))
      (pss_cons (ps_set (i := 5) nd rfl (Or.inl rfl) (pe_op op_cat (pe_lc (own := [("color", 17)]) (g := gName 17) rfl nd (kpi_list (K := K) (pv 4)) (blkOk_by (own := [("color", 17)]) (N := ["source", "row", "who", "others", "colors", "next_colors", "turn", "some", "own", "expected", "position", "placed", "later", "front", "takes", "entry", "one", "color"]) (sc := defScope s__law_holds) (by decide +kernel)) (fun _ _ _ _ _ => (pg_name (i := 17) nd rfl (Or.inl rfl))) (fun _ _ _ _ _ => pts_one (pt_cmpR op_ne (pv 17) (pe_ix (kix_list (K := K)) (pv 4) pe_int (fun _ _ => rfl)) (nomark _))) (fun _ _ _ _ _ => (pv 17))) (pe_lst (pa_cons pe_non pa_nil))))
      (pss_cons (ps_for PassesOwn.never rfl (pi_range1 rfl T.b_range (pa_cons pe_int pa_nil)) (pg_name (i := 6) nd rfl (Or.inl rfl)) (pss_cons (ps_set (i := 7) nd rfl (Or.inl rfl) (pe_lst (pa_cons (pe_ix (kix_list (K := K)) (pv 4) pe_int (fun _ _ => rfl)) (pa_cons (pe_ix (kix_list (K := K)) (pv 4) (pe_un un_neg pe_int) (fun _ _ => rfl)) (pa_cons (pe_ix ix_str pe_str (pe_call (ok__law_draw T) (hr.mono (by decide)) rfl T.g__law_draw T.k__law_draw T.n__law_draw .nil pass0 (pa_cons (pv 0) (pa_cons pe_int pa_nil))) (fun _ _ => rfl)) pa_nil)))))
      (pss_cons (ps_set (i := 8) nd rfl (Or.inl rfl) (pe_ix (kix_list (K := K)) (pv 7) (pe_call (ok__law_draw T) (hr.mono (by decide)) rfl T.g__law_draw T.k__law_draw T.n__law_draw .nil pass0 (pa_cons (pv 0) (pa_cons pe_int pa_nil))) (fun _ _ => rfl)))
      (pss_cons (ps_set (i := 9) nd rfl (Or.inl rfl) (pe_ifExp (pt_cmpR op_eq (pv 8) (pe_ix (kix_list (K := K)) (pv 4) pe_int (fun _ _ => rfl)) (nomark _)) (pe_ix (kix_list (K := K)) (pv 5) pe_int (fun _ _ => rfl)) (pe_ix (kix_list (K := K)) (pv 4) pe_int (fun _ _ => rfl))))
      (pss_one (ps_for PassesOwn.never rfl (kpi_list (K := K) (pe_lst (pa_cons pe_int (pa_cons (pe_callB (klen (K := K)) (by rfl) T.b_len (by decide +kernel) (pa_cons (pv 3) pa_nil)) (pa_cons (pe_call (ok__law_draw T) (hr.mono (by decide)) rfl T.g__law_draw T.k__law_draw T.n__law_draw .nil pass0 (pa_cons (pv 0) (pa_cons (pe_callB (klen (K := K)) (by rfl) T.b_len (by decide +kernel) (pa_cons (pv 1) pa_nil)) pa_nil))) pa_nil))))) (pg_name (i := 10) nd rfl (Or.inl rfl)) (pss_cons (ps_set (i := 11) nd rfl (Or.inl rfl) (pe_op op_cat (pe_op op_cat (pe_slice (ksl_list (K := K)) (pv 3) po_none (po_some (pv 10))) (pe_lst (pa_cons (pe_tup (pa_cons (pv 2) (pa_cons (pv 8) pa_nil))) pa_nil))) (pe_slice (ksl_list (K := K)) (pv 3) (po_some (pv 10)) po_none)))
      (pss_cons (ps_set (i := 12) nd rfl (Or.inl rfl) (pe_call (ok_lineup_after T) (hr.mono (by decide)) rfl T.g_lineup_after T.k_lineup_after T.n_lineup_after .nil pass0 (pa_cons (pv 11) (pa_cons (pe_lst (pa_cons (pv 2) pa_nil)) pa_nil))))
      (pss_cons (ps_if (PW.pt (pw_or (pt_cmpR op_ne (pe_call (ok_color_taken T) (hr.mono (by decide)) rfl T.g_color_taken T.k_color_taken T.n_color_taken .nil pass0 (pa_cons (pv 11) (pa_cons (pv 2) pa_nil))) (pv 9) (nomark _)) (pw_or1 (pt_cmpR op_ne (pe_ix (kix_list (K := K)) (pe_call (ok_colors_taken_by_each T) (hr.mono (by decide)) rfl T.g_colors_taken_by_each T.k_colors_taken_by_each T.n_colors_taken_by_each .nil pass0 (pa_cons (pv 11) pa_nil)) (pv 2) (fun _ _ => rfl)) (pv 9) (nomark _))))) (pss_one (ps_ret pe_bl)) pss_nil)
      (pss_cons (ps_if (PW.pt (pw_or (pt_cmpR (kneD (K := K) hu64) (pe_slice (ksl_list (K := K)) (pv 12) (po_some pe_int) po_none) (pv 3) (nomark _)) (pw_or1 (pt_cmpR (kneD (K := K) hu64) (pe_ix (kix_list (K := K)) (pv 12) pe_int (fun _ _ => rfl)) (pe_tup (pa_cons (pv 2) (pa_cons (pe_ifExp (pt_cmpR op_isN (pv 9) pe_non (nomark _)) (pv 8) (pv 9)) pa_nil))) (nomark _))))) (pss_one (ps_ret pe_bl)) pss_nil)
      (pss_cons (ps_if (pt_cmpR (knotIn (K := K)) (pe_ix (kix_tup (K := K)) (pe_ix (kix_list (K := K)) (pv 12) pe_int (fun _ _ => rfl)) pe_int (fun _ _ => rfl)) (pe_lst (pa_cons (pe_ix (kix_list (K := K)) (pv 4) pe_int (fun _ _ => rfl)) (pa_cons (pe_ix (kix_list (K := K)) (pv 5) pe_int (fun _ _ => rfl)) pa_nil))) rfl) (pss_one (ps_ret pe_bl)) pss_nil)
      (pss_cons (ps_set (i := 13) nd rfl (Or.inr rfl) (pe_ix (kix_tup (K := K)) (pe_ix (kix_list (K := K)) (pv 12) pe_int (fun _ _ => rfl)) pe_int (fun _ _ => rfl)))
      (pss_cons (ps_set (i := 14) nd rfl (Or.inr rfl) (pe_call (ok_colors_taken_by_each T) (hr.mono (by decide)) rfl T.g_colors_taken_by_each T.k_colors_taken_by_each T.n_colors_taken_by_each .nil pass0 (pa_cons (pv 12) pa_nil)))
      (pss_one (ps_if (pt_cmpR (kneD (K := K) hu64) (pe_lc (own := [("one", 16), ("color", 17)]) (g := gTup K 2 (gCons (gName 16) (gCons (gName 17) gNil))) rfl nd (kpi_list (K := K) (pv 12)) (blkOk_by (own := [("one", 16), ("color", 17)]) (N := ["source", "row", "who", "others", "colors", "next_colors", "turn", "some", "own", "expected", "position", "placed", "later", "front", "takes", "entry", "one", "color"]) (sc := defScope s__law_holds) (by decide +kernel)) (fun _ _ _ _ _ => (kpg_tup (K := K) rfl (pgs_cons (pg_name (i := 16) nd rfl (Or.inl rfl)) (pgs_cons (pg_name (i := 17) nd rfl (Or.inl rfl)) pgs_nil)))) (fun _ _ _ _ _ => pts_one (pt_cmpR op_ne (pe_cmpR op_eq (pe_ix (kix_list (K := K)) (pv 14) (pv 16) (fun _ _ => rfl)) (pv 13) (nomark _)) (pe_cmpR op_ne (pv 17) (pv 13) (nomark _)) (nomark _))) (fun _ _ _ _ _ => (pv 16))) (pe_lst pa_nil) (nomark _)) (pss_one (ps_ret pe_bl)) pss_nil)))))))))))))))
      (pss_one (ps_ret pe_bl))))))), ?_⟩
    walk_at "rd"
    refine ⟨p, _, rfl, S, by omega, by omega, fun wI H1 w0 w1 S1 f1 => ?_⟩
    obtain ⟨wh, rfl⟩ : ∃ x : Nat, wI = (x : Int) := ⟨wI.toNat, by omega⟩
    have hw : wh < r.length := by omega
    have s1 : Same' p H H1 := Same'.of f1
    have lp : l ≠ p := fun z => by
      obtain ⟨s0, s1, s2, e, _⟩ := S.ex
      rw [z, e] at hl
      injection hl with hl
      injection hl with hl
      have e2 : ([V.int s0, V.int s1, V.int s2])[0]? = (ts.map V.ref)[0]? := by rw [hl]
      rw [List.getElem?_map] at e2
      cases q : ts[0]? with
      | none => rw [q] at e2; cases e2
      | some x => rw [q] at e2; cases e2
    have hl1 := s1 _ _ hl lp
    have ht1 := ht.mono (s1.tups S.lst.choose_spec)
    walk_at "rd"
    -- others
    refine ⟨_, rfl, l, rfl, ⟨_, SqL.of hl1⟩, fun D hD => lc_list (K := K) (a := l) (xs := ts.map V.ref) (fun i H3 => ∃ us, H3 = upd H1 D (.lst (us.map V.ref)) ∧ TupsAt H1 us ((r.take i).filter fun e => e.1 != wh)) ⟨[], rfl, True.intro⟩
      (fun i H3 _ ⟨_, e, _⟩ => by rw [e]; exact SqL.of ((sNew hD) _ _ hl1)) ?_ ?_⟩
    · rintro i v H3 hi ⟨us, rfl, hU⟩
      rw [List.getElem?_map] at hi
      obtain ⟨t, h1, rfl⟩ := Option.map_eq_some_iff.mp hi
      obtain ⟨e, h2, h3⟩ := ht1.get h1
      have hz := hU.len
      have hf := filt_turn hU h2 h3
      walk_at "rd"
      refine ⟨rfl, ?_⟩
      walk_at "rd"
      refine rd_ixT ((sNew hD) _ _ h3) rfl ?_
      walk_at "rd"
      refine rd_ndec (fun k => ?_) fun k => ?_
      · have c : (e.1 != wh) = true := by
          rw [bne_iff_ne]
          intro z
          exact k (by rw [z])
        rw [if_pos c] at hf
        walk_at "rd"
        refine ⟨_, upd_same, lt60 ?_, us ++ [t], ?_, hf⟩
        · rw [List.length_map, hz]
          have := List.length_filter_le (fun e : Nat × Nat => e.1 != wh) (r.take i)
          rw [List.length_take] at this
          omega
        · rw [upd_upd, List.map_append]
          rfl
      · have c : ¬ (e.1 != wh) = true := by
          rw [bne_iff_ne]
          intro z
          injection k with k
          exact z (by omega)
        rw [if_neg c] at hf
        exact ⟨us, rfl, hf⟩
    rintro H3 ⟨us, rfl, hU⟩
    rw [List.length_map, ht.len, List.take_length] at hU
    have ho : (oth r wh).length + 1 = r.length := oth_len V0 hw
    have hus := hU.len
    have hus2 : us.length = (oth r wh).length := hus
    have s2 : Same H1 (upd H1 D (.lst (us.map V.ref))) := sNew hD
    have hU2 := hU.mono (sTups s2)
    walk_at "rd"
    -- colors
    refine ⟨_, rfl, D, rfl, ⟨_, SqL.of upd_same⟩, fun E' hE => lc_list (K := K) (a := D) (xs := us.map V.ref) (fun i H4 => H4 = upd (upd H1 D (.lst (us.map V.ref))) E' (.lst (((oth r wh).take i).map fun e => sg e.2))) rfl
      (fun i H4 _ e => by rw [e]; exact SqL.of ((sNew hE) _ _ upd_same)) ?_ ?_⟩
    · rintro i v H4 hi rfl
      rw [List.getElem?_map] at hi
      obtain ⟨t, h1, rfl⟩ := Option.map_eq_some_iff.mp hi
      obtain ⟨e, h2, h3⟩ := hU2.get h1
      refine rd_gtup ((sNew hE) _ _ h3) rfl ?_
      walk_at "rd"
      refine ⟨rfl, ?_⟩
      walk_at "rd"
      refine ⟨_, upd_same, lt60 ?_, ?_⟩
      · rw [List.length_map, List.length_take]
        omega
      · rw [upd_upd, take_of (show (oth r wh)[i]? = some e from h2), List.map_append]
        rfl
    rintro H4 rfl
    rw [List.length_map, hus2, List.take_length]
    have hE0 : H1 E' = none := s2.free hE
    have s3 : Same H1 (upd (upd H1 D (.lst (us.map V.ref))) E' (.lst ((oth r wh).map fun e => sg e.2))) := s2.trans (sNew hE)
    have hcE : ∀ (j : Nat) (e : Nat × Nat), (oth r wh)[j]? = some e → ((oth r wh).map fun e => sg e.2)[j]? = some (sg e.2) := fun j e h => by
      rw [List.getElem?_map, h]
      rfl
    obtain ⟨e0, o1, eo⟩ : ∃ e0 o1, oth r wh = e0 :: o1 := by
      cases q : oth r wh with
      | nil => rw [q] at ho; simp at ho; omega
      | cons x y => exact ⟨x, y, rfl⟩
    have he0 : (oth r wh)[0]? = some e0 := by rw [eo]; rfl
    have lenE : ((oth r wh).map fun e => sg e.2).length = (oth r wh).length := List.length_map _
    walk_at "rd"
    -- next_colors
    refine ⟨_, rfl, E', rfl, ⟨_, SqL.of upd_same⟩, fun F hF => lc_list (K := K) (a := E') (xs := (oth r wh).map fun e => sg e.2)
      (fun i H5 => H5 = upd (upd (upd H1 D (.lst (us.map V.ref))) E' (.lst ((oth r wh).map fun e => sg e.2))) F (.lst (((((oth r wh).take i).map (·.2)).filter fun x => x != e0.2).map sg))) rfl
      (fun i H5 _ e => by rw [e]; exact SqL.of ((sNew hF) _ _ upd_same)) ?_ ?_⟩
    · rintro i v H5 hi rfl
      rw [List.getElem?_map] at hi
      obtain ⟨e, h1, rfl⟩ := Option.map_eq_some_iff.mp hi
      walk_at "rd"
      refine ⟨rfl, ?_⟩
      walk_at "rd"
      refine rd_ixL ((sNew hF) _ _ upd_same) (atI_nat (j := 0) (hcE 0 e0 he0)) ?_
      walk_at "rd"
      have hz : (((((oth r wh).take i).map (·.2)).filter fun x => x != e0.2).map sg).length ≤ 60 := by
        rw [List.length_map]
        have := List.length_filter_le (fun x => x != e0.2) (((oth r wh).take i).map (·.2))
        rw [List.length_map, List.length_take] at this
        omega
      refine rd_ndec (fun k => ?_) fun k => ?_
      · have c : (e.2 != e0.2) = true := by
          rw [bne_iff_ne]
          intro z
          exact k (by rw [z])
        walk_at "rd"
        refine ⟨_, upd_same, lt60 hz, ?_⟩
        rw [upd_upd, take_of h1, List.map_append, List.filter_append, List.map_append]
        show _ = upd _ F (.lst (_ ++ (([e.2] : List Nat).filter fun x => x != e0.2).map sg))
        rw [List.filter_cons_of_pos (p := fun x => x != e0.2) (by exact c)]
        rfl
      · have c : ¬ (e.2 != e0.2) = true := by
          rw [bne_iff_ne]
          intro z
          exact z (sg_inj k)
        show _ = upd _ F _
        rw [take_of h1, List.map_append, List.filter_append]
        show _ = upd _ F (.lst ((_ ++ (([e.2] : List Nat).filter fun x => x != e0.2)).map sg))
        rw [List.filter_cons_of_neg (p := fun x => x != e0.2) (by exact c), List.filter_nil, List.append_nil]
    rintro H5 rfl
    rw [lenE, List.take_length]
    have s4 : Same H1 (upd (upd (upd H1 D (.lst (us.map V.ref))) E' (.lst ((oth r wh).map fun e => sg e.2))) F (.lst ((((oth r wh).map (·.2)).filter fun x => x != e0.2).map sg))) := s3.trans (sNew hF)
    walk_at "rd"
    refine ⟨by show 1 ≤ sizeLine; decide, fun b hb => ?_⟩
    have hFb := (sNew (o := .lst [V.non]) hb) F _ upd_same
    refine rd_cat hFb upd_same (sz60' ?_) fun N hN => ?_
    · rw [List.length_map]
      have := List.length_filter_le (fun x => x != e0.2) ((oth r wh).map (·.2))
      rw [List.length_map] at this
      show _ + 1 ≤ 100
      omega
    walk_at "rd"
    -- the heap behind the lists: what is known of it
    have n1 := sNew (o := .lst [V.non]) hb
    have n2' := sNew (o := .lst (((((oth r wh).map (·.2)).filter fun x => x != e0.2).map sg) ++ [V.non])) hN
    have k12 := n1.trans n2'
    have gD := k12 _ _ ((sNew hF) _ _ ((sNew hE) _ _ (upd_same (H := H1) (a := D) (o := .lst (us.map V.ref)))))
    have gE := k12 _ _ ((sNew hF) _ _ (upd_same (H := upd H1 D (.lst (us.map V.ref))) (a := E') (o := .lst ((oth r wh).map fun e => sg e.2))))
    have gN := upd_same (H := upd (upd (upd (upd H1 D (.lst (us.map V.ref))) E' (.lst ((oth r wh).map fun e => sg e.2))) F (.lst ((((oth r wh).map (·.2)).filter fun x => x != e0.2).map sg))) b (.lst [V.non])) (a := N) (o := .lst (((((oth r wh).map (·.2)).filter fun x => x != e0.2).map sg) ++ [V.non]))
    have sA := s4.trans k12
    have gU := hU.mono (sTups sA)
    have gl := sA _ _ hl1
    have gS := S1.same sA
    have gs := s1.trans (sTo p sA)
    generalize upd (upd (upd (upd (upd H1 D (.lst (us.map V.ref))) E' (.lst ((oth r wh).map fun e => sg e.2))) F (.lst ((((oth r wh).map (·.2)).filter fun x => x != e0.2).map sg))) b (.lst [V.non])) N (.lst (((((oth r wh).map (·.2)).filter fun x => x != e0.2).map sg) ++ [V.non])) = G at gD gE gN sA gU gl gS gs
    have pD : D ≠ p := S1.not_none hD
    have pE : E' ≠ p := S1.not_none hE0
    have pN : N ≠ p := S1.not_none (s4.free (n1.free hN))
    have o60 : ∀ e ∈ oth r wh, 97 ≤ e.2 ∧ e.2 ≤ 122 := fun e he => V0.col e (List.mem_filter.mp he).1
    have hoU : Cok (oth r wh) := o60
    -- four turns
    refine ⟨4, rfl, by decide, by decide, for_range (lo := 0) (n := (4 : Int).toNat) (fun i σ H' => ∃ x6 x7 x8 x9 x10 x11 x12 x13 x14, σ = [some (.ref p), some (.ref l), some (.int (wh : Int)), some (.ref D), some (.ref E'), some (.ref N), x6, x7, x8, x9, x10, x11, x12, x13, x14, none, none, none] ∧ Same' p G H' ∧ Src H' p)
      ⟨none, none, none, none, none, none, none, none, none, rfl, Same'.refl p G, gS⟩ ?_ ?_⟩
    · rintro i σ H' hi ⟨x6, x7, x8, x9, x10, x11, x12, x13, x14, rfl, t1, T1⟩
      walk_at "rd"
      refine rd_ixL (t1 _ _ gE pE) (atI_nat (j := 0) (hcE 0 e0 he0)) ?_
      walk_at "rd"
      obtain ⟨el, hel1, hel2⟩ : ∃ el ∈ oth r wh, atI ((oth r wh).map fun e => sg e.2) (-1) = some (sg el.2) := by
        obtain ⟨x, hx, hx2⟩ := at_last (l := (oth r wh).map fun e => sg e.2) (by rw [lenE, eo]; exact Nat.succ_pos _)
        obtain ⟨e, he, rfl⟩ := List.mem_map.mp hx
        exact ⟨e, he, hx2⟩
      refine rd_ixL (t1 _ _ gE pE) hel2 ?_
      walk_at "rd"
      refine ⟨p, 26, rfl, T1, by decide, by decide, fun m H6 m0 m1 S6 f6 => ?_⟩
      obtain ⟨m', rfl⟩ : ∃ m' : Nat, m = (m' : Int) := ⟨m.toNat, by omega⟩
      refine ⟨_, _, 97 + m', rfl, rfl, abc_len, abc_at m' (by omega), ?_⟩
      walk_at "rd"
      have t6 := t1.trans (Same'.of f6)
      refine ⟨by show 3 ≤ sizeLine; decide, fun b1 hb1 => ?_⟩
      have t7 := t6.trans (sTo p (sNew (o := .lst [sg e0.2, sg el.2, sg (97 + m')]) hb1))
      have S7 := S6.same (sNew (o := .lst [sg e0.2, sg el.2, sg (97 + m')]) hb1)
      have pb1 := S6.not_none hb1
      walk_at "rd"
      refine ⟨p, 3, rfl, S7, by decide, by decide, fun j H8 j0 j1 S8 f8 => ?_⟩
      obtain ⟨c, hc, hc2⟩ := pick3 e0.2 el.2 (97 + m') j0 j1
      have hc3 : 97 ≤ c ∧ c ≤ 122 := by
        have q1 := o60 e0 (getElem?_mem he0)
        have q2 := o60 el hel1
        rcases hc2 with z | z | z <;> rw [z] <;> omega
      have t8 := t7.trans (Same'.of f8)
      refine rd_ixL (by rw [f8 b1 pb1]; exact upd_same) hc ?_
      walk_at "rd"
      refine rd_ifV (v := oV (fo (oth r wh) c)) (decide (sg c = sg e0.2)) (fun R q => ?_) (fun z R q => ?_) (fun z R q => ?_) ?_
      · walk_at "rd"
        refine rd_ixL (t8 _ _ gE pE) (atI_nat (j := 0) (hcE 0 e0 he0)) ?_
        walk_at "rd"
        exact q
      · have z2 : c = e0.2 := sg_inj (of_decide_eq_true z)
        walk_at "rd"
        refine rd_ixL (t8 _ _ gN pN) (atI_nat (j := 0) (nexts_at (oth r wh) e0.2)) ?_
        rw [z2] at q
        exact q
      · have z2 : c ≠ e0.2 := fun y => of_decide_eq_false z (by rw [y])
        walk_at "rd"
        refine rd_ixL (t8 _ _ gE pE) (atI_nat (j := 0) (hcE 0 e0 he0)) ?_
        rw [eo, fo_yes fun y => z2 y.symm] at q
        exact q
      walk_at "rd"
      -- the positions
      refine rd_forL (fun b H1 => ∃ d : Nat, H1 b = some (.lst [V.int ((0 : Nat) : Int), V.int (((us.map V.ref).length : Nat) : Int), V.int (d : Int)]) ∧ d < r.length ∧ b ≠ p ∧ Same' p G H1 ∧ Src H1 p) (fun R q => ?_) ?_
      · walk_at "rd"
        refine rd_len (t8 _ _ gD pD) ?_
        walk_at "rd"
        refine rd_len (t8 _ _ gl lp) ?_
        walk_at "rd"
        refine ⟨p, _, rfl, S8, by omega, by omega, fun d H9 d0 d1 S9 f9 => ?_⟩
        obtain ⟨d', rfl⟩ : ∃ d' : Nat, d = (d' : Int) := ⟨d.toNat, by omega⟩
        walk_at "rd"
        refine ⟨by show 3 ≤ sizeLine; decide, fun b2 hb2 => ?_⟩
        exact q b2 _ ⟨d', upd_same, by omega, S9.not_none hb2, (t8.trans (Same'.of f9)).trans (sTo p (sNew hb2)), S9.same (sNew hb2)⟩
      · rintro b2 H10 ⟨d, hb2, hd, pb2, t10, S10⟩
        refine ⟨⟨_, SqL.of hb2⟩, for_list (K := K) (a := b2) (xs := [V.int ((0 : Nat) : Int), V.int (((us.map V.ref).length : Nat) : Int), V.int (d : Int)]) (fun _ σ H' => ∃ x10 x11 x12 x13 x14, σ = [some (.ref p), some (.ref l), some (.int (wh : Int)), some (.ref D), some (.ref E'), some (.ref N), some (.int (0 + (i : Int))), some (.ref b1), some (sg c), some (oV (fo (oth r wh) c)), x10, x11, x12, x13, x14, none, none, none] ∧ Same' p H10 H' ∧ Src H' p)
          ⟨x10, x11, x12, x13, x14, rfl, Same'.refl p H10, S10⟩ (fun i σ H' _ ⟨_, _, _, _, _, _, e, _⟩ => SqL.of (e _ _ hb2 pb2)) ?_ ?_⟩
        · rintro j2 v σ H' hx ⟨x10, x11, x12, x13, x14, rfl, u1, U1⟩
          have hk : ∃ k : Nat, v = vN k ∧ k ≤ (oth r wh).length := by
            match j2, hx with
            | 0, hx => exact ⟨0, (Option.some.inj hx).symm, Nat.zero_le _⟩
            | 1, hx => exact ⟨_, (Option.some.inj hx).symm, by rw [List.length_map]; omega⟩
            | 2, hx => exact ⟨d, (Option.some.inj hx).symm, by omega⟩
            | n + 3, hx => simp at hx
          obtain ⟨k, rfl, hk⟩ := hk
          have tu := t10.trans u1
          have hD1 := tu _ _ gD pD
          have hU1 := gU.mono (tu.tups gS.lst.choose_spec)
          walk_at "rd"
          refine rd_slL hD1 fun b3 hb3 => ?_
          rw [cut_take _ k (by rw [List.length_map]; omega)]
          walk_at "rd"
          refine ⟨by show 2 ≤ sizeLine; decide, fun t4 ht4 => ?_⟩
          walk_at "rd"
          refine ⟨by show 1 ≤ sizeLine; decide, fun b4 hb4 => ?_⟩
          have a3 := sNew (o := .lst ((us.map V.ref).take k)) hb3
          have a4 := sNew (o := .tup [vN wh, sg c]) ht4
          have a5 := sNew (o := .lst [.ref t4]) hb4
          have l3 : ((us.map V.ref).take k).length ≤ 60 := by
            rw [List.length_take, List.length_map]
            omega
          refine rd_cat (a5 _ _ (a4 _ _ upd_same)) upd_same (sz60' (by show _ + 1 ≤ 100; omega)) fun b5 hb5 => ?_
          have a6 := sNew (o := .lst ((us.map V.ref).take k ++ [.ref t4])) hb5
          have a36 := ((a3.trans a4).trans a5).trans a6
          walk_at "rd"
          refine rd_slL (a36 _ _ hD1) fun b6 hb6 => ?_
          rw [cut_drop _ k (by rw [List.length_map]; omega)]
          have a7 := sNew (o := .lst ((us.map V.ref).drop k)) hb6
          have l6 : ((us.map V.ref).drop k).length ≤ 60 := by
            rw [List.length_drop, List.length_map]
            omega
          refine rd_cat (a7 _ _ upd_same) upd_same (sz60' (by rw [List.length_append]; show _ + 1 + _ ≤ 100; rw [List.length_take, List.length_drop, List.length_map]; omega)) fun b7 hb7 => ?_
          have a8 := sNew (o := .lst (((us.map V.ref).take k ++ [.ref t4]) ++ (us.map V.ref).drop k)) hb7
          have a38 := (a36.trans a7).trans a8
          have gt4 := (((a5.trans a6).trans a7).trans a8) _ _ (upd_same (H := upd H' b3 (.lst ((us.map V.ref).take k))) (a := t4) (o := .tup [vN wh, sg c]))
          have gb7 := upd_same (H := upd (upd (upd (upd (upd H' b3 (.lst ((us.map V.ref).take k))) t4 (.tup [vN wh, sg c])) b4 (.lst [.ref t4])) b5 (.lst ((us.map V.ref).take k ++ [.ref t4]))) b6 (.lst ((us.map V.ref).drop k))) (a := b7) (o := .lst (((us.map V.ref).take k ++ [.ref t4]) ++ (us.map V.ref).drop k))
          generalize upd (upd (upd (upd (upd (upd H' b3 (.lst ((us.map V.ref).take k))) t4 (.tup [vN wh, sg c])) b4 (.lst [.ref t4])) b5 (.lst ((us.map V.ref).take k ++ [.ref t4]))) b6 (.lst ((us.map V.ref).drop k))) b7 (.lst (((us.map V.ref).take k ++ [.ref t4]) ++ (us.map V.ref).drop k)) = G7 at a38 gt4 gb7
          have hU7 := hU1.mono (sTups a38)
          have hP : RowAt G7 b7 (put (oth r wh) k (wh, c)) := by
            refine ⟨us.take k ++ [t4] ++ us.drop k, ?_, ((hU7.take k).app (TupsAt.one gt4)).app (hU7.drop k)⟩
            rw [gb7, List.map_append, List.map_append, List.map_take, List.map_drop]
            rfl
          have hV := put_valid V0 hw k c hc3.1 hc3.2
          have wl : wh < (put (oth r wh) k (wh, c)).length := by rw [hV.2]; exact hw
          have cp : colOf (put (oth r wh) k (wh, c)) wh = c := colOf_put oth_ne
          have fp : fo (put (oth r wh) k (wh, c)) c = fo (oth r wh) c := fo_put _ _ _ _
          have ap : apps (put (oth r wh) k (wh, c)) [wh] = (wh, (fo (oth r wh) c).getD c) :: oth r wh := app_put oth_ne
          walk_at "rd"
          refine ⟨by show 1 ≤ sizeLine; decide, fun b8 hb8 => ?_⟩
          have a9 := sNew (o := .lst [vN wh]) hb8
          refine ⟨b7, b8, _, [wh], rfl, hP.same a9, hV.1, upd_same, fun q hq => by rw [List.mem_singleton.mp hq]; exact wl, fun L H11 hL s11 hRL => ?_⟩
          have hVL := (apps_len hV.1 [wh] fun q hq => by rw [List.mem_singleton.mp hq]; exact wl).1
          rw [ap] at hRL hVL
          have hP11 := (hP.same a9).same s11
          walk_at "rd"
          refine ⟨b7, _, wh, rfl, hP11, hV.1, wl, fun H12 s12 => ?_⟩
          rw [cp, fp]
          walk_at "rd"
          refine rd_ne (scal_oV _ _) ?_
          walk_at "rd"
          refine rd_ndec (fun z => absurd rfl z) fun _ => ?_
          walk_at "rd"
          refine ⟨b7, _, rfl, hP11.same s12, hV.1, fun q H13 hq s13 hT => ?_⟩
          walk_at "rd"
          refine rd_ixL hT (atI_nat (takenEach_at wl)) ?_
          rw [cp, fp]
          walk_at "rd"
          refine rd_ne (scal_oV _ _) ?_
          walk_at "rd"
          refine rd_ndec (fun z => absurd rfl z) fun _ => ?_
          walk_at "rd"
          have s1113 := s12.trans s13
          have s1013 : Same G7 H13 := (a9.trans s11).trans s1113
          obtain ⟨lts, hLl, hLt⟩ := hRL.same s1113
          obtain ⟨t0, lts', elts⟩ : ∃ t0 lts', lts = t0 :: lts' := by
            cases lts with
            | nil => exact hLt.elim
            | cons x y => exact ⟨x, y, rfl⟩
          subst elts
          have ht0 := hLt.1
          refine rd_slL hLl fun b9 hb9 => ?_
          rw [cut_tail]
          have a10 := sNew (o := .lst ((((t0 :: lts').map V.ref)).drop 1)) hb9
          walk_at "rd"
          have hO13 : RowAt H13 D (oth r wh) := ⟨us, (a38.trans s1013) _ _ hD1, hU1.mono (sTups (a38.trans s1013))⟩
          refine rd_neD (d := dR (oth r wh)) (RowAt.dp ⟨lts', upd_same, TupsAt.mono hLt.2 (sTups a10)⟩) (hO13.same a10).dp (shp_row _ hoU) ?_
          walk_at "rd"
          refine rd_ixL (a10 _ _ hLl) (atI_nat (j := 0) rfl) ?_
          walk_at "rd"
          refine rd_ifV (v := sg ((fo (oth r wh) c).getD c)) (fo (oth r wh) c).isNone (fun R q => ?_) (fun z R q => ?_) (fun z R q => ?_) ?_
          · walk_at "rd"
            refine ⟨rfl, ?_⟩
            walk_at "rd"
            rw [oV_none]
            exact q
          · walk_at "rd"
            rw [Option.isNone_iff_eq_none.mp z] at q
            exact q
          · walk_at "rd"
            cases y : fo (oth r wh) c with
            | none => rw [y] at z; cases z
            | some d => rw [y] at q; exact q
          walk_at "rd"
          refine ⟨by show 2 ≤ sizeLine; decide, fun t9 ht9 => ?_⟩
          have a11 := sNew (o := .tup [vN wh, sg ((fo (oth r wh) c).getD c)]) ht9
          have fc : 97 ≤ (fo (oth r wh) c).getD c ∧ (fo (oth r wh) c).getD c ≤ 122 := hVL.col _ List.mem_cons_self
          refine rd_neD (d := dE (wh, (fo (oth r wh) c).getD c)) (.tup (SqT.of (a11 _ _ (a10 _ _ ht0))) (.cons (.int _) (.cons (.str _) .nil))) (.tup (SqT.of upd_same) (.cons (.int _) (.cons (.str _) .nil))) (shp_ent _ fc.2) ?_
          walk_at "rd"
          have a1011 := a10.trans a11
          refine rd_ixL (a1011 _ _ hLl) (atI_nat (j := 0) rfl) ?_
          walk_at "rd"
          refine rd_ixT (a1011 _ _ ht0) rfl ?_
          walk_at "rd"
          have sAll : Same H' (upd (upd H13 b9 (.lst (((t0 :: lts').map V.ref).drop 1))) t9 (.tup [vN wh, sg ((fo (oth r wh) c).getD c)])) := (a38.trans s1013).trans a1011
          refine rd_ixL (sAll _ _ (tu _ _ gE pE)) (atI_nat (j := 0) (hcE 0 e0 he0)) ?_
          walk_at "rd"
          refine rd_ixL (sAll _ _ (tu _ _ gN pN)) (atI_nat (j := 0) (nexts_at (oth r wh) e0.2)) ?_
          walk_at "rd"
          refine ⟨by show 2 ≤ sizeLine; decide, fun b10 hb10 => ?_⟩
          have a12 := sNew (o := .lst [sg e0.2, oV (fo (oth r wh) e0.2)]) hb10
          have hin : inV (sg ((fo (oth r wh) c).getD c)) [sg e0.2, oV (fo (oth r wh) e0.2)] = true := by
            have fi := front_in (e := e0) (o := o1) (c := c)
            rw [← eo] at fi
            show (eqV (sg e0.2) (sg ((fo (oth r wh) c).getD c)) || (eqV (oV (fo (oth r wh) e0.2)) (sg ((fo (oth r wh) c).getD c)) || false)) = true
            rcases fi with fi | fi
            · rw [fi]
              have : eqV (sg e0.2) (sg e0.2) = true := beq_self_eq_true _
              rw [this]
              rfl
            · rw [← fi]
              have : eqV (oV (some ((fo (oth r wh) c).getD c))) (sg ((fo (oth r wh) c).getD c)) = true := beq_self_eq_true _
              rw [this, Bool.or_false, Bool.or_true]
          refine rd_notin upd_same rfl ?_ hin ?_
          · show (true && ((flatV (oV (fo (oth r wh) e0.2))) && true)) = true
            cases fo (oth r wh) e0.2 <;> rfl
          walk_at "rd"
          refine rd_ixL (a12 _ _ (a1011 _ _ hLl)) (atI_nat (j := 0) rfl) ?_
          walk_at "rd"
          refine rd_ixT (a12 _ _ (a1011 _ _ ht0)) rfl ?_
          walk_at "rd"
          have a1012 := a1011.trans a12
          refine ⟨L, _, rfl, ⟨_, a1012 _ _ hLl, hLt.mono (sTups a1012)⟩, hVL, fun TT H15 hTT s15 gT => ?_⟩
          walk_at "rd"
          have a1015 := a1012.trans s15
          have hL15 := a1015 _ _ hLl
          have hLt15 := hLt.mono (sTups a1015)
          have lL : ((t0 :: lts').map V.ref).length = ((wh, (fo (oth r wh) c).getD c) :: oth r wh).length := by rw [List.length_map, hLt.len]
          refine ⟨_, rfl, L, rfl, ⟨_, SqL.of hL15⟩, fun Z hZ => lc_list (K := K) (a := L) (xs := (t0 :: lts').map V.ref) (fun _ H16 => H16 = upd H15 Z (.lst [])) rfl
            (fun i H3 _ e => by rw [e]; exact SqL.of ((sNew hZ) _ _ hL15)) ?_ ?_⟩
          · rintro i5 v H16 hi rfl
            rw [List.getElem?_map] at hi
            obtain ⟨t, h1, rfl⟩ := Option.map_eq_some_iff.mp hi
            obtain ⟨e, h2, h3⟩ := hLt15.get h1
            have hem := getElem?_mem h2
            have hel := hVL.lt hem
            have hec := colOf_of hVL.nodup hem
            have hz := sNew (o := .lst []) hZ
            refine rd_gtup (hz _ _ h3) rfl ?_
            walk_at "rd"
            refine ⟨rfl, ?_⟩
            walk_at "rd"
            refine rd_ixL (hz _ _ gT) (atI_nat (takenEach_at hel)) ?_
            rw [hec]
            walk_at "rd"
            refine rd_eq (scal_oV _ (some _)) ?_
            walk_at "rd"
            have key : decide (oV (fo ((wh, (fo (oth r wh) c).getD c) :: oth r wh) e.2) = sg ((fo (oth r wh) c).getD c)) = !decide (sg e.2 = sg ((fo (oth r wh) c).getD c)) := by
              by_cases z : e.2 = (fo (oth r wh) c).getD c
              · rw [decide_eq_true (show sg e.2 = sg ((fo (oth r wh) c).getD c) by rw [z])]
                refine decide_eq_false fun y => ?_
                exact (takes_is.mp (oV_inj (y := some _) y)) z
              · rw [decide_eq_false (fun y => z (sg_inj y))]
                refine decide_eq_true ?_
                rw [takes_is.mpr z]
                rfl
            rw [key]
            refine rd_ndec (fun z => absurd rfl z) fun _ => rfl
          · rintro H16 rfl
            walk_at "rd"
            refine ⟨Nat.zero_le _, fun b11 hb11 => ?_⟩
            refine rd_neD (d := dI []) (.lst (SqL.of ((sNew hb11) _ _ upd_same)) .nil) (.lst (SqL.of upd_same) .nil) (shp_ints _) ?_
            walk_at "rd"
            have sEnd : Same H' (upd (upd H15 Z (.lst [])) b11 (.lst [])) := (((a38.trans s1013).trans a1015).trans (sNew hZ)).trans (sNew hb11)
            exact ⟨_, _, _, _, _, rfl, u1.trans (sTo p sEnd), U1.same sEnd⟩
        · rintro σ H' ⟨x10, x11, x12, x13, x14, rfl, u1, U1⟩
          exact ⟨_, _, _, _, _, _, _, _, _, rfl, t10.trans u1, U1⟩
    · rintro σ H' ⟨x6, x7, x8, x9, x10, x11, x12, x13, x14, rfl, t1, T1⟩
      walk_at "rd"
      exact kq H' (gs.trans t1) T1
end K17

namespace K17
open PySem L2 LX
local macro_rules | `(tactic| walk_at "rd") => `(tactic| repeat (first
  | with_reducible refine rd_var rfl ?_ | with_reducible refine rd_c ?_ | with_reducible refine rd_op ?_ | with_reducible refine rd_un ?_ | with_reducible refine rd_I0 ?_ | with_reducible refine rd_U ?_
  | with_reducible refine rd_test ?_ | with_reducible refine rd_tB ?_ | with_reducible refine rd_bl ?_ | with_reducible refine rd_chain ?_
  | with_reducible refine rd_and ?_ | with_reducible refine rd_or ?_ | with_reducible refine rd_not ?_ | with_reducible refine rd_andV ?_ | with_reducible refine rd_orV ?_ | with_reducible refine rd_notV ?_
  | with_reducible refine rd_next ?_ | with_reducible refine rd_seq ?_ | with_reducible refine rd_drop ?_ | with_reducible refine rd_ret ?_ | with_reducible refine rd_ifS ?_ | with_reducible refine rd_asg ?_ | with_reducible refine rd_name ?_
  | with_reducible refine rd_par ?_ | with_reducible refine rd_two ?_ | with_reducible refine rd_2i ?_ | with_reducible refine rd_nil ?_ | with_reducible refine rd_cons ?_ | with_reducible refine rd_tup ?_ | with_reducible refine rd_lst ?_ | with_reducible refine rd_cb ?_ | with_reducible refine rd_call ?_
  | with_reducible refine rd_ixL (by assumption) rfl ?_ | with_reducible refine rd_ixT (by assumption) rfl ?_ | with_reducible refine rd_ixL upd_same rfl ?_ | with_reducible refine rd_sub ?_ | with_reducible refine rd_sl ?_ | with_reducible refine rd_nopart ?_ | with_reducible refine rd_part ?_ | with_reducible refine rd_int ?_
  | with_reducible refine rd_len (by assumption) ?_ | with_reducible refine rd_bm ?_ | with_reducible refine rd_bm0 ?_ | with_reducible refine rd_gcons ?_ | with_reducible refine rd_gnil ?_
  | ((with_reducible refine rd_I ?ci ?_); (case ci => first | assumption | (show (0 : Int) < _; decide) | exact Or.inl ⟨by decide, by decide⟩ | exact Or.inr ⟨by decide, by decide⟩ | exact ⟨by decide, by decide, (by decide : Int.natAbs 10 < 2 ^ 1000)⟩))
  | with_reducible refine rd_setL (by assumption) rfl ?_ | with_reducible refine rd_setL upd_same rfl ?_ | with_reducible refine rd_len upd_same ?_
  | with_reducible refine rd_2ty ?_ | with_reducible refine rd_NT ?_ | with_reducible refine rd_2s ?_ | with_reducible refine rd_lenS ?_ | with_reducible refine rd_lenT (by assumption) ?_ | ((with_reducible refine rd_typ ?ct ?_); (case ct => rfl))
  | ((with_reducible refine rd_eq ?cs ?_); (case cs => rfl)) | ((with_reducible refine rd_ne ?cs ?_); (case cs => rfl))
  | with_reducible refine rd_qtru ?_ | with_reducible refine rd_lstRg ?_ | with_reducible refine rd_rg1 ?_ | with_reducible refine rd_tyes ?_ | with_reducible refine rd_tyL (by assumption) ?_ | with_reducible refine rd_tyT (by assumption) ?_
  | with_reducible refine iteT ?_ | with_reducible refine iteF ?_ | with_reducible refine rd_nt ?_ | with_reducible refine rd_nf ?_
  | (dsimp only)))

section
variable {P : Program} {w : World} {K : PySem.W.Frag} {mg : Str → Option Value} {base : Heap} {a : Ad}
def sp_law (K : PySem.W.Frag) : Sp := fun vs H Q _ => ∃ (l : Addr) (ns : List Int), vs = [.ref l] ∧ Scr K H l ns ∧ ns.length ≤ 63 ∧ ∀ H', Q (.bl true) H'
theorem ok_law (T : Txt K mg a) : FnOk P w K mg base CX0 7 a.f_law a.d_law ["script"] (sp_law K) := by
  refine T.F_law.ok sc_law (fun vs H Q E h => ?_) (fun cdv A outer s H vs Q E hr h => ?_)
  · obtain ⟨l, ns, rfl, _⟩ := h
    rfl
  · obtain ⟨l, ns, rfl, hS, hz, kq⟩ := h
    have nd := sc_law.nd
    refine ⟨_, (pss_cons (ps_set (i := 1) nd rfl (Or.inl rfl) (pe_call (ok__law_cells T) (hr.mono (by decide)) rfl T.g__law_cells T.k__law_cells T.n__law_cells .nil pass0 (pa_cons (pv 0) (pa_cons pe_int pa_nil))))
      (pss_cons (ps_for PassesOwn.never rfl (pi_range1 rfl T.b_range (pa_cons (pe_callB (klen (K := K)) (by rfl) T.b_len (by decide +kernel) (pa_cons (pv 1) pa_nil)) pa_nil)) (pg_name (i := 2) nd rfl (Or.inl rfl)) (pss_cons (ps_set (i := 3) nd rfl (Or.inl rfl) (pe_call (ok__law_source T) (hr.mono (by decide)) rfl T.g__law_source T.k__law_source T.n__law_source .nil pass0 (pa_cons (pe_ix (kix_list (K := K)) (pv 1) (pv 2) (fun _ _ => rfl)) (pa_cons (pv 2) pa_nil))))
      (pss_cons (ps_set (i := 4) nd rfl (Or.inl rfl) (pe_call (ok__law_row T) (hr.mono (by decide)) rfl T.g__law_row T.k__law_row T.n__law_row .nil pass0 (pa_cons (pv 3) (pa_cons (pv 0) (pa_cons pe_int pa_nil)))))
      (pss_one (ps_if (PW.pt (pw_and (pt_cmpR op_gt (pe_callB (klen (K := K)) (by rfl) T.b_len (by decide +kernel) (pa_cons (pv 4) pa_nil)) pe_int (nomark _)) (pw_and1 (pt_not (pt_val (pe_call (ok__law_holds T) (hr.mono (by decide)) rfl T.g__law_holds T.k__law_holds T.n__law_holds .nil pass0 (pa_cons (pv 3) (pa_cons (pv 4) pa_nil)))))))) (pss_one (ps_ret pe_bl)) pss_nil)))))
      (pss_one (ps_ret pe_bl)))), ?_⟩
    walk_at "rd"
    refine ⟨l, ns, 6, rfl, hS, hz, fun C H1 cs hC s1 gC cz => ?_⟩
    walk_at "rd"
    refine rd_forR (n := ((cs.length : Nat) : Int)) (fun H2 => H2 = H1) (fun R q => ?_) (by omega) (by omega) ?_
    · walk_at "rd"
      rw [List.length_map]
      exact q _ rfl
    rintro _ rfl
    refine for_range (lo := 0) (n := ((cs.length : Nat) : Int).toNat) (fun i σ H' => ∃ x2 x3 x4, σ = [some (.ref l), some (.ref C), x2, x3, x4] ∧ Same H H' ∧ H' C = some (.lst (cs.map V.int))) ⟨none, none, none, rfl, s1, gC⟩ ?_ ?_
    · rintro i σ H' hi ⟨x2, x3, x4, rfl, s2, gC2⟩
      have hi2 : i < cs.length := by omega
      have e0 : (0 : Int) + (i : Int) = (i : Int) := Int.zero_add _
      rw [e0]
      walk_at "rd"
      refine rd_ixL gC2 (atI_nat (by rw [List.getElem?_map, List.getElem?_eq_getElem hi2]; rfl)) ?_
      walk_at "rd"
      refine ⟨_, _, rfl, by omega, by omega, fun p H3 hp S3 f3 => ?_⟩
      have s3 : Same H' H3 := fun b o e => by rw [f3 b (ne_of_none e hp)]; exact e
      have hCp : C ≠ p := ne_of_none gC2 hp
      walk_at "rd"
      refine ⟨p, l, ns, rfl, S3, hS.same (s2.trans s3), hz, fun L H4 r hL s4 S4 hR hV => ?_⟩
      have hLp : L ≠ p := S3.not_none hL
      obtain ⟨ts, hl, ht⟩ := id hR
      have lt : (ts.map V.ref).length = r.length := by rw [List.length_map, ht.len]
      have fin : ∀ H5, Same' p H4 H5 → Same H H5 ∧ H5 C = some (.lst (cs.map V.int)) := fun H5 s5 =>
        ⟨fun b o e => s5 _ _ (s4 _ _ (s3 _ _ (s2 _ _ e)) (ne_of_none (s2 _ _ e) hp)) (ne_of_none (s2 _ _ e) hp), s5 _ _ (s4 _ _ (s3 _ _ gC2) hCp) hCp⟩
      walk_at "rd"
      refine rd_dec (fun c => ?_) fun c => ?_
      · walk_at "rd"
        refine ⟨p, L, r, rfl, S4, hR, hV, by omega, fun H5 s5 S5 => ?_⟩
        walk_at "rd"
        exact ⟨_, _, _, rfl, (fin H5 s5).1, (fin H5 s5).2⟩
      · walk_at "rd"
        exact ⟨_, _, _, rfl, (fin H4 (Same'.refl _ _)).1, (fin H4 (Same'.refl _ _)).2⟩
    · rintro σ H' ⟨x2, x3, x4, rfl, s2, gC2⟩
      walk_at "rd"
      exact kq H'
end
theorem all_mk {l : PySem.W.OpenLaw} {w : World} {K : PySem.W.Frag} {h : Heap} {mg : Str → Option Value} {fa : Addr} (X : K.In h) (G : h.Ns mainGlobals mg) (hfa : mg "law" = some (.ref fa))
    {f__law_cells : Addr} {od__law_cells an__law_cells : Option Addr} {sl__law_cells : Array (Option Value)} {oc__law_cells kV__law_cells dc__law_cells pm__law_cells cd__law_cells ct__law_cells : Value}
    {f__law_source : Addr} {od__law_source an__law_source : Option Addr} {sl__law_source : Array (Option Value)} {oc__law_source kV__law_source dc__law_source pm__law_source cd__law_source ct__law_source : Value}
    {f__law_draw : Addr} {od__law_draw an__law_draw : Option Addr} {sl__law_draw : Array (Option Value)} {oc__law_draw kV__law_draw dc__law_draw pm__law_draw cd__law_draw ct__law_draw : Value}
    {f__law_row : Addr} {od__law_row an__law_row : Option Addr} {sl__law_row : Array (Option Value)} {oc__law_row kV__law_row dc__law_row pm__law_row cd__law_row ct__law_row : Value}
    {f_is_integer : Addr} {od_is_integer an_is_integer : Option Addr} {sl_is_integer : Array (Option Value)} {oc_is_integer kV_is_integer dc_is_integer pm_is_integer cd_is_integer ct_is_integer : Value}
    {f_is_color : Addr} {od_is_color an_is_color : Option Addr} {sl_is_color : Array (Option Value)} {oc_is_color kV_is_color dc_is_color pm_is_color cd_is_color ct_is_color : Value}
    {f_is_colored_integer : Addr} {od_is_colored_integer an_is_colored_integer : Option Addr} {sl_is_colored_integer : Array (Option Value)} {oc_is_colored_integer kV_is_colored_integer dc_is_colored_integer pm_is_colored_integer cd_is_colored_integer ct_is_colored_integer : Value}
    {f_is_lineup : Addr} {od_is_lineup an_is_lineup : Option Addr} {sl_is_lineup : Array (Option Value)} {oc_is_lineup kV_is_lineup dc_is_lineup pm_is_lineup cd_is_lineup ct_is_lineup : Value}
    {f_check_lineup : Addr} {od_check_lineup an_check_lineup : Option Addr} {sl_check_lineup : Array (Option Value)} {oc_check_lineup kV_check_lineup dc_check_lineup pm_check_lineup cd_check_lineup ct_check_lineup : Value}
    {f_is_person : Addr} {od_is_person an_is_person : Option Addr} {sl_is_person : Array (Option Value)} {oc_is_person kV_is_person dc_is_person pm_is_person cd_is_person ct_is_person : Value}
    {f_check_calls : Addr} {od_check_calls an_check_calls : Option Addr} {sl_check_calls : Array (Option Value)} {oc_check_calls kV_check_calls dc_check_calls pm_check_calls cd_check_calls ct_check_calls : Value}
    {f_first_other_color : Addr} {od_first_other_color an_first_other_color : Option Addr} {sl_first_other_color : Array (Option Value)} {oc_first_other_color kV_first_other_color dc_first_other_color pm_first_other_color cd_first_other_color ct_first_other_color : Value}
    {f_colors_by_person : Addr} {od_colors_by_person an_colors_by_person : Option Addr} {sl_colors_by_person : Array (Option Value)} {oc_colors_by_person kV_colors_by_person dc_colors_by_person pm_colors_by_person cd_colors_by_person ct_colors_by_person : Value}
    {f_apply_call : Addr} {od_apply_call an_apply_call : Option Addr} {sl_apply_call : Array (Option Value)} {oc_apply_call kV_apply_call dc_apply_call pm_apply_call cd_apply_call ct_apply_call : Value}
    {f_lineup_after : Addr} {od_lineup_after an_lineup_after : Option Addr} {sl_lineup_after : Array (Option Value)} {oc_lineup_after kV_lineup_after dc_lineup_after pm_lineup_after cd_lineup_after ct_lineup_after : Value}
    {f_colors_taken_by_each : Addr} {od_colors_taken_by_each an_colors_taken_by_each : Option Addr} {sl_colors_taken_by_each : Array (Option Value)} {oc_colors_taken_by_each kV_colors_taken_by_each dc_colors_taken_by_each pm_colors_taken_by_each cd_colors_taken_by_each ct_colors_taken_by_each : Value}
    {f_check_person : Addr} {od_check_person an_check_person : Option Addr} {sl_check_person : Array (Option Value)} {oc_check_person kV_check_person dc_check_person pm_check_person cd_check_person ct_check_person : Value}
    {f_color_taken : Addr} {od_color_taken an_color_taken : Option Addr} {sl_color_taken : Array (Option Value)} {oc_color_taken kV_color_taken dc_color_taken pm_color_taken cd_color_taken ct_color_taken : Value}
    {f__law_holds : Addr} {od__law_holds an__law_holds : Option Addr} {sl__law_holds : Array (Option Value)} {oc__law_holds kV__law_holds dc__law_holds pm__law_holds cd__law_holds ct__law_holds : Value}
    {f_law : Addr} {od_law an_law : Option Addr} {sl_law : Array (Option Value)} {oc_law kV_law dc_law pm_law cd_law ct_law : Value}
    {t_MOST_PEOPLE : Tok}
    (a__law_cells : PySem.W.nsIn K mainGlobals "_law_cells" = some (some (.ref f__law_cells)))
    (l__law_cells : K.lookup f__law_cells = some ⟨oc__law_cells, od__law_cells, .func (PySem.W.fnOf "_law_cells" "_law_cells" (defArgs s__law_cells) (defBody s__law_cells) (defScope s__law_cells) .none kV__law_cells dc__law_cells pm__law_cells an__law_cells cd__law_cells ct__law_cells), sl__law_cells⟩)
    (c__law_cells : PySem.W.codeIn K cd__law_cells "_law_cells" = true) (k__law_cells : PySem.W.keepIn K (.ref f__law_cells) = true)
    (a__law_source : PySem.W.nsIn K mainGlobals "_law_source" = some (some (.ref f__law_source)))
    (l__law_source : K.lookup f__law_source = some ⟨oc__law_source, od__law_source, .func (PySem.W.fnOf "_law_source" "_law_source" (defArgs s__law_source) (defBody s__law_source) (defScope s__law_source) .none kV__law_source dc__law_source pm__law_source an__law_source cd__law_source ct__law_source), sl__law_source⟩)
    (c__law_source : PySem.W.codeIn K cd__law_source "_law_source" = true) (k__law_source : PySem.W.keepIn K (.ref f__law_source) = true)
    (a__law_draw : PySem.W.nsIn K mainGlobals "_law_draw" = some (some (.ref f__law_draw)))
    (l__law_draw : K.lookup f__law_draw = some ⟨oc__law_draw, od__law_draw, .func (PySem.W.fnOf "_law_draw" "_law_draw" (defArgs s__law_draw) (defBody s__law_draw) (defScope s__law_draw) .none kV__law_draw dc__law_draw pm__law_draw an__law_draw cd__law_draw ct__law_draw), sl__law_draw⟩)
    (c__law_draw : PySem.W.codeIn K cd__law_draw "_law_draw" = true) (k__law_draw : PySem.W.keepIn K (.ref f__law_draw) = true)
    (a__law_row : PySem.W.nsIn K mainGlobals "_law_row" = some (some (.ref f__law_row)))
    (l__law_row : K.lookup f__law_row = some ⟨oc__law_row, od__law_row, .func (PySem.W.fnOf "_law_row" "_law_row" (defArgs s__law_row) (defBody s__law_row) (defScope s__law_row) .none kV__law_row dc__law_row pm__law_row an__law_row cd__law_row ct__law_row), sl__law_row⟩)
    (c__law_row : PySem.W.codeIn K cd__law_row "_law_row" = true) (k__law_row : PySem.W.keepIn K (.ref f__law_row) = true)
    (a_is_integer : PySem.W.nsIn K mainGlobals "is_integer" = some (some (.ref f_is_integer)))
    (l_is_integer : K.lookup f_is_integer = some ⟨oc_is_integer, od_is_integer, .func (PySem.W.fnOf "is_integer" "is_integer" (defArgs s_is_integer) (defBody s_is_integer) (defScope s_is_integer) .none kV_is_integer dc_is_integer pm_is_integer an_is_integer cd_is_integer ct_is_integer), sl_is_integer⟩)
    (c_is_integer : PySem.W.codeIn K cd_is_integer "is_integer" = true) (k_is_integer : PySem.W.keepIn K (.ref f_is_integer) = true)
    (a_is_color : PySem.W.nsIn K mainGlobals "is_color" = some (some (.ref f_is_color)))
    (l_is_color : K.lookup f_is_color = some ⟨oc_is_color, od_is_color, .func (PySem.W.fnOf "is_color" "is_color" (defArgs s_is_color) (defBody s_is_color) (defScope s_is_color) .none kV_is_color dc_is_color pm_is_color an_is_color cd_is_color ct_is_color), sl_is_color⟩)
    (c_is_color : PySem.W.codeIn K cd_is_color "is_color" = true) (k_is_color : PySem.W.keepIn K (.ref f_is_color) = true)
    (a_is_colored_integer : PySem.W.nsIn K mainGlobals "is_colored_integer" = some (some (.ref f_is_colored_integer)))
    (l_is_colored_integer : K.lookup f_is_colored_integer = some ⟨oc_is_colored_integer, od_is_colored_integer, .func (PySem.W.fnOf "is_colored_integer" "is_colored_integer" (defArgs s_is_colored_integer) (defBody s_is_colored_integer) (defScope s_is_colored_integer) .none kV_is_colored_integer dc_is_colored_integer pm_is_colored_integer an_is_colored_integer cd_is_colored_integer ct_is_colored_integer), sl_is_colored_integer⟩)
    (c_is_colored_integer : PySem.W.codeIn K cd_is_colored_integer "is_colored_integer" = true) (k_is_colored_integer : PySem.W.keepIn K (.ref f_is_colored_integer) = true)
    (a_is_lineup : PySem.W.nsIn K mainGlobals "is_lineup" = some (some (.ref f_is_lineup)))
    (l_is_lineup : K.lookup f_is_lineup = some ⟨oc_is_lineup, od_is_lineup, .func (PySem.W.fnOf "is_lineup" "is_lineup" (defArgs s_is_lineup) (defBody s_is_lineup) (defScope s_is_lineup) .none kV_is_lineup dc_is_lineup pm_is_lineup an_is_lineup cd_is_lineup ct_is_lineup), sl_is_lineup⟩)
    (c_is_lineup : PySem.W.codeIn K cd_is_lineup "is_lineup" = true) (k_is_lineup : PySem.W.keepIn K (.ref f_is_lineup) = true)
    (a_check_lineup : PySem.W.nsIn K mainGlobals "check_lineup" = some (some (.ref f_check_lineup)))
    (l_check_lineup : K.lookup f_check_lineup = some ⟨oc_check_lineup, od_check_lineup, .func (PySem.W.fnOf "check_lineup" "check_lineup" (defArgs s_check_lineup) (defBody s_check_lineup) (defScope s_check_lineup) .none kV_check_lineup dc_check_lineup pm_check_lineup an_check_lineup cd_check_lineup ct_check_lineup), sl_check_lineup⟩)
    (c_check_lineup : PySem.W.codeIn K cd_check_lineup "check_lineup" = true) (k_check_lineup : PySem.W.keepIn K (.ref f_check_lineup) = true)
    (a_is_person : PySem.W.nsIn K mainGlobals "is_person" = some (some (.ref f_is_person)))
    (l_is_person : K.lookup f_is_person = some ⟨oc_is_person, od_is_person, .func (PySem.W.fnOf "is_person" "is_person" (defArgs s_is_person) (defBody s_is_person) (defScope s_is_person) .none kV_is_person dc_is_person pm_is_person an_is_person cd_is_person ct_is_person), sl_is_person⟩)
    (c_is_person : PySem.W.codeIn K cd_is_person "is_person" = true) (k_is_person : PySem.W.keepIn K (.ref f_is_person) = true)
    (a_check_calls : PySem.W.nsIn K mainGlobals "check_calls" = some (some (.ref f_check_calls)))
    (l_check_calls : K.lookup f_check_calls = some ⟨oc_check_calls, od_check_calls, .func (PySem.W.fnOf "check_calls" "check_calls" (defArgs s_check_calls) (defBody s_check_calls) (defScope s_check_calls) .none kV_check_calls dc_check_calls pm_check_calls an_check_calls cd_check_calls ct_check_calls), sl_check_calls⟩)
    (c_check_calls : PySem.W.codeIn K cd_check_calls "check_calls" = true) (k_check_calls : PySem.W.keepIn K (.ref f_check_calls) = true)
    (a_first_other_color : PySem.W.nsIn K mainGlobals "first_other_color" = some (some (.ref f_first_other_color)))
    (l_first_other_color : K.lookup f_first_other_color = some ⟨oc_first_other_color, od_first_other_color, .func (PySem.W.fnOf "first_other_color" "first_other_color" (defArgs s_first_other_color) (defBody s_first_other_color) (defScope s_first_other_color) .none kV_first_other_color dc_first_other_color pm_first_other_color an_first_other_color cd_first_other_color ct_first_other_color), sl_first_other_color⟩)
    (c_first_other_color : PySem.W.codeIn K cd_first_other_color "first_other_color" = true) (k_first_other_color : PySem.W.keepIn K (.ref f_first_other_color) = true)
    (a_colors_by_person : PySem.W.nsIn K mainGlobals "colors_by_person" = some (some (.ref f_colors_by_person)))
    (l_colors_by_person : K.lookup f_colors_by_person = some ⟨oc_colors_by_person, od_colors_by_person, .func (PySem.W.fnOf "colors_by_person" "colors_by_person" (defArgs s_colors_by_person) (defBody s_colors_by_person) (defScope s_colors_by_person) .none kV_colors_by_person dc_colors_by_person pm_colors_by_person an_colors_by_person cd_colors_by_person ct_colors_by_person), sl_colors_by_person⟩)
    (c_colors_by_person : PySem.W.codeIn K cd_colors_by_person "colors_by_person" = true) (k_colors_by_person : PySem.W.keepIn K (.ref f_colors_by_person) = true)
    (a_apply_call : PySem.W.nsIn K mainGlobals "apply_call" = some (some (.ref f_apply_call)))
    (l_apply_call : K.lookup f_apply_call = some ⟨oc_apply_call, od_apply_call, .func (PySem.W.fnOf "apply_call" "apply_call" (defArgs s_apply_call) (defBody s_apply_call) (defScope s_apply_call) .none kV_apply_call dc_apply_call pm_apply_call an_apply_call cd_apply_call ct_apply_call), sl_apply_call⟩)
    (c_apply_call : PySem.W.codeIn K cd_apply_call "apply_call" = true) (k_apply_call : PySem.W.keepIn K (.ref f_apply_call) = true)
    (a_lineup_after : PySem.W.nsIn K mainGlobals "lineup_after" = some (some (.ref f_lineup_after)))
    (l_lineup_after : K.lookup f_lineup_after = some ⟨oc_lineup_after, od_lineup_after, .func (PySem.W.fnOf "lineup_after" "lineup_after" (defArgs s_lineup_after) (defBody s_lineup_after) (defScope s_lineup_after) .none kV_lineup_after dc_lineup_after pm_lineup_after an_lineup_after cd_lineup_after ct_lineup_after), sl_lineup_after⟩)
    (c_lineup_after : PySem.W.codeIn K cd_lineup_after "lineup_after" = true) (k_lineup_after : PySem.W.keepIn K (.ref f_lineup_after) = true)
    (a_colors_taken_by_each : PySem.W.nsIn K mainGlobals "colors_taken_by_each" = some (some (.ref f_colors_taken_by_each)))
    (l_colors_taken_by_each : K.lookup f_colors_taken_by_each = some ⟨oc_colors_taken_by_each, od_colors_taken_by_each, .func (PySem.W.fnOf "colors_taken_by_each" "colors_taken_by_each" (defArgs s_colors_taken_by_each) (defBody s_colors_taken_by_each) (defScope s_colors_taken_by_each) .none kV_colors_taken_by_each dc_colors_taken_by_each pm_colors_taken_by_each an_colors_taken_by_each cd_colors_taken_by_each ct_colors_taken_by_each), sl_colors_taken_by_each⟩)
    (c_colors_taken_by_each : PySem.W.codeIn K cd_colors_taken_by_each "colors_taken_by_each" = true) (k_colors_taken_by_each : PySem.W.keepIn K (.ref f_colors_taken_by_each) = true)
    (a_check_person : PySem.W.nsIn K mainGlobals "check_person" = some (some (.ref f_check_person)))
    (l_check_person : K.lookup f_check_person = some ⟨oc_check_person, od_check_person, .func (PySem.W.fnOf "check_person" "check_person" (defArgs s_check_person) (defBody s_check_person) (defScope s_check_person) .none kV_check_person dc_check_person pm_check_person an_check_person cd_check_person ct_check_person), sl_check_person⟩)
    (c_check_person : PySem.W.codeIn K cd_check_person "check_person" = true) (k_check_person : PySem.W.keepIn K (.ref f_check_person) = true)
    (a_color_taken : PySem.W.nsIn K mainGlobals "color_taken" = some (some (.ref f_color_taken)))
    (l_color_taken : K.lookup f_color_taken = some ⟨oc_color_taken, od_color_taken, .func (PySem.W.fnOf "color_taken" "color_taken" (defArgs s_color_taken) (defBody s_color_taken) (defScope s_color_taken) .none kV_color_taken dc_color_taken pm_color_taken an_color_taken cd_color_taken ct_color_taken), sl_color_taken⟩)
    (c_color_taken : PySem.W.codeIn K cd_color_taken "color_taken" = true) (k_color_taken : PySem.W.keepIn K (.ref f_color_taken) = true)
    (a__law_holds : PySem.W.nsIn K mainGlobals "_law_holds" = some (some (.ref f__law_holds)))
    (l__law_holds : K.lookup f__law_holds = some ⟨oc__law_holds, od__law_holds, .func (PySem.W.fnOf "_law_holds" "_law_holds" (defArgs s__law_holds) (defBody s__law_holds) (defScope s__law_holds) .none kV__law_holds dc__law_holds pm__law_holds an__law_holds cd__law_holds ct__law_holds), sl__law_holds⟩)
    (c__law_holds : PySem.W.codeIn K cd__law_holds "_law_holds" = true) (k__law_holds : PySem.W.keepIn K (.ref f__law_holds) = true)
    (a_law : PySem.W.nsIn K mainGlobals "law" = some (some (.ref f_law)))
    (l_law : K.lookup f_law = some ⟨oc_law, od_law, .func (PySem.W.fnOf "law" "law" (defArgs s_law) (defBody s_law) (defScope s_law) .none kV_law dc_law pm_law an_law cd_law ct_law), sl_law⟩)
    (c_law : PySem.W.codeIn K cd_law "law" = true) (k_law : PySem.W.keepIn K (.ref f_law) = true)
    (a_MOST_PEOPLE : PySem.W.nsIn K mainGlobals "MOST_PEOPLE" = some (some (.int 60 t_MOST_PEOPLE)))
    (z_bool : PySem.W.nsIn K mainGlobals "bool" = some none)
    (z_enumerate : PySem.W.nsIn K mainGlobals "enumerate" = some none)
    (z_int : PySem.W.nsIn K mainGlobals "int" = some none)
    (z_isinstance : PySem.W.nsIn K mainGlobals "isinstance" = some none)
    (z_len : PySem.W.nsIn K mainGlobals "len" = some none)
    (z_list : PySem.W.nsIn K mainGlobals "list" = some none)
    (z_max : PySem.W.nsIn K mainGlobals "max" = some none)
    (z_min : PySem.W.nsIn K mainGlobals "min" = some none)
    (z_range : PySem.W.nsIn K mainGlobals "range" = some none)
    (z_sorted : PySem.W.nsIn K mainGlobals "sorted" = some none)
    (z_str : PySem.W.nsIn K mainGlobals "str" = some none)
    (z_tuple : PySem.W.nsIn K mainGlobals "tuple" = some none)
    (z_type : PySem.W.nsIn K mainGlobals "type" = some none)
    : ∃ fd : FuncData, (∀ (s : Shared) (v : Value), BindsTo s fd ⟨[v], []⟩ [("script", v)]) ∧ ∀ base : Heap, K.In base → base.Ns mainGlobals mg → FnOk l.prog w K mg base CX0 7 fa fd ["script"] (sp_law K) := by
  have e := hfa.symm.trans (PySem.W.mg_of X G a_law)
  cases e
  have F__law_cells := fun_mk (st := s__law_cells) l__law_cells c__law_cells k__law_cells
  have n__law_cells := F__law_cells.binds (ps := ["script", "count"]) fun _ _ _ _ _ _ us hl => match us, hl with | [_, _], _ => rfl
  have F__law_source := fun_mk (st := s__law_source) l__law_source c__law_source k__law_source
  have n__law_source := F__law_source.binds (ps := ["cell", "index"]) fun _ _ _ _ _ _ us hl => match us, hl with | [_, _], _ => rfl
  have F__law_draw := fun_mk (st := s__law_draw) l__law_draw c__law_draw k__law_draw
  have n__law_draw := F__law_draw.binds (ps := ["source", "count"]) fun _ _ _ _ _ _ us hl => match us, hl with | [_, _], _ => rfl
  have F__law_row := fun_mk (st := s__law_row) l__law_row c__law_row k__law_row
  have n__law_row := F__law_row.binds (ps := ["source", "script", "limit"]) fun _ _ _ _ _ _ us hl => match us, hl with | [_, _, _], _ => rfl
  have F_is_integer := fun_mk (st := s_is_integer) l_is_integer c_is_integer k_is_integer
  have n_is_integer := F_is_integer.binds (ps := ["value"]) fun _ _ _ _ _ _ us hl => match us, hl with | [_], _ => rfl
  have F_is_color := fun_mk (st := s_is_color) l_is_color c_is_color k_is_color
  have n_is_color := F_is_color.binds (ps := ["value"]) fun _ _ _ _ _ _ us hl => match us, hl with | [_], _ => rfl
  have F_is_colored_integer := fun_mk (st := s_is_colored_integer) l_is_colored_integer c_is_colored_integer k_is_colored_integer
  have n_is_colored_integer := F_is_colored_integer.binds (ps := ["value"]) fun _ _ _ _ _ _ us hl => match us, hl with | [_], _ => rfl
  have F_is_lineup := fun_mk (st := s_is_lineup) l_is_lineup c_is_lineup k_is_lineup
  have n_is_lineup := F_is_lineup.binds (ps := ["value"]) fun _ _ _ _ _ _ us hl => match us, hl with | [_], _ => rfl
  have F_check_lineup := fun_mk (st := s_check_lineup) l_check_lineup c_check_lineup k_check_lineup
  have n_check_lineup := F_check_lineup.binds (ps := ["value"]) fun _ _ _ _ _ _ us hl => match us, hl with | [_], _ => rfl
  have F_is_person := fun_mk (st := s_is_person) l_is_person c_is_person k_is_person
  have n_is_person := F_is_person.binds (ps := ["lineup", "value"]) fun _ _ _ _ _ _ us hl => match us, hl with | [_, _], _ => rfl
  have F_check_calls := fun_mk (st := s_check_calls) l_check_calls c_check_calls k_check_calls
  have n_check_calls := F_check_calls.binds (ps := ["lineup", "value"]) fun _ _ _ _ _ _ us hl => match us, hl with | [_, _], _ => rfl
  have F_first_other_color := fun_mk (st := s_first_other_color) l_first_other_color c_first_other_color k_first_other_color
  have n_first_other_color := F_first_other_color.binds (ps := ["lineup", "color"]) fun _ _ _ _ _ _ us hl => match us, hl with | [_, _], _ => rfl
  have F_colors_by_person := fun_mk (st := s_colors_by_person) l_colors_by_person c_colors_by_person k_colors_by_person
  have n_colors_by_person := F_colors_by_person.binds (ps := ["lineup"]) fun _ _ _ _ _ _ us hl => match us, hl with | [_], _ => rfl
  have F_apply_call := fun_mk (st := s_apply_call) l_apply_call c_apply_call k_apply_call
  have n_apply_call := F_apply_call.binds (ps := ["lineup", "person"]) fun _ _ _ _ _ _ us hl => match us, hl with | [_, _], _ => rfl
  have F_lineup_after := fun_mk (st := s_lineup_after) l_lineup_after c_lineup_after k_lineup_after
  have n_lineup_after := F_lineup_after.binds (ps := ["lineup", "calls"]) fun _ _ _ _ _ _ us hl => match us, hl with | [_, _], _ => rfl
  have F_colors_taken_by_each := fun_mk (st := s_colors_taken_by_each) l_colors_taken_by_each c_colors_taken_by_each k_colors_taken_by_each
  have n_colors_taken_by_each := F_colors_taken_by_each.binds (ps := ["lineup"]) fun _ _ _ _ _ _ us hl => match us, hl with | [_], _ => rfl
  have F_check_person := fun_mk (st := s_check_person) l_check_person c_check_person k_check_person
  have n_check_person := F_check_person.binds (ps := ["lineup", "value"]) fun _ _ _ _ _ _ us hl => match us, hl with | [_, _], _ => rfl
  have F_color_taken := fun_mk (st := s_color_taken) l_color_taken c_color_taken k_color_taken
  have n_color_taken := F_color_taken.binds (ps := ["lineup", "person"]) fun _ _ _ _ _ _ us hl => match us, hl with | [_, _], _ => rfl
  have F__law_holds := fun_mk (st := s__law_holds) l__law_holds c__law_holds k__law_holds
  have n__law_holds := F__law_holds.binds (ps := ["source", "row"]) fun _ _ _ _ _ _ us hl => match us, hl with | [_, _], _ => rfl
  have F_law := fun_mk (st := s_law) l_law c_law k_law
  have n_law := F_law.binds (ps := ["script"]) fun _ _ _ _ _ _ us hl => match us, hl with | [_], _ => rfl
  have T : Txt K mg { f__law_cells := _, d__law_cells := _, f__law_source := _, d__law_source := _, f__law_draw := _, d__law_draw := _, f__law_row := _, d__law_row := _, f_is_integer := _, d_is_integer := _, f_is_color := _, d_is_color := _, f_is_colored_integer := _, d_is_colored_integer := _, f_is_lineup := _, d_is_lineup := _, f_check_lineup := _, d_check_lineup := _, f_is_person := _, d_is_person := _, f_check_calls := _, d_check_calls := _, f_first_other_color := _, d_first_other_color := _, f_colors_by_person := _, d_colors_by_person := _, f_apply_call := _, d_apply_call := _, f_lineup_after := _, d_lineup_after := _, f_colors_taken_by_each := _, d_colors_taken_by_each := _, f_check_person := _, d_check_person := _, f_color_taken := _, d_color_taken := _, f__law_holds := _, d__law_holds := _, f_law := _, d_law := _, t_MOST_PEOPLE := t_MOST_PEOPLE } := {
    b_bool := PySem.W.mg_none_of X G z_bool,
    b_enumerate := PySem.W.mg_none_of X G z_enumerate,
    b_int := PySem.W.mg_none_of X G z_int,
    b_isinstance := PySem.W.mg_none_of X G z_isinstance,
    b_len := PySem.W.mg_none_of X G z_len,
    b_list := PySem.W.mg_none_of X G z_list,
    b_max := PySem.W.mg_none_of X G z_max,
    b_min := PySem.W.mg_none_of X G z_min,
    b_range := PySem.W.mg_none_of X G z_range,
    b_sorted := PySem.W.mg_none_of X G z_sorted,
    b_str := PySem.W.mg_none_of X G z_str,
    b_tuple := PySem.W.mg_none_of X G z_tuple,
    b_type := PySem.W.mg_none_of X G z_type,
    c_MOST_PEOPLE := PySem.W.mg_of X G a_MOST_PEOPLE,
    F__law_cells := F__law_cells,
    n__law_cells := n__law_cells,
    g__law_cells := PySem.W.mg_of X G a__law_cells,
    k__law_cells := k__law_cells,
    F__law_source := F__law_source,
    n__law_source := n__law_source,
    g__law_source := PySem.W.mg_of X G a__law_source,
    k__law_source := k__law_source,
    F__law_draw := F__law_draw,
    n__law_draw := n__law_draw,
    g__law_draw := PySem.W.mg_of X G a__law_draw,
    k__law_draw := k__law_draw,
    F__law_row := F__law_row,
    n__law_row := n__law_row,
    g__law_row := PySem.W.mg_of X G a__law_row,
    k__law_row := k__law_row,
    F_is_integer := F_is_integer,
    n_is_integer := n_is_integer,
    g_is_integer := PySem.W.mg_of X G a_is_integer,
    k_is_integer := k_is_integer,
    F_is_color := F_is_color,
    n_is_color := n_is_color,
    g_is_color := PySem.W.mg_of X G a_is_color,
    k_is_color := k_is_color,
    F_is_colored_integer := F_is_colored_integer,
    n_is_colored_integer := n_is_colored_integer,
    g_is_colored_integer := PySem.W.mg_of X G a_is_colored_integer,
    k_is_colored_integer := k_is_colored_integer,
    F_is_lineup := F_is_lineup,
    n_is_lineup := n_is_lineup,
    g_is_lineup := PySem.W.mg_of X G a_is_lineup,
    k_is_lineup := k_is_lineup,
    F_check_lineup := F_check_lineup,
    n_check_lineup := n_check_lineup,
    g_check_lineup := PySem.W.mg_of X G a_check_lineup,
    k_check_lineup := k_check_lineup,
    F_is_person := F_is_person,
    n_is_person := n_is_person,
    g_is_person := PySem.W.mg_of X G a_is_person,
    k_is_person := k_is_person,
    F_check_calls := F_check_calls,
    n_check_calls := n_check_calls,
    g_check_calls := PySem.W.mg_of X G a_check_calls,
    k_check_calls := k_check_calls,
    F_first_other_color := F_first_other_color,
    n_first_other_color := n_first_other_color,
    g_first_other_color := PySem.W.mg_of X G a_first_other_color,
    k_first_other_color := k_first_other_color,
    F_colors_by_person := F_colors_by_person,
    n_colors_by_person := n_colors_by_person,
    g_colors_by_person := PySem.W.mg_of X G a_colors_by_person,
    k_colors_by_person := k_colors_by_person,
    F_apply_call := F_apply_call,
    n_apply_call := n_apply_call,
    g_apply_call := PySem.W.mg_of X G a_apply_call,
    k_apply_call := k_apply_call,
    F_lineup_after := F_lineup_after,
    n_lineup_after := n_lineup_after,
    g_lineup_after := PySem.W.mg_of X G a_lineup_after,
    k_lineup_after := k_lineup_after,
    F_colors_taken_by_each := F_colors_taken_by_each,
    n_colors_taken_by_each := n_colors_taken_by_each,
    g_colors_taken_by_each := PySem.W.mg_of X G a_colors_taken_by_each,
    k_colors_taken_by_each := k_colors_taken_by_each,
    F_check_person := F_check_person,
    n_check_person := n_check_person,
    g_check_person := PySem.W.mg_of X G a_check_person,
    k_check_person := k_check_person,
    F_color_taken := F_color_taken,
    n_color_taken := n_color_taken,
    g_color_taken := PySem.W.mg_of X G a_color_taken,
    k_color_taken := k_color_taken,
    F__law_holds := F__law_holds,
    n__law_holds := n__law_holds,
    g__law_holds := PySem.W.mg_of X G a__law_holds,
    k__law_holds := k__law_holds,
    F_law := F_law,
    n_law := n_law,
    g_law := PySem.W.mg_of X G a_law,
    k_law := k_law }
  exact ⟨_, fun s v => .of_eq rfl, fun base _ _ => ok_law T⟩
theorem walk {l : PySem.W.OpenLaw} {q : Program} {loose : List Str} {XP : (Str → Option Value) → Heap → Prop} {YP : World → Heap → Prop} {d : DefRec} {K : Params → PySem.W.Frag} (hn : l.most = some 63) (hdf : d.params.defaults = [])
    (hY : ∀ (w : World) (h : Heap), YP w h → (K w.params).In h)
    (F : ∀ (w : World) (mg : Str → Option Value) (fa : Addr) (h : Heap), (K w.params).In h → h.Ns mainGlobals mg → mg d.name = some (.ref fa) →
      ∃ fd : FuncData, (∀ (s : Shared) (u : Value), BindsTo s fd ⟨[u], []⟩ [("script", u)]) ∧ ∀ base : Heap, (K w.params).In base → base.Ns mainGlobals mg → FnOk l.prog w (K w.params) mg base CX0 7 fa fd ["script"] (sp_law (K w.params))) :
    PySem.W.WalkO q loose XP YP l.row.toRowW d [] (fun f vs => PySem.call f vs) :=
  L2.walk_of (n := 63) (k := 7) (x := "script") (CX := fun _ => CX0) (sp := fun w => sp_law (K w.params)) hn (by decide) hdf ⟨rfl, by decide, by decide⟩ hY F (fun _ _ a ns hl hO hS => ⟨a, ns, rfl, Scr.of hO hS, hl, fun _ => rfl⟩) fun _ _ _ _ _ z => z
end K17
open PySem PySem.W PyProof.Rows
set_option maxRecDepth 100000 in
set_option maxHeartbeats 0 in
theorem PySem.Challenge.cw_lastother_k17_whole_only_others_matter_holds : PySem.Challenge.rw_lastother_k17_whole_only_others_matter.Holds := by
  w_on; o_law; k_head; (case hw => w_witness2)
  k_fill
  refine K17.walk (l := PySem.Challenge.rw_lastother_k17_whole_only_others_matter) rfl rfl (fun w h Y => PySem.W.kIn_of Y) ?F
  case F =>
    intro w mg fa h KX G hmg
    refine' K17.all_mk KX G hmg ?a__law_cells ?l__law_cells ?c__law_cells ?k__law_cells ?a__law_source ?l__law_source ?c__law_source ?k__law_source ?a__law_draw ?l__law_draw ?c__law_draw ?k__law_draw ?a__law_row ?l__law_row ?c__law_row ?k__law_row ?a_is_integer ?l_is_integer ?c_is_integer ?k_is_integer ?a_is_color ?l_is_color ?c_is_color ?k_is_color ?a_is_colored_integer ?l_is_colored_integer ?c_is_colored_integer ?k_is_colored_integer ?a_is_lineup ?l_is_lineup ?c_is_lineup ?k_is_lineup ?a_check_lineup ?l_check_lineup ?c_check_lineup ?k_check_lineup ?a_is_person ?l_is_person ?c_is_person ?k_is_person ?a_check_calls ?l_check_calls ?c_check_calls ?k_check_calls ?a_first_other_color ?l_first_other_color ?c_first_other_color ?k_first_other_color ?a_colors_by_person ?l_colors_by_person ?c_colors_by_person ?k_colors_by_person ?a_apply_call ?l_apply_call ?c_apply_call ?k_apply_call ?a_lineup_after ?l_lineup_after ?c_lineup_after ?k_lineup_after ?a_colors_taken_by_each ?l_colors_taken_by_each ?c_colors_taken_by_each ?k_colors_taken_by_each ?a_check_person ?l_check_person ?c_check_person ?k_check_person ?a_color_taken ?l_color_taken ?c_color_taken ?k_color_taken ?a__law_holds ?l__law_holds ?c__law_holds ?k__law_holds ?a_law ?l_law ?c_law ?k_law ?a_MOST_PEOPLE ?z_bool ?z_enumerate ?z_int ?z_isinstance ?z_len ?z_list ?z_max ?z_min ?z_range ?z_sorted ?z_str ?z_tuple ?z_type
    (case a__law_cells => k_is)
    (case l__law_cells => k_is)
    (case c__law_cells => k_is)
    (case k__law_cells => k_is)
    (case a__law_source => k_is)
    (case l__law_source => k_is)
    (case c__law_source => k_is)
    (case k__law_source => k_is)
    (case a__law_draw => k_is)
    (case l__law_draw => k_is)
    (case c__law_draw => k_is)
    (case k__law_draw => k_is)
    (case a__law_row => k_is)
    (case l__law_row => k_is)
    (case c__law_row => k_is)
    (case k__law_row => k_is)
    (case a_is_integer => k_is)
    (case l_is_integer => k_is)
    (case c_is_integer => k_is)
    (case k_is_integer => k_is)
    (case a_is_color => k_is)
    (case l_is_color => k_is)
    (case c_is_color => k_is)
    (case k_is_color => k_is)
    (case a_is_colored_integer => k_is)
    (case l_is_colored_integer => k_is)
    (case c_is_colored_integer => k_is)
    (case k_is_colored_integer => k_is)
    (case a_is_lineup => k_is)
    (case l_is_lineup => k_is)
    (case c_is_lineup => k_is)
    (case k_is_lineup => k_is)
    (case a_check_lineup => k_is)
    (case l_check_lineup => k_is)
    (case c_check_lineup => k_is)
    (case k_check_lineup => k_is)
    (case a_is_person => k_is)
    (case l_is_person => k_is)
    (case c_is_person => k_is)
    (case k_is_person => k_is)
    (case a_check_calls => k_is)
    (case l_check_calls => k_is)
    (case c_check_calls => k_is)
    (case k_check_calls => k_is)
    (case a_first_other_color => k_is)
    (case l_first_other_color => k_is)
    (case c_first_other_color => k_is)
    (case k_first_other_color => k_is)
    (case a_colors_by_person => k_is)
    (case l_colors_by_person => k_is)
    (case c_colors_by_person => k_is)
    (case k_colors_by_person => k_is)
    (case a_apply_call => k_is)
    (case l_apply_call => k_is)
    (case c_apply_call => k_is)
    (case k_apply_call => k_is)
    (case a_lineup_after => k_is)
    (case l_lineup_after => k_is)
    (case c_lineup_after => k_is)
    (case k_lineup_after => k_is)
    (case a_colors_taken_by_each => k_is)
    (case l_colors_taken_by_each => k_is)
    (case c_colors_taken_by_each => k_is)
    (case k_colors_taken_by_each => k_is)
    (case a_check_person => k_is)
    (case l_check_person => k_is)
    (case c_check_person => k_is)
    (case k_check_person => k_is)
    (case a_color_taken => k_is)
    (case l_color_taken => k_is)
    (case c_color_taken => k_is)
    (case k_color_taken => k_is)
    (case a__law_holds => k_is)
    (case l__law_holds => k_is)
    (case c__law_holds => k_is)
    (case k__law_holds => k_is)
    (case a_law => k_is)
    (case l_law => k_is)
    (case c_law => k_is)
    (case k_law => k_is)
    (case a_MOST_PEOPLE => k_is)
    (case z_bool => k_is)
    (case z_enumerate => k_is)
    (case z_int => k_is)
    (case z_isinstance => k_is)
    (case z_len => k_is)
    (case z_list => k_is)
    (case z_max => k_is)
    (case z_min => k_is)
    (case z_range => k_is)
    (case z_sorted => k_is)
    (case z_str => k_is)
    (case z_tuple => k_is)
    (case z_type => k_is)
