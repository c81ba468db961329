import PyProof.Rows.All
import Wide.All
import OpenK.AllK
import Wide.FinOn
import HandS.Base
import HandS.Call
import HandS.List
import HandS.Comp
import HandS.Conv
import HandS.Text
import HandS.Words
import HandS.WordsList
import HandS.Ends
import HandS.SortInts
import HandS.Wide
import HandS.IsInst
import HandS.More
import HandS.Evl
import HandS.Defaults
import HandS.Zip
import HandS.ExcOwn
import PyProof.ReprRoads
import HandS.Replace
import PySem.Challenge.RW_lastother_k19_whole_renamed_lineups
set_option Elab.async false
set_option linter.all false
set_option maxRecDepth 100000
set_option maxHeartbeats 4000000
/-! Lineups over the hand layer: what stands where, and rules of my own. -/
namespace LX
open PySem L2

/-! ### own operator rules -/
def CPowW (i j : Int) : Prop := 0 ≤ j ∧ j ≤ 1000 ∧ i.natAbs < 2 ^ 1000
theorem op_powW {X : Cx} : OpR X (binaryOp .Pow) (rI CPowW fun i j => .int (i ^ j.toNat)) := opI fun i j _ _ _ _ _ hc q => by
  refine PyProof.Rows.pow_int hc.1 ?_ q
  have h1 : Builtin.Int.intBits i ≤ 1000 := PyProof.Rows.intBits_le hc.2.2
  have h2 : (Builtin.Int.intBits i : Int) ≤ 1000 := by omega
  have h3 := Int.mul_le_mul h2 hc.2.1 hc.1 (by decide : (0:Int) ≤ 1000)
  exact Int.le_trans h3 (by decide)

/-! ### the rules that speak of the written part, with its name -/
section
variable {X : Cx} {K : PySem.W.Frag} {e o : Expr} {es : List Expr} {te to : TE} {t : TA} {pos apos cpos : Pos}
theorem kix_list (h : X.K = K := by rfl) : IxR X (rIxL K) := h ▸ ix_list
theorem kix_tup (h : X.K = K := by rfl) : IxR X (rIxT K) := h ▸ ix_tup
theorem ksl_list (h : X.K = K := by rfl) : SlR X (rSlL K) := h ▸ sl_list
def qLen (K : PySem.W.Frag) : List V → Hp → VK → Prop := fun xs H Q => ∃ p ys, xs = [.ref p] ∧ (SqL K H p ys ∨ SqT K H p ys) ∧ Q (.int ys.length) H
theorem klen (h : X.K = K := by rfl) : CallR X (.builtin "len") (qLen K) := h ▸ call_len_seq
def qList (K : PySem.W.Frag) : List V → Hp → VK → Prop := fun xs H Q => ∃ p ys, xs = [.ref p] ∧ (SqL K H p ys ∨ SqT K H p ys) ∧ ∀ l, H l = none → Q (.ref l) (upd H l (.lst ys))
theorem klist (h : X.K = K := by rfl) : CallR X (.type "list") (qList K) := h ▸ call_list_of
theorem ksorted (h : X.K = K := by rfl) : CallR X (.builtin "sorted") (rSortedI K) := h ▸ cr_sortedI
theorem kall (hc : X.calm = true) (h : X.K = K := by rfl) : CallR X (.builtin "all") (rAll K) := h ▸ cr_all hc
theorem kany (hc : X.calm = true) (h : X.K = K := by rfl) : CallR X (.builtin "any") (rAny K) := h ▸ cr_any hc
theorem ksum (hc : X.calm = true) (h : X.K = K := by rfl) : CallR X (.builtin "sum") (rSum K) := h ▸ cr_sum hc
theorem kisi (h : X.K = K := by rfl) : CallR X (.builtin "isinstance") (rIsi K) := h ▸ call_isi
theorem kisiT (h : X.K = K := by rfl) : CallR X (.builtin "isinstance") (rIsiT K) := h ▸ call_isiT
theorem kin (h : X.K = K := by rfl) : OpR X (compareOp .In) (rIn K false) := h ▸ op_in_seq
theorem knotIn (h : X.K = K := by rfl) : OpR X (compareOp .NotIn) (rIn K true) := h ▸ op_notIn_seq
theorem keqD (hu : X.A.units + 64 < cLine) (h : X.K = K := by rfl) : OpR X (compareOp .Eq) (rEqD K) := h ▸ op_eqD hu
theorem kneD (hu : X.A.units + 64 < cLine) (h : X.K = K := by rfl) : OpR X (compareOp .NotEq) (rNeD K) := h ▸ op_neD hu
theorem kpi_list {tg : Expr} (he : PE X e te) (h : X.K = K := by rfl) : PI X tg e (iList K te) := h ▸ pi_list he
theorem kbm {T id : String} {name : Str} {r : V → List V → Hp → VK → Prop} (p1 : PySem.PlainAttrs T) (p2 : PySem.Slot T name id) (p3 : typeOf (.builtin id) = pure (.type "method_descriptor")) (m : MtR X id r) (ho : PE X o to) (ha : PA X (e :: es) t)
    (q1 : attributeBase o name X.env (eval o X.env) = eval o X.env := by rfl)
    (q2 : ((backTo cpos (starEach (e :: es) X.env)).all (fun y => !y.1) && (backToKw cpos (keywordEach [] X.env)).all (fun y => y.1.isSome) && decide ((e :: es).length + ([] : List Keyword).length + (if ([] : List Keyword).isEmpty then 0 else 1) < 30)) = true := by rfl)
    (q3 : (apos.endLine == cpos.line) = true := by rfl) (q4 : starEach (e :: es) X.env = (false, eval e X.env) :: starEach es X.env := by rfl) (q5 : (backTo cpos (starEach es X.env)).any (·.1) = false := by rfl) (h : X.K = K := by rfl) :
    PE X (.Call (.Attribute o name apos) (e :: es) [] cpos) (tBM K T r to t) := h ▸ pe_bm p1 p2 p3 m ho ha q1 q2 q3 q4 q5
theorem kbm0 {T id : String} {name : Str} {r : V → List V → Hp → VK → Prop} (p1 : PySem.PlainAttrs T) (p2 : PySem.Slot T name id) (p3 : typeOf (.builtin id) = pure (.type "method_descriptor")) (m : MtR X id r) (ho : PE X o to)
    (q1 : attributeBase o name X.env (eval o X.env) = eval o X.env := by rfl) (q3 : (apos.endLine == cpos.line) = true := by rfl) (h : X.K = K := by rfl) :
    PE X (.Call (.Attribute o name apos) [] [] cpos) (tBM0 K T r to) := h ▸ pe_bm0 p1 p2 p3 m ho q1 q3
def qTru (K : PySem.W.Frag) (ta : TE) : TT := fun σ H Q => ta σ H fun x H' => ∃ k, TruV K x H' k ∧ Q k H'
theorem kpt_truth {b : Expr} {tb : TE} (hb : PE X b tb) (g : ∀ whole, isTrue b X.env whole = (do let v ← whole; standAt b.pos; holding [v] (truthy v))) (h : X.K = K := by rfl) : PT X b (qTru K tb) := h ▸ pt_truth hb g
theorem kpg_tup {k n : Nat} {u : TGs} (hc : X.calm = true) (hp : PGs X es u) (hn : (assignEach es X.env).length = n := by rfl) (hst : (assignEach es X.env).findIdx? (·.1) = none := by rfl) (h : X.K = K := by rfl) :
    PG X (.Tuple es k pos) (gTup K n u) := h ▸ pg_tup hc hp hn hst
end

/-! ### heaps -/
def Same' (p : Addr) (H H' : Hp) : Prop := ∀ b o, H b = some o → b ≠ p → H' b = some o
theorem Same'.refl (p : Addr) (H : Hp) : Same' p H H := fun _ _ h _ => h
theorem Same'.trans {p : Addr} {H H1 H2 : Hp} (a : Same' p H H1) (b : Same' p H1 H2) : Same' p H H2 := fun c o h n => b c o (a c o h n) n
theorem Same'.upd {p : Addr} {H : Hp} {o : HO} : Same' p H (upd H p o) := fun b u h n => by
  rw [upd_ne n]
  exact h
/-- a row of people: person, color (a code) -/
abbrev Row := List (Nat × Nat)
abbrev sg (c : Nat) : V := .str ⟨#[c]⟩
def oV : Option Nat → V
  | some c => sg c
  | none => .non
abbrev pr (e : Nat × Nat) : List V := [.int (e.1 : Int), sg e.2]
def TupsAt (H : Hp) : List Addr → Row → Prop
  | [], [] => True
  | t :: ts, e :: r => H t = some (.tup (pr e)) ∧ TupsAt H ts r
  | _, _ => False
theorem TupsAt.len {H : Hp} : ∀ {ts : List Addr} {r : Row}, TupsAt H ts r → ts.length = r.length
  | [], [], _ => rfl
  | _ :: ts, _ :: r, h => congrArg (· + 1) (TupsAt.len (ts := ts) (r := r) h.2)
  | [], _ :: _, h => h.elim
  | _ :: _, [], h => h.elim
theorem TupsAt.mono {H H' : Hp} : ∀ {ts : List Addr} {r : Row}, TupsAt H ts r → (∀ b xs, H b = some (.tup xs) → H' b = some (.tup xs)) → TupsAt H' ts r
  | [], [], _, _ => True.intro
  | _ :: ts, _ :: r, h, k => ⟨k _ _ h.1, TupsAt.mono (ts := ts) (r := r) h.2 k⟩
  | [], _ :: _, h, _ => h.elim
  | _ :: _, [], h, _ => h.elim
theorem TupsAt.get {H : Hp} : ∀ {ts : List Addr} {r : Row} {i : Nat} {t : Addr}, TupsAt H ts r → ts[i]? = some t → ∃ e, r[i]? = some e ∧ H t = some (.tup (pr e))
  | [], [], i, t, _, h => by simp at h
  | _ :: ts, e :: r, 0, t, h, q => by
    simp at q
    subst q
    exact ⟨e, rfl, h.1⟩
  | _ :: ts, _ :: r, i + 1, t, h, q => by
    simp at q
    obtain ⟨e, h1, h2⟩ := TupsAt.get (ts := ts) (r := r) h.2 q
    exact ⟨e, by simpa using h1, h2⟩
  | [], _ :: _, _, _, h, _ => h.elim
  | _ :: _, [], _, _, h, _ => h.elim
theorem TupsAt.app {H : Hp} : ∀ {ts us : List Addr} {r q : Row}, TupsAt H ts r → TupsAt H us q → TupsAt H (ts ++ us) (r ++ q)
  | [], _, [], _, _, h => h
  | _ :: ts, us, _ :: r, q, h, k => ⟨h.1, TupsAt.app (ts := ts) (r := r) h.2 k⟩
  | [], _, _ :: _, _, h, _ => h.elim
  | _ :: _, _, [], _, h, _ => h.elim
theorem TupsAt.take {H : Hp} : ∀ {ts : List Addr} {r : Row} (n : Nat), TupsAt H ts r → TupsAt H (ts.take n) (r.take n)
  | _, _, 0, _ => True.intro
  | [], [], _ + 1, _ => True.intro
  | _ :: ts, _ :: r, n + 1, h => ⟨h.1, TupsAt.take (ts := ts) (r := r) n h.2⟩
  | [], _ :: _, _ + 1, h => h.elim
  | _ :: _, [], _ + 1, h => h.elim
theorem TupsAt.drop {H : Hp} : ∀ {ts : List Addr} {r : Row} (n : Nat), TupsAt H ts r → TupsAt H (ts.drop n) (r.drop n)
  | _, _, 0, h => h
  | [], [], _ + 1, _ => True.intro
  | _ :: ts, _ :: r, n + 1, h => TupsAt.drop (ts := ts) (r := r) n h.2
  | [], _ :: _, _ + 1, h => h.elim
  | _ :: _, [], _ + 1, h => h.elim
theorem TupsAt.one {H : Hp} {t : Addr} {e : Nat × Nat} (h : H t = some (.tup (pr e))) : TupsAt H [t] [e] := ⟨h, True.intro⟩
def RowAt (H : Hp) (a : Addr) (r : Row) : Prop := ∃ ts : List Addr, H a = some (.lst (ts.map V.ref)) ∧ TupsAt H ts r
theorem sTups {H H' : Hp} (s : Same H H') : ∀ b xs, H b = some (.tup xs) → H' b = some (.tup xs) := fun b xs h => s b _ h
theorem RowAt.same {H H' : Hp} {a : Addr} {r : Row} (h : RowAt H a r) (s : Same H H') : RowAt H' a r :=
  let ⟨ts, h1, h2⟩ := h
  ⟨ts, s _ _ h1, h2.mono (sTups s)⟩
/-- a list at p is not the tuples' -/
theorem RowAt.same' {H H' : Hp} {a p : Addr} {r : Row} {xs : List V} (h : RowAt H a r) (s : Same' p H H') (hp : H p = some (.lst xs)) (n : a ≠ p) : RowAt H' a r :=
  let ⟨ts, h1, h2⟩ := h
  ⟨ts, s _ _ h1 n, h2.mono fun b ys e => s b _ e fun q => by
    rw [q, hp] at e
    cases e⟩
theorem sNew {H : Hp} {p : Addr} {o : HO} (h : H p = none) : Same H (upd H p o) := fun a u e => by
  rw [upd_ne (ne_of_none e h)]
  exact e
/-- a change of an object that H does not know -/
theorem sUpd {H H' : Hp} {p : Addr} {o : HO} (s : Same H H') (h : H p = none) : Same H (upd H' p o) := fun a u e => by
  rw [upd_ne (ne_of_none e h)]
  exact s a u e
theorem sTo {H H' : Hp} (p : Addr) (s : Same H H') : Same' p H H' := fun b o h _ => s b o h

/-! ### the draws' bag -/
structure Src (H : Hp) (p : Addr) : Prop where
  ex : ∃ s0 s1 s2 : Int, H p = some (.lst [.int s0, .int s1, .int s2]) ∧ s1.natAbs < 2 ^ 400
theorem Src.same {H H' : Hp} {p : Addr} (h : Src H p) (s : Same H H') : Src H' p :=
  let ⟨s0, s1, s2, h1, h2⟩ := h.ex
  ⟨s0, s1, s2, s _ _ h1, h2⟩
theorem Src.lst {H : Hp} {p : Addr} (h : Src H p) : ∃ xs, H p = some (.lst xs) :=
  let ⟨s0, s1, s2, h1, _⟩ := h.ex
  ⟨_, h1⟩

/-! ### readings, step by step -/
section
variable {σ : St} {H : Hp} {Q : VK} {v x y : V} {ta tb tc te : TE} {r r' : R2} {i : Nat} {K : PySem.W.Frag} {t u : TT} {t1 t2 : TS} {D : Ends} {g : TG} {QB : Bool → Hp → Prop} {QA : List V → Hp → Prop} {tr : TA}
theorem rd_var (e : σ[i]? = some (some v)) (q : Q v H) : tVar i σ H Q := ⟨v, e, q⟩
theorem rd_c (q : Q v H) : tC v σ H Q := q
theorem rd_op (q : ta σ H fun x H1 => tb σ H1 fun y H2 => r x y H2 Q) : tOp r ta tb σ H Q := q
theorem rd_un {r : V → Hp → VK → Prop} (q : ta σ H fun x H1 => r x H1 Q) : tUn r ta σ H Q := q
theorem rd_I0 {f : Int → Int → V} {a b : Int} (q : Q (f a b) H) : rI0 f (.int a) (.int b) H Q := ⟨a, b, rfl, rfl, q⟩
theorem rd_I {C : Int → Int → Prop} {f : Int → Int → V} {a b : Int} (c : C a b) (q : Q (f a b) H) : rI C f (.int a) (.int b) H Q := ⟨a, b, rfl, rfl, c, q⟩
theorem rd_U {f : Int → V} {a : Int} (q : Q (f a) H) : rU f (.int a) H Q := ⟨a, rfl, q⟩
theorem rd_eq (s : scal x y = true) (q : Q (.bl (decide (x = y))) H) : rEq x y H Q := ⟨s, q⟩
theorem rd_ne (s : scal x y = true) (q : Q (.bl (!decide (x = y))) H) : rNe x y H Q := ⟨s, q⟩
theorem rd_test (q : te σ H fun x H' => ∃ k, x = .bl k ∧ QB k H') : tTest te σ H QB := q
theorem rd_tB (q : te σ H fun x H' => ∃ k, x = .bl k ∧ QB k H') : tB te σ H QB := q
theorem rd_bl {b : Bool} {R : Bool → Prop} (q : R b) : ∃ k, V.bl b = .bl k ∧ R k := ⟨b, rfl, q⟩
theorem rd_dec {p A B : Prop} [Decidable p] (h1 : p → A) (h2 : ¬ p → B) : if decide p = true then A else B := by
  by_cases h : p
  · rw [decide_eq_true h]
    exact iteT (h1 h)
  · rw [decide_eq_false h]
    exact iteF (h2 h)
theorem rd_ndec {p A B : Prop} [Decidable p] (h1 : ¬ p → A) (h2 : p → B) : if (!decide p) = true then A else B := by
  by_cases h : p
  · rw [decide_eq_true h]
    exact iteF (h2 h)
  · rw [decide_eq_false h]
    exact iteT (h1 h)
theorem rd_nt {A B : Prop} (h : B) : if (!true) = true then A else B := iteF h
theorem rd_nf {A B : Prop} (h : A) : if (!false) = true then A else B := iteT h
theorem rd_yes {p A B : Prop} [Decidable p] (h : p) (q : A) : if decide p = true then A else B := rd_dec (fun _ => q) fun n => absurd h n
theorem rd_no {p A B : Prop} [Decidable p] (h : ¬ p) (q : B) : if decide p = true then A else B := rd_dec (fun n => absurd n h) fun _ => q
theorem rd_2i {a b : Int} {R : Int → Int → Prop} (q : R a b) : ∃ i j, [V.int a, V.int b] = [V.int i, V.int j] ∧ R i j := ⟨a, b, rfl, q⟩
theorem rd_chain (q : ta σ H fun x H1 => tb σ H1 fun y H2 => r x y H2 fun z H3 => ∃ k, z = .bl k ∧ (if k = true then tc σ H3 fun w' H4 => r' y w' H4 Q else Q (.bl false) H3)) : tChain r r' ta tb tc σ H Q := q
theorem rd_and (q : t σ H fun c H1 => if c = true then u σ H1 QB else QB false H1) : tAnd t u σ H QB := q
theorem rd_or (q : t σ H fun c H1 => if c = true then QB true H1 else u σ H1 QB) : tOr t u σ H QB := q
theorem rd_not (q : t σ H fun c H1 => QB (!c) H1) : tNot t σ H QB := q
theorem rd_andV (q : ta σ H fun x H1 => ∃ c, x = .bl c ∧ if c = true then tb σ H1 Q else Q (.bl false) H1) : tAndV ta tb σ H Q := q
theorem rd_orV (q : ta σ H fun x H1 => ∃ c, x = .bl c ∧ if c = true then Q (.bl true) H1 else tb σ H1 Q) : tOrV ta tb σ H Q := q
theorem rd_notV (q : ta σ H fun x H1 => ∃ c, x = .bl c ∧ Q (.bl (!c)) H1) : tNotV ta σ H Q := q
theorem rd_ifE (q : t σ H fun c H1 => if c = true then ta σ H1 Q else tb σ H1 Q) : tIf t ta tb σ H Q := q
theorem rd_next (q : D.nx σ H) : tNext D σ H := q
theorem rd_seq (q : t1 { D with nx := t2 D } σ H) : tSeq t1 t2 D σ H := q
theorem rd_drop (q : te σ H fun _ H1 => D.nx σ H1) : tDrop te D σ H := q
theorem rd_ret (q : te σ H D.rt) : tRet te D σ H := q
theorem rd_ifS (q : t σ H fun b H1 => if b = true then t1 D σ H1 else t2 D σ H1) : tIfS t t1 t2 D σ H := q
theorem rd_asg (q : te σ H fun x H1 => g x σ H1 D.nx) : tAsg te g D σ H := q
theorem rd_name {R : St → Hp → Prop} (q : R (σ.set i (some v)) H) : gName i v σ H R := q
theorem rd_par {j : Nat} (q : tr σ H fun vs H1 => ∃ v w, vs = [v, w] ∧ D.nx ((σ.set i (some v)).set j (some w)) H1) : tPar i j tr D σ H := q
theorem rd_two {v w : V} {R : V → V → Prop} (q : R v w) : ∃ a b, [v, w] = [a, b] ∧ R a b := ⟨v, w, rfl, q⟩
theorem rd_nil (q : QA [] H) : tNil σ H QA := q
theorem rd_cons (q : ta σ H fun x H1 => tr σ H1 fun xs H2 => QA (x :: xs) H2) : tCons ta tr σ H QA := q
theorem rd_tup (q : tr σ H fun xs H1 => xs.length ≤ sizeLine ∧ ∀ p, H1 p = none → Q (.ref p) (upd H1 p (.tup xs))) : tTup tr σ H Q := q
theorem rd_lst (q : tr σ H fun xs H1 => xs.length ≤ sizeLine ∧ ∀ p, H1 p = none → Q (.ref p) (upd H1 p (.lst xs))) : tLst tr σ H Q := q
theorem rd_cb {r : List V → Hp → VK → Prop} (q : tr σ H fun vs H1 => r vs H1 Q) : tCB r tr σ H Q := q
theorem rd_call {sp : Sp} {dvs : List V} {E : XK} (q : tr σ H fun vs H1 => sp (vs ++ dvs) H1 Q E) : tCall sp dvs E tr σ H Q := q
theorem rd_ixL {p : Addr} {xs : List V} {j : Int} (h : H p = some (.lst xs)) (a : atI xs j = some v) (q : Q v H) : rIxL K (.ref p) (.int j) H Q := ⟨p, xs, j, v, rfl, rfl, SqL.of h, a, q⟩
theorem rd_ixT {p : Addr} {xs : List V} {j : Int} (h : H p = some (.tup xs)) (a : atI xs j = some v) (q : Q v H) : rIxT K (.ref p) (.int j) H Q := ⟨p, xs, j, v, rfl, rfl, SqT.of h, a, q⟩
theorem rd_sub {to ti : TE} {s : TSet} {R : St → Hp → Prop} (q : to σ H fun o H1 => ti σ H1 fun i H2 => s o i v H2 fun H3 => R σ H3) : gSub to ti s v σ H R := q
theorem rd_setL {p : Addr} {xs : List V} {k : Int} {j : Nat} {R : Hp → Prop} (h : H p = some (.lst xs)) (e : ixN xs.length k = some j) (q : R (upd H p (.lst (xs.set j v)))) : rSetL (.ref p) (.int k) v H R := ⟨p, xs, k, j, rfl, rfl, h, e, q⟩
theorem rd_len {p : Addr} {xs : List V} (h : H p = some (.lst xs)) (q : Q (.int xs.length) H) : qLen K [.ref p] H Q := ⟨p, xs, rfl, Or.inl (SqL.of h), q⟩
theorem rd_sl {tl th : TO} {r : V → Option Int → Option Int → Hp → VK → Prop} (q : te σ H fun x H1 => tl σ H1 fun l H2 => th σ H2 fun u H3 => r x l u H3 Q) : tSl r te tl th σ H Q := q
theorem rd_nopart {R : Option Int → Hp → Prop} (q : R none H) : tNoPart σ H R := q
theorem rd_part {R : Option Int → Hp → Prop} (q : te σ H fun x H1 => ∃ i, x = .int i ∧ R (some i) H1) : tPart te σ H R := q
theorem rd_int {j : Int} {R : Int → Prop} (q : R j) : ∃ i, V.int j = .int i ∧ R i := ⟨j, rfl, q⟩
theorem rd_slL {p : Addr} {xs : List V} {l u : Option Int} (h : H p = some (.lst xs)) (q : ∀ b, H b = none → Q (.ref b) (upd H b (.lst (cutV xs l u)))) : rSlL K (.ref p) l u H Q := ⟨p, xs, rfl, SqL.of h, q⟩
theorem rd_cat {p b : Addr} {xs ys : List V} (h : H p = some (.lst xs)) (h2 : H b = some (.lst ys)) (z : xs.length + ys.length ≤ sizeLine) (q : ∀ c, H c = none → Q (.ref c) (upd H c (.lst (xs ++ ys)))) : rCat (.ref p) (.ref b) H Q := ⟨p, b, xs, ys, rfl, rfl, h, h2, z, q⟩
theorem rd_isN (q : Q (.bl (decide (x = .non))) H) : (fun x y H Q => y = V.non ∧ Q (.bl (decide (x = .non))) H : R2) x .non H Q := ⟨rfl, q⟩
theorem rd_bm {T : String} {r : V → List V → Hp → VK → Prop} (q : te σ H fun x H1 => tyV K T x H1 ∧ tr σ H1 fun xs H2 => r x xs H2 Q) : tBM K T r te tr σ H Q := q
theorem rd_bm0 {T : String} {r : V → List V → Hp → VK → Prop} (q : te σ H fun x H1 => tyV K T x H1 ∧ r x [] H1 Q) : tBM0 K T r te σ H Q := q
theorem rd_for {wi : TI} (q : wi σ H fun J H1 => ∃ W : Nat → Nat → St → Hp → Prop, (∃ m, W 0 m σ H1) ∧ ∀ i m σ H, W i m σ H →
  (J.stop i H ∧ D.nx σ H) ∨ (J.go i H ∧ ∃ N : St → Hp → Prop, (∀ σ' H', N σ' H' → ∃ m', m' < m ∧ W (i + 1) m' σ' H') ∧ ∀ x H', J.yld i H x H' → g x σ H' fun σ2 H2 => t1 { D with nx := N, ct := N, bk := D.nx } σ2 H2)) : tFor wi g t1 D σ H := q
theorem rd_iList {tl : TE} {R : It → Hp → Prop} (q : tl σ H fun x H1 => ∃ a, x = .ref a ∧ (∃ xs, SqL K H1 a xs) ∧ R (Itl K a) H1) : iList K tl σ H R := q
theorem rd_gtup {n : Nat} {s : TGs} {p : Addr} {xs : List V} {R : St → Hp → Prop} (h : H p = some (.tup xs)) (z : xs.length = n) (q : s xs σ H R) : gTup K n s (.ref p) σ H R := ⟨p, xs, rfl, SqT.of h, z, q⟩
theorem rd_gcons {s : TG} {w : TGs} {vs : List V} {R : St → Hp → Prop} (q : s v σ H fun σ' H' => w vs σ' H' R) : gCons s w (v :: vs) σ H R := ⟨v, vs, rfl, q⟩
theorem rd_gnil {R : St → Hp → Prop} (q : R σ H) : gNil [] σ H R := ⟨rfl, q⟩
theorem rd_sl_len {n : Nat} (h : n ≤ 1000) : n ≤ sizeLine := Nat.le_of_lt (small1000 h)
end

section
variable {σ : St} {H : Hp} {Q : VK} {v x y : V} {K : PySem.W.Frag} {ta te : TE} {D : Ends} {g : TG} {tb : TS}
theorem rd_typ {n : String} (h : zTyV v H = some n) (q : Q (.ty n) H) : r1 kTyp [v] H Q := ⟨n, h, q⟩
theorem rd_2ty {m n : String} {R : String → String → Prop} (q : R m n) : ∃ a b, V.ty m = V.ty a ∧ V.ty n = V.ty b ∧ R a b := ⟨m, n, rfl, rfl, q⟩
theorem rd_NT {m n : String} (q : Q (.bl (!decide (m = n))) H) : rNT (.ty m) (.ty n) H Q := ⟨m, n, rfl, rfl, q⟩
theorem rd_2s {m n : Str} {R : Str → Str → Prop} (q : R m n) : ∃ a b, V.str m = V.str a ∧ V.str n = V.str b ∧ R a b := ⟨m, n, rfl, rfl, q⟩
theorem rd_lenS {m : Str} {R : Str → Prop} (q : R m) : ∃ a, [V.str m] = [V.str a] ∧ R a := ⟨m, rfl, q⟩
theorem rd_lenT {p : Addr} {xs : List V} (h : H p = some (.tup xs)) (q : Q (.int xs.length) H) : qLen K [.ref p] H Q := ⟨p, xs, rfl, Or.inr (SqT.of h), q⟩
theorem rd_isi {t u : Value} {c : V} {b : Bool} (h1 : ClsV c u) (h2 : TyX K H v t) (h3 : PySem.W.kitOne K t u = some b) (q : Q (.bl b) H) : rIsi K [v, c] H Q := ⟨v, c, t, u, b, rfl, h1, h2, h3, q⟩
theorem rd_listOf {p : Addr} {xs : List V} (h : H p = some (.lst xs)) (q : ∀ l, H l = none → Q (.ref l) (upd H l (.lst xs))) : qList K [.ref p] H Q := ⟨p, xs, rfl, Or.inl (SqL.of h), q⟩
theorem rd_rep {p : Addr} {xs : List V} {k : Int} (h : H p = some (.lst xs)) (h1 : 0 ≤ k) (h2 : k < 2 ^ 62) (z : xs.length * k.toNat ≤ sizeLine) (q : rRep (.ref p) (.int k) H Q) : rRep (.ref p) (.int k) H Q := q
/-- for i, x in enumerate(xs): every turn has a new tuple -/
theorem for_enum {a : Addr} {xs : List V} {σ : St} {H : Hp} (Pv : Nat → St → Hp → Prop) (h0 : Pv 0 σ H) (hl : ∀ i σ H, i ≤ xs.length → Pv i σ H → SqL K H a xs)
    (hs : ∀ i x (T : Addr) σ H, xs[i]? = some x → Pv i σ H → H T = none → g (.ref T) σ (upd H T (.tup [.int (i : Nat), x])) fun σ2 H2 => tb { D with nx := Pv (i + 1), ct := Pv (i + 1), bk := D.nx } σ2 H2) (hd : ∀ σ H, Pv xs.length σ H → D.nx σ H) :
    ∃ W : Nat → Nat → St → Hp → Prop, (∃ m, W 0 m σ H) ∧ ∀ i m σ H, W i m σ H →
      ((Ite K a).stop i H ∧ D.nx σ H) ∨ ((Ite K a).go i H ∧ ∃ N : St → Hp → Prop, (∀ σ' H', N σ' H' → ∃ m', m' < m ∧ W (i + 1) m' σ' H') ∧ ∀ x H', (Ite K a).yld i H x H' → g x σ H' fun σ2 H2 => tb { D with nx := N, ct := N, bk := D.nx } σ2 H2) := by
  refine ⟨fun i m σ H => m = xs.length - i ∧ i ≤ xs.length ∧ Pv i σ H, ⟨_, rfl, Nat.zero_le _, h0⟩, fun i m σ H hw => ?_⟩
  obtain ⟨rfl, hi, p⟩ := hw
  have q := hl i σ H hi p
  by_cases hlt : i < xs.length
  · have hx : xs[i]? = some xs[i] := List.getElem?_eq_getElem hlt
    refine Or.inr ⟨⟨xs, xs[i], q, hx⟩, Pv (i + 1), fun σ' H' p' => ⟨xs.length - (i + 1), by omega, rfl, hlt, p'⟩, fun x H' ⟨T, z, e1, e2, e3, e4⟩ => ?_⟩
    subst e1 e3
    have ez : z = xs[i] := Option.some.inj ((e4 xs q).symm.trans hx)
    subst ez
    exact hs i _ T σ H hx p e2
  · have e : i = xs.length := by omega
    subst e
    exact Or.inl ⟨⟨xs, q, Nat.le_refl _⟩, hd σ H p⟩
end

/-! ### rows: the first other color, the colors by person, a call -/
def fo (r : Row) (c : Nat) : Option Nat := (r.find? fun e => e.2 != c).map (·.2)
def colOf (r : Row) (q : Nat) : Nat := ((r.find? fun e => e.1 == q).map (·.2)).getD 0
theorem fo_nil (c : Nat) : fo [] c = none := rfl
theorem fo_yes {e : Nat × Nat} {r : Row} {c : Nat} (h : e.2 ≠ c) : fo (e :: r) c = some e.2 := by
  unfold fo
  rw [List.find?_cons_of_pos (by simpa using h)]
  rfl
theorem fo_no {e : Nat × Nat} {r : Row} {c : Nat} (h : e.2 = c) : fo (e :: r) c = fo r c := by
  unfold fo
  rw [List.find?_cons_of_neg (by simpa using h)]
theorem drop_of {α : Type} {l : List α} {i : Nat} {x : α} (h : l[i]? = some x) : l.drop i = x :: l.drop (i + 1) := by
  obtain ⟨h1, h2⟩ := List.getElem?_eq_some_iff.mp h
  rw [← h2]
  exact List.drop_eq_getElem_cons h1
structure Vr (r : Row) : Prop where
  n1 : 1 ≤ r.length
  n2 : r.length ≤ 60
  col : ∀ e ∈ r, 97 ≤ e.2 ∧ e.2 ≤ 122
  perm : (r.map (·.1)).Perm (List.range r.length)
theorem Vr.lt {r : Row} (h : Vr r) {e : Nat × Nat} (he : e ∈ r) : e.1 < r.length := by
  have := h.perm.mem_iff.mp (List.mem_map_of_mem (f := (·.1)) he)
  exact List.mem_range.mp this
theorem Vr.nodup {r : Row} (h : Vr r) : (r.map (·.1)).Nodup := h.perm.nodup_iff.mpr List.nodup_range
theorem Vr.has {r : Row} (h : Vr r) {q : Nat} (hq : q < r.length) : ∃ e ∈ r, e.1 = q := by
  have := h.perm.mem_iff.mpr (List.mem_range.mpr hq)
  obtain ⟨e, h1, h2⟩ := List.mem_map.mp this
  exact ⟨e, h1, h2⟩
/-- the list that colors_by_person fills -/
def fillC (l : List V) (r : Row) : List V := r.foldl (fun l e => l.set e.1 (sg e.2)) l
theorem fillC_len (r : Row) : ∀ l : List V, (fillC l r).length = l.length := by
  induction r with
  | nil => intro l; rfl
  | cons e r ih =>
    intro l
    show (fillC (l.set e.1 (sg e.2)) r).length = _
    rw [ih, List.length_set]
theorem fillC_no {q : Nat} : ∀ (r : Row) (l : List V), (∀ e ∈ r, e.1 ≠ q) → (fillC l r)[q]? = l[q]? := by
  intro r
  induction r with
  | nil => intro l _; rfl
  | cons e r ih =>
    intro l h
    show (fillC (l.set e.1 (sg e.2)) r)[q]? = _
    rw [ih _ fun x hx => h x (List.mem_cons_of_mem _ hx), List.getElem?_set_ne (h e List.mem_cons_self)]
theorem fillC_at {q : Nat} : ∀ (r : Row) (l : List V), (r.map (·.1)).Nodup → q < l.length → (∃ e ∈ r, e.1 = q) → (fillC l r)[q]? = some (sg (colOf r q)) := by
  intro r
  induction r with
  | nil =>
    intro l _ _ h
    obtain ⟨e, he, _⟩ := h
    cases he
  | cons e r ih =>
    intro l nd hl h
    have nd' := List.nodup_cons.mp (show (e.1 :: r.map (·.1)).Nodup from nd)
    show (fillC (l.set e.1 (sg e.2)) r)[q]? = _
    by_cases c : e.1 = q
    · rw [fillC_no r _ fun x hx z => nd'.1 (by rw [c, ← z]; exact List.mem_map_of_mem (f := (·.1)) hx), c, List.getElem?_set_self hl]
      unfold colOf
      rw [List.find?_cons_of_pos (by simpa using c)]
      rfl
    · rw [ih _ nd'.2 (by rw [List.length_set]; exact hl) ?_]
      · unfold colOf
        rw [List.find?_cons_of_neg (by simpa using c)]
      · obtain ⟨x, hx, hq⟩ := h
        rcases List.mem_cons.mp hx with z | z
        · exact absurd (z ▸ hq) c
        · exact ⟨x, z, hq⟩
def byPerson (r : Row) : List V := (List.range r.length).map fun q => sg (colOf r q)
theorem fillC_is {r : Row} (h : Vr r) {x : V} : fillC (List.replicate r.length x) r = byPerson r := by
  apply List.ext_getElem?
  intro q
  unfold byPerson
  rw [List.getElem?_map]
  by_cases c : q < r.length
  · rw [fillC_at r _ h.nodup (by rw [List.length_replicate]; exact c) (h.has c), List.getElem?_range c]
    rfl
  · rw [List.getElem?_eq_none (by rw [fillC_len, List.length_replicate]; omega), List.getElem?_eq_none (by rw [List.length_range]; omega)]
    rfl
def app (r : Row) (p : Nat) : Row := (p, (fo r (colOf r p)).getD (colOf r p)) :: r.filter fun e => e.1 != p
theorem flat_rep {α : Type} (x : α) : ∀ n : Nat, (List.replicate n [x]).flatten = List.replicate n x
  | 0 => rfl
  | n + 1 => by
    rw [List.replicate_succ, List.flatten_cons, flat_rep x n]
    rfl
theorem fillC_snoc (l : List V) (r : Row) (e : Nat × Nat) : fillC l (r ++ [e]) = (fillC l r).set e.1 (sg e.2) := by
  unfold fillC
  rw [List.foldl_append]
  rfl
theorem take_of {α : Type} {l : List α} {i : Nat} {x : α} (h : l[i]? = some x) : l.take (i + 1) = l.take i ++ [x] := by
  rw [List.take_add_one, h]
  rfl
theorem ixN_nat {n j : Nat} (h : j < n) : ixN n (j : Int) = some j := by
  unfold ixN
  rw [if_pos (by omega), if_pos (by omega)]
  simp
theorem sz60 {n : Nat} (h : n ≤ 60) : n ≤ sizeLine := Nat.le_trans h (by decide)
theorem getElem?_mem {α : Type} {l : List α} {i : Nat} {x : α} (h : l[i]? = some x) : x ∈ l := List.mem_of_getElem? h
/-! ### data -/
theorem dp_ints {K : PySem.W.Frag} {H : Hp} : ∀ ns : List Int, DpAll K H (ns.map V.int) (ns.map PyData.int)
  | [] => .nil
  | n :: ns => .cons (.int n) (dp_ints ns)
theorem lay_ints : ∀ ns : List Int, PyData.canLayAll0 (ns.map PyData.int) = true
  | [] => by simp only [List.map_nil, PyData.canLayAll0]
  | n :: ns => by
    simp only [List.map_cons, PyData.canLayAll0, PyData.canLay0, Bool.true_and]
    exact lay_ints ns
theorem dep_ints : ∀ ns : List Int, PyData.depthAll (ns.map PyData.int) = 0
  | [] => by simp only [List.map_nil, PyData.depthAll]
  | n :: ns => by
    simp only [List.map_cons, PyData.depthAll, PyData.depth]
    rw [dep_ints ns]
    rfl
abbrev dI (ns : List Int) : PyData := .list (ns.map PyData.int)
theorem shp_ints (ns : List Int) : SeqAt.shaped (dI ns) = true := by
  refine Bool.and_eq_true_iff.mpr ⟨?_, decide_eq_true ?_⟩
  · simp only [PyData.canLay0]
    exact lay_ints ns
  · simp only [PyData.depth]
    rw [dep_ints]
    decide
/-- a row as data -/
abbrev dE (e : Nat × Nat) : PyData := .tuple [.int (e.1 : Int), .str ⟨#[e.2]⟩]
abbrev dR (r : Row) : PyData := .list (r.map dE)
theorem dp_tups {K : PySem.W.Frag} {H : Hp} : ∀ {ts : List Addr} {r : Row}, TupsAt H ts r → DpAll K H (ts.map V.ref) (r.map dE)
  | [], [], _ => .nil
  | _ :: ts, e :: r, h => .cons (.tup (SqT.of h.1) (.cons (.int _) (.cons (.str _) .nil))) (dp_tups (ts := ts) (r := r) h.2)
  | [], _ :: _, h => h.elim
  | _ :: _, [], h => h.elim
theorem RowAt.dp {K : PySem.W.Frag} {H : Hp} {a : Addr} {r : Row} (h : RowAt H a r) : Dp K H (.ref a) (dR r) :=
  let ⟨_, h1, h2⟩ := h
  .lst (SqL.of h1) (dp_tups h2)
def Cok (r : Row) : Prop := ∀ e ∈ r, 97 ≤ e.2 ∧ e.2 ≤ 122
theorem str_ok {c : Nat} (h : c ≤ 122) : PyData.strOk ⟨#[c]⟩ = true := by
  show (#[c] : Array Nat).all (· < 0x110000) = true
  simp
  omega
theorem lay_row : ∀ r : Row, Cok r → PyData.canLayAll0 (r.map dE) = true ∧ PyData.depthAll (r.map dE) ≤ 1
  | [], _ => by
    simp only [List.map_nil, PyData.canLayAll0, PyData.depthAll]
    exact ⟨trivial, Nat.zero_le _⟩
  | e :: r, h => by
    obtain ⟨h1, h2⟩ := lay_row r fun x hx => h x (List.mem_cons_of_mem _ hx)
    simp only [List.map_cons, PyData.canLayAll0, PyData.canLay0, PyData.depthAll, PyData.depth, Bool.true_and, Bool.and_true]
    rw [h1, str_ok (h e List.mem_cons_self).2]
    refine ⟨rfl, ?_⟩
    omega
theorem shp_row (r : Row) (h : Cok r) : SeqAt.shaped (dR r) = true := by
  obtain ⟨h1, h2⟩ := lay_row r h
  refine Bool.and_eq_true_iff.mpr ⟨?_, decide_eq_true ?_⟩
  · simp only [PyData.canLay0]
    exact h1
  · simp only [PyData.depth]
    omega
theorem shp_ent (e : Nat × Nat) (h : e.2 ≤ 122) : SeqAt.shaped (dE e) = true := by
  refine Bool.and_eq_true_iff.mpr ⟨?_, decide_eq_true ?_⟩
  · simp only [PyData.canLay0, PyData.canLayAll0, Bool.true_and, Bool.and_true]
    exact str_ok h
  · simp only [PyData.depth, PyData.depthAll]
    decide
section
variable {σ : St} {H : Hp} {Q : VK} {v x y : V} {K : PySem.W.Frag} {ta te : TE} {D : Ends} {g : TG} {tb : TS}
theorem rd_eqD {d : PyData} (h1 : Dp K H x d) (h2 : Dp K H y d) (s : SeqAt.shaped d = true) (q : Q (.bl true) H) : rEqD K x y H Q :=
  ⟨d, d, h1, h2, s, s, by rw [SeqAt.eqv_refl d (SeqAt.canLay_of_shaped s)]; exact q⟩
theorem rd_neD {d : PyData} (h1 : Dp K H x d) (h2 : Dp K H y d) (s : SeqAt.shaped d = true) (q : Q (.bl false) H) : rNeD K x y H Q :=
  ⟨d, d, h1, h2, s, s, by rw [SeqAt.eqv_refl d (SeqAt.canLay_of_shaped s)]; exact q⟩
theorem rd_eqD2 {d e : PyData} (h1 : Dp K H x d) (h2 : Dp K H y e) (s : SeqAt.shaped d = true) (s2 : SeqAt.shaped e = true) {b : Bool} (hb : PyData.eqv d e = b) (q : Q (.bl b) H) : rEqD K x y H Q :=
  ⟨d, e, h1, h2, s, s2, by rw [hb]; exact q⟩
theorem rd_neD2 {d e : PyData} (h1 : Dp K H x d) (h2 : Dp K H y e) (s : SeqAt.shaped d = true) (s2 : SeqAt.shaped e = true) {b : Bool} (hb : PyData.eqv d e = b) (q : Q (.bl (!b)) H) : rNeD K x y H Q :=
  ⟨d, e, h1, h2, s, s2, by rw [hb]; exact q⟩
theorem rd_tyes {R : Bool → Hp → Prop} (q : R true H) : tYes σ H R := q
theorem rd_lstRg {tr : St → Hp → (Int → Int → Hp → Prop) → Prop} (q : tr σ H fun a b H1 => RgOk a b ∧ ∀ q, H1 q = none → Q (.ref q) (upd H1 q (.lst (rgV a b)))) : tLstRg tr σ H Q := q
theorem rd_rg1 {R : Int → Int → Hp → Prop} (q : ta σ H fun x H1 => ∃ n, x = .int n ∧ R 0 n H1) : tRg1 ta σ H R := q
theorem rd_tyL {p : Addr} {xs : List V} (h : H p = some (.lst xs)) (q : Q (.ty "list") H) : r1 kTyp [.ref p] H Q :=
  ⟨"list", by show (match H p with | some (.lst _) => _ | some (.tup _) => _ | _ => _) = _; rw [h], q⟩
theorem rd_tyT {p : Addr} {xs : List V} (h : H p = some (.tup xs)) (q : Q (.ty "tuple") H) : r1 kTyp [.ref p] H Q :=
  ⟨"tuple", by show (match H p with | some (.lst _) => _ | some (.tup _) => _ | _ => _) = _; rw [h], q⟩
end
abbrev pI (r : Row) : List Int := r.map fun e => (e.1 : Int)
theorem pI_map (r : Row) : (pI r).map V.int = r.map fun e => V.int (e.1 : Int) := by
  show (r.map _).map _ = _
  rw [List.map_map]
  rfl
abbrev rI' (n : Nat) : List Int := (List.range n).map fun i : Nat => (i : Int)
theorem rgV_is (n : Nat) : rgV 0 (n : Int) = (rI' n).map V.int := by
  unfold rgV
  rw [List.map_map, show ((n : Int) - 0).toNat = n by omega]
  apply List.map_congr_left
  intro i _
  show V.int (0 + (i : Int)) = V.int (i : Int)
  rw [Int.zero_add]
theorem sorted_is {r : Row} (h : Vr r) {ns : List Int} (hp : ns.Perm (pI r)) (hs : ns.Pairwise (· ≤ ·)) : ns = rI' r.length := by
  have h1 : (pI r).Perm (rI' r.length) := by
    have q := h.perm.map fun i : Nat => (i : Int)
    rw [List.map_map] at q
    exact q
  have h2 : (rI' r.length).Pairwise (· ≤ ·) := by
    refine List.pairwise_map.mpr (List.pairwise_lt_range.imp fun {a b} k => ?_)
    omega
  exact List.Perm.eq_of_pairwise (fun a b _ _ x y => Int.le_antisymm x y) hs h2 (hp.trans h1)
theorem lt60 {n : Nat} (h : n ≤ 60) : n < sizeLine := Nat.lt_of_le_of_lt h (by decide)
abbrev vN (p : Nat) : V := .int (p : Int)
/-! ### a call keeps a row a row -/
theorem byPerson_at {r : Row} {p : Nat} (h : p < r.length) : (byPerson r)[p]? = some (sg (colOf r p)) := by
  unfold byPerson
  rw [List.getElem?_map, List.getElem?_range h]
  rfl
def takenEach (r : Row) : List V := (List.range r.length).map fun q => oV (fo r (colOf r q))
theorem takenEach_at {r : Row} {p : Nat} (h : p < r.length) : (takenEach r)[p]? = some (oV (fo r (colOf r p))) := by
  unfold takenEach
  rw [List.getElem?_map, List.getElem?_range h]
  rfl
theorem fo_mem {r : Row} {c d : Nat} (h : fo r c = some d) : ∃ e ∈ r, e.2 = d ∧ d ≠ c := by
  unfold fo at h
  obtain ⟨e, h1, h2⟩ := Option.map_eq_some_iff.mp h
  have h3 := List.find?_some h1
  refine ⟨e, List.mem_of_find?_eq_some h1, h2, ?_⟩
  rw [← h2]
  simpa using h3
theorem colOf_mem {r : Row} {p : Nat} (h : ∃ e ∈ r, e.1 = p) : (p, colOf r p) ∈ r := by
  unfold colOf
  cases q : r.find? fun e => e.1 == p with
  | none =>
    obtain ⟨e, h1, h2⟩ := h
    have := List.find?_eq_none.mp q e h1
    exact absurd (by simpa using h2) this
  | some e =>
    have h1 := List.mem_of_find?_eq_some q
    have h2 : e.1 = p := by simpa using List.find?_some q
    show (p, e.2) ∈ r
    rw [← h2]
    exact h1
theorem perm_out {p : Nat} : ∀ {r : Row}, (r.map (·.1)).Nodup → (∃ e ∈ r, e.1 = p) → (p :: (r.filter fun e => e.1 != p).map (·.1)).Perm (r.map (·.1))
  | [], _, h => by
    obtain ⟨e, he, _⟩ := h
    cases he
  | e :: r, nd, h => by
    have nd' := List.nodup_cons.mp (show (e.1 :: r.map (·.1)).Nodup from nd)
    by_cases c : e.1 = p
    · rw [List.filter_cons_of_neg (by simpa using c)]
      have e2 : (r.filter fun e => e.1 != p) = r := by
        apply List.filter_eq_self.mpr
        intro x hx
        simp only [bne_iff_ne, ne_eq]
        intro z
        exact nd'.1 (by rw [c, ← z]; exact List.mem_map_of_mem (f := (·.1)) hx)
      rw [e2, List.map_cons, c]
    · rw [List.filter_cons_of_pos (by simpa using c), List.map_cons, List.map_cons]
      have h' : ∃ e ∈ r, e.1 = p := by
        obtain ⟨x, hx, hq⟩ := h
        rcases List.mem_cons.mp hx with z | z
        · exact absurd (z ▸ hq) c
        · exact ⟨x, z, hq⟩
      exact (List.Perm.swap _ _ _).trans ((perm_out nd'.2 h').cons _)
theorem app_perm {r : Row} (h : Vr r) {p : Nat} (hp : p < r.length) : ((app r p).map (·.1)).Perm (r.map (·.1)) := perm_out h.nodup (h.has hp)
theorem app_len {r : Row} (h : Vr r) {p : Nat} (hp : p < r.length) : (app r p).length = r.length := by
  have := (app_perm h hp).length_eq
  rw [List.length_map, List.length_map] at this
  exact this
theorem Vr.colOf {r : Row} (h : Vr r) {p : Nat} (hp : p < r.length) : 97 ≤ LX.colOf r p ∧ LX.colOf r p ≤ 122 := h.col _ (colOf_mem (h.has hp))
theorem Vr.fo {r : Row} (h : Vr r) {c d : Nat} (e : LX.fo r c = some d) : 97 ≤ d ∧ d ≤ 122 := by
  obtain ⟨x, h1, h2, _⟩ := fo_mem e
  rw [← h2]
  exact h.col x h1
theorem Vr.app {r : Row} (h : Vr r) {p : Nat} (hp : p < r.length) : Vr (LX.app r p) where
  n1 := by rw [app_len h hp]; exact h.n1
  n2 := by rw [app_len h hp]; exact h.n2
  col := by
    intro e he
    rcases List.mem_cons.mp he with z | z
    · rw [z]
      show 97 ≤ (LX.fo r (LX.colOf r p)).getD (LX.colOf r p) ∧ (LX.fo r (LX.colOf r p)).getD (LX.colOf r p) ≤ 122
      cases q : LX.fo r (LX.colOf r p) with
      | none => exact h.colOf hp
      | some d => exact h.fo q
    · exact h.col e (List.mem_filter.mp z).1
  perm := by rw [app_len h hp]; exact (app_perm h hp).trans h.perm
/-- calls one after the other -/
def apps (r : Row) (cs : List Nat) : Row := cs.foldl app r
theorem apps_snoc (r : Row) (cs : List Nat) (p : Nat) : apps r (cs ++ [p]) = app (apps r cs) p := by
  unfold apps
  rw [List.foldl_append]
  rfl
theorem apps_len {r : Row} (h : Vr r) : ∀ (cs : List Nat), (∀ p ∈ cs, p < r.length) → Vr (apps r cs) ∧ (apps r cs).length = r.length := by
  intro cs
  induction cs generalizing r with
  | nil => intro _; exact ⟨h, rfl⟩
  | cons p cs ih =>
    intro hc
    have hp := hc p List.mem_cons_self
    have := ih (h.app hp) fun q hq => by
      rw [app_len h hp]
      exact hc q (List.mem_cons_of_mem _ hq)
    exact ⟨this.1, this.2.trans (app_len h hp)⟩
theorem oV_none {o : Option Nat} : decide (oV o = V.non) = o.isNone := by
  cases o with
  | none => rfl
  | some c => rfl
theorem sz60' {n : Nat} (h : n ≤ 100) : n ≤ sizeLine := Nat.le_trans h (by decide)
/-! ### the script and its cells -/
theorem cut_ints (ns : List Int) (lo hi : Option Int) : ∃ ms : List Int, cutV (ns.map V.int) lo hi = ms.map V.int ∧ ms.length ≤ ns.length := by
  unfold cutV
  rw [← List.map_drop, ← List.map_take]
  refine ⟨_, rfl, ?_⟩
  rw [List.length_take, List.length_drop]
  omega
theorem eqv_nil (ns : List Int) : PyData.eqv (dI ns) (dI []) = decide (ns = []) := by
  cases ns with
  | nil => rfl
  | cons n ns => simp [PyData.eqv, PyData.eqvAll]
theorem rd_cut {t u : TS} {D : Ends} {σ : St} {H : Hp} (M : St → Hp → Prop) (h : t { D with nx := M } σ H) (k : ∀ σ' H', M σ' H' → u D σ' H') : Evl.tCut t u D σ H := ⟨M, h, k⟩
theorem rd_bool {H : Hp} {b : Bool} {R : Int → Prop} {Q : VK} (q : Q (.int (if b then 1 else 0)) H) : (∃ i, [V.bl b] = [V.int i] ∧ Q (.int i) H) ∨ ∃ k, [V.bl b] = [V.bl k] ∧ Q (.int (if k then 1 else 0)) H := Or.inr ⟨b, rfl, q⟩
theorem Same'.of {p : Addr} {H H' : Hp} (h : ∀ b, b ≠ p → H' b = H b) : Same' p H H' := fun b o e n => by rw [h b n]; exact e
theorem Same'.free {p q : Addr} {H H' : Hp} (s : Same' p H H') (h : H' q = none) (n : q ≠ p) : H q = none := by
  cases e : H q with
  | none => rfl
  | some o =>
    rw [s q o e n] at h
    cases h
theorem Src.not_none {H : Hp} {p q : Addr} (h : Src H p) (hq : H q = none) : q ≠ p := fun e => by
  obtain ⟨xs, h1⟩ := h.lst
  rw [e, h1] at hq
  cases hq
/-- the script: locked, or an object of the module -/
def Scr (K : PySem.W.Frag) (H : Hp) (l : Addr) (ns : List Int) : Prop := (∃ o, H l = some (.frz o (.lst (ns.map V.int)))) ∨ ∀ H', SqL K H' l (ns.map V.int)
theorem Scr.of {K : PySem.W.Frag} {H : Hp} {l : Addr} {ns : List Int} (hO : Only H) (h : SqL K H l (ns.map V.int)) : Scr K H l ns := by
  rcases h with (h | ⟨o, h⟩) | h
  · rcases hO l with z | ⟨o, xs, z⟩
    · rw [h] at z
      cases z
    · rw [h] at z
      cases z
  · exact Or.inl ⟨o, h⟩
  · exact Or.inr fun H' => Or.inr h
theorem Scr.seq {K : PySem.W.Frag} {H : Hp} {l : Addr} {ns : List Int} (h : Scr K H l ns) : SqL K H l (ns.map V.int) := by
  rcases h with ⟨o, h⟩ | h
  · exact Or.inl (Or.inr ⟨o, h⟩)
  · exact h H
theorem Scr.same {K : PySem.W.Frag} {H H' : Hp} {l : Addr} {ns : List Int} (h : Scr K H l ns) (s : Same H H') : Scr K H' l ns := by
  rcases h with ⟨o, h⟩ | h
  · exact Or.inl ⟨o, s _ _ h⟩
  · exact Or.inr h
theorem Scr.same' {K : PySem.W.Frag} {H H' : Hp} {l p : Addr} {ns : List Int} (h : Scr K H l ns) (s : Same' p H H') (hp : ∃ xs, H p = some (.lst xs)) : Scr K H' l ns := by
  rcases h with ⟨o, h⟩ | h
  · refine Or.inl ⟨o, s _ _ h fun e => ?_⟩
    obtain ⟨xs, hx⟩ := hp
    rw [e, hx] at h
    cases h
  · exact Or.inr h
theorem seqIx {n j : Nat} (h : j < n) : PySem.seqIndex? (j : Int) n = some j := by
  show (if (decide (0 ≤ if (j : Int) < 0 then (j : Int) + n else j) && decide ((if (j : Int) < 0 then (j : Int) + n else j) < (n : Int))) = true then some (if (j : Int) < 0 then (j : Int) + n else j).toNat else none) = some j
  have e : (if (j : Int) < 0 then (j : Int) + n else (j : Int)) = (j : Int) := if_neg (by omega)
  rw [e, if_pos (by rw [decide_eq_true (show (0 : Int) ≤ j by omega), decide_eq_true (show (j : Int) < n by omega)]; rfl)]
  simp
theorem erase_map {α β : Type} (f : α → β) : ∀ (l : List α) (j : Nat), (l.map f).eraseIdx j = (l.eraseIdx j).map f
  | [], _ => rfl
  | x :: l, 0 => rfl
  | x :: l, j + 1 => by
    show f x :: (l.map f).eraseIdx j = f x :: (l.eraseIdx j).map f
    rw [erase_map f l j]
theorem erase_perm {α : Type} : ∀ {l : List α} {j : Nat} {x : α}, l[j]? = some x → (x :: l.eraseIdx j).Perm l
  | [], j, x, h => by simp at h
  | y :: l, 0, x, h => by
    have e : y = x := Option.some.inj h
    rw [e]
    exact List.Perm.refl _
  | y :: l, j + 1, x, h => by
    have ih := erase_perm (l := l) (j := j) (x := x) (by simpa using h)
    exact (List.Perm.swap _ _ _).trans (ih.cons _)
theorem abc_at : ∀ m : Nat, m < 26 → atI (Str.ofString "abcdefghijklmnopqrstuvwxyz").cps.toList (m : Int) = some (97 + m) := by
  decide +kernel
theorem abc_len : (Str.ofString "abcdefghijklmnopqrstuvwxyz").length ≤ sizeLine := by
  have e : (Str.ofString "abcdefghijklmnopqrstuvwxyz").length = 26 := by decide +kernel
  rw [e]
  decide
theorem Same'.tups {p : Addr} {H H' : Hp} (s : Same' p H H') {xs : List V} (hp : H p = some (.lst xs)) : ∀ b ys, H b = some (.tup ys) → H' b = some (.tup ys) := fun b ys e => s b _ e fun q => by
  rw [q, hp] at e
  cases e
/-- a row that is being drawn -/
structure Drw (H : Hp) (D q p : Addr) (n i : Nat) (H0 : Hp) : Prop where
  ex : ∃ (us : List Addr) (rr : Row) (ls : List Nat), H D = some (.lst (us.map V.ref)) ∧ H q = some (.lst (ls.map vN)) ∧ TupsAt H us rr ∧ rr.length = i ∧ (rr.map (·.1) ++ ls).Perm (List.range n) ∧ Cok rr
  src : Src H p
  same : Same' p H0 H
theorem drw_end {H H0 : Hp} {D q p : Addr} {n : Nat} (h : Drw H D q p n n H0) (n1 : 1 ≤ n) (n2 : n ≤ 60) : ∃ r, RowAt H D r ∧ Vr r := by
  obtain ⟨us, rr, ls, h1, h2, h3, h4, h5, h6⟩ := h.ex
  have e := h5.length_eq
  rw [List.length_append, List.length_map, List.length_range] at e
  have : ls = [] := List.length_eq_zero_iff.mp (by omega)
  rw [this, List.append_nil] at h5
  exact ⟨rr, ⟨us, h1, h3⟩, ⟨by omega, by omega, h6, by rw [h4]; exact h5⟩⟩
theorem pick4 (a b c d : Int) {j : Int} (h0 : 0 ≤ j) (h1 : j < 4) : ∃ x : Int, atI [V.int a, V.int b, V.int c, V.int d] j = some (.int x) ∧ (x = a ∨ x = b ∨ x = c ∨ x = d) := by
  have : j = 0 ∨ j = 1 ∨ j = 2 ∨ j = 3 := by omega
  rcases this with e | e | e | e
  · subst e
    exact ⟨a, rfl, Or.inl rfl⟩
  · subst e
    exact ⟨b, rfl, Or.inr (Or.inl rfl)⟩
  · subst e
    exact ⟨c, rfl, Or.inr (Or.inr (Or.inl rfl))⟩
  · subst e
    exact ⟨d, rfl, Or.inr (Or.inr (Or.inr rfl))⟩
theorem rgV_nat {z : Int} (h : 0 ≤ z) : rgV 0 z = (List.range z.toNat).map vN := by
  have e : z = (z.toNat : Int) := by omega
  rw [e, rgV_is, List.map_map]
  rfl
theorem rd_ifV {σ : St} {H : Hp} {Q : VK} {v : V} {t : TT} {ta tb : TE} (b : Bool) (ht : ∀ R : Bool → Hp → Prop, R b H → t σ H R) (ha : b = true → ∀ R : VK, R v H → ta σ H R) (hb : b = false → ∀ R : VK, R v H → tb σ H R) (q : Q v H) : tIf t ta tb σ H Q := by
  refine ht _ ?_
  cases b with
  | true => exact ha rfl _ q
  | false => exact hb rfl _ q
theorem scal_oV (x y : Option Nat) : scal (oV x) (oV y) = true := by
  cases x <;> cases y <;> rfl
theorem oV_inj {x y : Option Nat} (h : oV x = oV y) : x = y := by
  cases x with
  | none =>
    cases y with
    | none => rfl
    | some b => cases h
  | some a =>
    cases y with
    | none => cases h
    | some b =>
      injection h with h
      injection h with h
      injection h with h
      injection h with h
      rw [h]
theorem sg_inj {x y : Nat} (h : sg x = sg y) : x = y := by
  have := oV_inj (x := some x) (y := some y) h
  exact Option.some.inj this
theorem sIx_nat (n d : Nat) (k : Nat) (h : k ≤ n) : HT.sIx n d (some (k : Int)) = k := by
  rw [HT.sIx_nat]
  omega
theorem cut_take (xs : List V) (k : Nat) (h : k ≤ xs.length) : cutV xs none (some (k : Int)) = xs.take k := by
  unfold cutV
  rw [sIx_nat _ _ _ h]
  have e : HT.sIx xs.length 0 none = 0 := rfl
  rw [e]
  rfl
theorem cut_drop (xs : List V) (k : Nat) (h : k ≤ xs.length) : cutV xs (some (k : Int)) none = xs.drop k := by
  unfold cutV
  rw [sIx_nat _ _ _ h]
  have e : HT.sIx xs.length xs.length none = xs.length := rfl
  rw [e]
  apply List.take_of_length_le
  rw [List.length_drop]
  omega
theorem at_last {α : Type} {l : List α} (h : 0 < l.length) : ∃ x ∈ l, atI l (-1) = some x := by
  have h2 : l.length - 1 < l.length := by omega
  refine ⟨l[l.length - 1], List.getElem_mem h2, ?_⟩
  unfold atI ixN
  rw [if_neg (by omega), if_pos (by omega)]
  show l[((-1 : Int) + l.length).toNat]? = _
  rw [show ((-1 : Int) + l.length).toNat = l.length - 1 by omega]
  exact List.getElem?_eq_getElem h2
theorem pick3 (a b c : Nat) {j : Int} (h0 : 0 ≤ j) (h1 : j < 3) : ∃ x : Nat, atI [sg a, sg b, sg c] j = some (sg x) ∧ (x = a ∨ x = b ∨ x = c) := by
  have : j = 0 ∨ j = 1 ∨ j = 2 := by omega
  rcases this with e | e | e
  · subst e
    exact ⟨a, rfl, Or.inl rfl⟩
  · subst e
    exact ⟨b, rfl, Or.inr (Or.inl rfl)⟩
  · subst e
    exact ⟨c, rfl, Or.inr (Or.inr rfl)⟩
theorem rd_forL {K : PySem.W.Frag} {σ : St} {H : Hp} {tl : TE} {g : TG} {tb : TS} {D : Ends} (M : Addr → Hp → Prop) (h1 : ∀ R : VK, (∀ b H1, M b H1 → R (.ref b) H1) → tl σ H R)
    (h2 : ∀ b H1, M b H1 → (∃ xs, SqL K H1 b xs) ∧ ∃ W : Nat → Nat → St → Hp → Prop, (∃ m, W 0 m σ H1) ∧ ∀ i m σ H, W i m σ H →
      ((Itl K b).stop i H ∧ D.nx σ H) ∨ ((Itl K b).go i H ∧ ∃ N : St → Hp → Prop, (∀ σ' H', N σ' H' → ∃ m', m' < m ∧ W (i + 1) m' σ' H') ∧ ∀ x H', (Itl K b).yld i H x H' → g x σ H' fun σ2 H2 => tb { D with nx := N, ct := N, bk := D.nx } σ2 H2)) :
    tFor (iList K tl) g tb D σ H := h1 _ fun b H1 m => ⟨b, rfl, (h2 b H1 m).1, (h2 b H1 m).2⟩
theorem cut_tail (xs : List V) : cutV xs (some 1) none = xs.drop 1 := by
  by_cases h : 1 ≤ xs.length
  · exact cut_drop xs 1 h
  · have e : xs = [] := List.length_eq_zero_iff.mp (by omega)
    rw [e]
    rfl
theorem rd_in {neg : Bool} {K : PySem.W.Frag} {H : Hp} {Q : VK} {x : V} {p : Addr} {xs : List V} {b : Bool} (h : H p = some (.lst xs)) (f : flatV x = true) (fs : xs.all flatV = true) (hb : inV x xs = b) (q : Q (.bl (if neg then !b else b)) H) : rIn K neg x (.ref p) H Q :=
  ⟨p, xs, rfl, Or.inl (SqL.of h), f, fs, by rw [hb]; exact q⟩
theorem rd_notin {K : PySem.W.Frag} {H : Hp} {Q : VK} {x : V} {p : Addr} {xs : List V} {b : Bool} (h : H p = some (.lst xs)) (f : flatV x = true) (fs : xs.all flatV = true) (hb : inV x xs = b) (q : Q (.bl (!b)) H) : rIn K true x (.ref p) H Q :=
  rd_in h f fs hb q
theorem rd_isin {K : PySem.W.Frag} {H : Hp} {Q : VK} {x : V} {p : Addr} {xs : List V} {b : Bool} (h : H p = some (.lst xs)) (f : flatV x = true) (fs : xs.all flatV = true) (hb : inV x xs = b) (q : Q (.bl b) H) : rIn K false x (.ref p) H Q :=
  rd_in h f fs hb q
theorem rd_forR {σ : St} {H : Hp} {ta : TA} {n : Int} {g : TG} {tb : TS} {D : Ends} (M : Hp → Prop) (h1 : ∀ R : List V → Hp → Prop, (∀ H1, M H1 → R [.int n] H1) → ta σ H R) (n0 : 0 ≤ n) (n1 : n ≤ 100000)
    (h2 : ∀ H1, M H1 → ∃ W : Nat → Nat → St → Hp → Prop, (∃ m, W 0 m σ H1) ∧ ∀ i m σ H, W i m σ H →
      ((Itr 0 n.toNat).stop i H ∧ D.nx σ H) ∨ ((Itr 0 n.toNat).go i H ∧ ∃ N : St → Hp → Prop, (∀ σ' H', N σ' H' → ∃ m', m' < m ∧ W (i + 1) m' σ' H') ∧ ∀ x H', (Itr 0 n.toNat).yld i H x H' → g x σ H' fun σ2 H2 => tb { D with nx := N, ct := N, bk := D.nx } σ2 H2)) :
    tFor (iRng1 ta) g tb D σ H := h1 _ fun H1 m => ⟨n, rfl, by omega, by omega, h2 H1 m⟩
theorem rd_forRn {σ : St} {H : Hp} {ta : TA} {g : TG} {tb : TS} {D : Ends} (M : Int → Hp → Prop) (h1 : ∀ R : List V → Hp → Prop, (∀ n H1, M n H1 → R [.int n] H1) → ta σ H R)
    (h2 : ∀ n H1, M n H1 → 0 ≤ n ∧ n ≤ 100000 ∧ ∃ W : Nat → Nat → St → Hp → Prop, (∃ m, W 0 m σ H1) ∧ ∀ i m σ H, W i m σ H →
      ((Itr 0 n.toNat).stop i H ∧ D.nx σ H) ∨ ((Itr 0 n.toNat).go i H ∧ ∃ N : St → Hp → Prop, (∀ σ' H', N σ' H' → ∃ m', m' < m ∧ W (i + 1) m' σ' H') ∧ ∀ x H', (Itr 0 n.toNat).yld i H x H' → g x σ H' fun σ2 H2 => tb { D with nx := N, ct := N, bk := D.nx } σ2 H2)) :
    tFor (iRng1 ta) g tb D σ H := h1 _ fun n H1 m => ⟨n, rfl, by have := (h2 n H1 m).1; omega, by have := (h2 n H1 m).2.1; omega, (h2 n H1 m).2.2⟩
/-! ### what calls take, runs -/
def takens : Row → List Nat → List (Option Nat)
  | _, [] => []
  | r, p :: cs => fo r (colOf r p) :: takens (app r p) cs
theorem takens_snoc : ∀ (r : Row) (cs : List Nat) (p : Nat), takens r (cs ++ [p]) = takens r cs ++ [fo (apps r cs) (colOf (apps r cs) p)]
  | _, [], _ => rfl
  | r, q :: cs, p => by
    show fo r (colOf r q) :: takens (app r q) (cs ++ [p]) = fo r (colOf r q) :: (takens (app r q) cs ++ [_])
    rw [takens_snoc (app r q) cs p]
    rfl
theorem takens_len : ∀ (r : Row) (cs : List Nat), (takens r cs).length = cs.length
  | _, [] => rfl
  | r, p :: cs => congrArg (· + 1) (takens_len (app r p) cs)
/-- the last run grows, or a new one begins -/
def rsnoc (acc : List (Int × Nat)) (x : Int) : List (Int × Nat) :=
  match acc.getLast? with
  | some (y, k) => if y = x then acc.set (acc.length - 1) (x, k + 1) else acc ++ [(x, 1)]
  | none => acc ++ [(x, 1)]
def runsI (cs : List Int) : List (Int × Nat) := cs.foldl rsnoc []
theorem runsI_snoc (cs : List Int) (x : Int) : runsI (cs ++ [x]) = rsnoc (runsI cs) x := by
  unfold runsI
  rw [List.foldl_append]
  rfl
theorem rsnoc_len (acc : List (Int × Nat)) (x : Int) : (rsnoc acc x).length ≤ acc.length + 1 := by
  unfold rsnoc
  split
  · split
    · rw [List.length_set]
      omega
    · rw [List.length_append]
      simp
  · rw [List.length_append]
    simp
theorem runs_fold_len : ∀ (cs : List Int) (acc : List (Int × Nat)), (cs.foldl rsnoc acc).length ≤ acc.length + cs.length
  | [], acc => Nat.le_refl _
  | x :: cs, acc => by
    have h1 := runs_fold_len cs (rsnoc acc x)
    have h2 := rsnoc_len acc x
    show (cs.foldl rsnoc (rsnoc acc x)).length ≤ acc.length + (cs.length + 1)
    omega
theorem runsI_len (cs : List Int) : (runsI cs).length ≤ cs.length := by
  have := runs_fold_len cs []
  have e : ([] : List (Int × Nat)).length = 0 := rfl
  rw [e] at this
  unfold runsI
  omega
def shortR (rs : List (Int × Nat)) : List Int := rs.flatMap fun e => List.replicate (if e.2 % 2 = 1 then 1 else 2) e.1
def short (cs : List Int) : List Int := shortR (runsI cs)
theorem shortR_snoc (rs : List (Int × Nat)) (e : Int × Nat) : shortR (rs ++ [e]) = shortR rs ++ List.replicate (if e.2 % 2 = 1 then 1 else 2) e.1 := by
  unfold shortR
  rw [List.flatMap_append, List.flatMap_cons, List.flatMap_nil, List.append_nil]
theorem shortR_len (rs : List (Int × Nat)) : (shortR rs).length ≤ 2 * rs.length := by
  induction rs with
  | nil => exact Nat.le_refl _
  | cons e rs ih =>
    unfold shortR at ih ⊢
    rw [List.flatMap_cons, List.length_append, List.length_replicate, List.length_cons]
    split <;> omega
abbrev prI (e : Int × Nat) : List V := [.int e.1, .int (e.2 : Int)]
/-- tuples of two ints -/
def PairsAt (H : Hp) : List Addr → List (Int × Nat) → Prop
  | [], [] => True
  | t :: ts, e :: r => H t = some (.tup (prI e)) ∧ PairsAt H ts r
  | _, _ => False
theorem PairsAt.len {H : Hp} : ∀ {ts : List Addr} {r : List (Int × Nat)}, PairsAt H ts r → ts.length = r.length
  | [], [], _ => rfl
  | _ :: ts, _ :: r, h => congrArg (· + 1) (PairsAt.len (ts := ts) (r := r) h.2)
  | [], _ :: _, h => h.elim
  | _ :: _, [], h => h.elim
theorem PairsAt.mono {H H' : Hp} : ∀ {ts : List Addr} {r : List (Int × Nat)}, PairsAt H ts r → (∀ b xs, H b = some (.tup xs) → H' b = some (.tup xs)) → PairsAt H' ts r
  | [], [], _, _ => True.intro
  | _ :: ts, _ :: r, h, k => ⟨k _ _ h.1, PairsAt.mono (ts := ts) (r := r) h.2 k⟩
  | [], _ :: _, h, _ => h.elim
  | _ :: _, [], h, _ => h.elim
theorem PairsAt.get {H : Hp} : ∀ {ts : List Addr} {r : List (Int × Nat)} {i : Nat} {t : Addr}, PairsAt H ts r → ts[i]? = some t → ∃ e, r[i]? = some e ∧ H t = some (.tup (prI e))
  | [], [], i, t, _, h => by simp at h
  | _ :: ts, e :: r, 0, t, h, q => by
    simp at q
    subst q
    exact ⟨e, rfl, h.1⟩
  | _ :: ts, _ :: r, i + 1, t, h, q => by
    simp at q
    obtain ⟨e, h1, h2⟩ := PairsAt.get (ts := ts) (r := r) h.2 q
    exact ⟨e, by simpa using h1, h2⟩
  | [], _ :: _, _, _, h, _ => h.elim
  | _ :: _, [], _, _, h, _ => h.elim
theorem PairsAt.snoc {H : Hp} {t : Addr} {e : Int × Nat} (ht : H t = some (.tup (prI e))) : ∀ {ts : List Addr} {r : List (Int × Nat)}, PairsAt H ts r → PairsAt H (ts ++ [t]) (r ++ [e])
  | [], [], _ => ⟨ht, True.intro⟩
  | _ :: ts, _ :: r, h => ⟨h.1, PairsAt.snoc ht (ts := ts) (r := r) h.2⟩
  | [], _ :: _, h => h.elim
  | _ :: _, [], h => h.elim
theorem PairsAt.set {H : Hp} {t : Addr} {e : Int × Nat} (ht : H t = some (.tup (prI e))) : ∀ {ts : List Addr} {r : List (Int × Nat)} (j : Nat), PairsAt H ts r → PairsAt H (ts.set j t) (r.set j e)
  | [], [], _, _ => True.intro
  | _ :: ts, _ :: r, 0, h => ⟨ht, h.2⟩
  | _ :: ts, _ :: r, j + 1, h => ⟨h.1, PairsAt.set ht (ts := ts) (r := r) j h.2⟩
  | [], _ :: _, _, h => h.elim
  | _ :: _, [], _, h => h.elim
theorem PairsAt.last {H : Hp} {ts : List Addr} {r : List (Int × Nat)} (h : PairsAt H ts r) {e : Int × Nat} (he : r.getLast? = some e) : ∃ t, ts[ts.length - 1]? = some t ∧ H t = some (.tup (prI e)) := by
  have hl := h.len
  rw [List.getLast?_eq_getElem?] at he
  have h1 : r.length - 1 < r.length := (List.getElem?_eq_some_iff.mp he).1
  have h2 : ts.length - 1 < ts.length := by omega
  have h3 := List.getElem?_eq_getElem h2
  obtain ⟨e', h4, h5⟩ := h.get h3
  rw [show ts.length - 1 = r.length - 1 by omega, he] at h4
  cases h4
  exact ⟨_, h3, h5⟩
theorem at_neg1 {α : Type} {l : List α} {x : α} (h : l[l.length - 1]? = some x) : atI l (-1) = some x := by
  have h1 := (List.getElem?_eq_some_iff.mp h).1
  unfold atI ixN
  rw [if_neg (by omega), if_pos (by omega)]
  show l[((-1 : Int) + l.length).toNat]? = _
  rw [show ((-1 : Int) + l.length).toNat = l.length - 1 by omega]
  exact h
theorem ix_neg1 {n : Nat} (h : 0 < n) : ixN n (-1) = some (n - 1) := by
  unfold ixN
  rw [if_neg (by omega), if_pos (by omega)]
  congr 1
  omega
theorem rd_truL {K : PySem.W.Frag} {H : Hp} {p : Addr} {xs : List V} {R : Bool → Prop} (h : H p = some (.lst xs)) (q : R (!xs.isEmpty)) : ∃ k, TruV K (.ref p) H k ∧ R k := ⟨_, Or.inl ⟨xs, SqL.of h, rfl⟩, q⟩
theorem rd_qtru {K : PySem.W.Frag} {σ : St} {H : Hp} {ta : TE} {Q : Bool → Hp → Prop} (q : ta σ H fun x H' => ∃ k, TruV K x H' k ∧ Q k H') : qTru K ta σ H Q := q
theorem sz1000 {n : Nat} (h : n ≤ 100000) : n < sizeLine := Nat.lt_of_le_of_lt h (by decide)
/-- a row that is filtered, its entries as they stand -/
theorem filt_turn {H : Hp} {us : List Addr} {r : Row} {i : Nat} {p : Nat × Nat → Bool} {t : Addr} {e : Nat × Nat} (h : TupsAt H us ((r.take i).filter p)) (he : r[i]? = some e) (ht : H t = some (.tup (pr e))) :
    TupsAt H (if p e = true then us ++ [t] else us) ((r.take (i + 1)).filter p) := by
  rw [take_of he, List.filter_append]
  by_cases c : p e = true
  · rw [if_pos c, List.filter_cons_of_pos c]
    exact h.app (TupsAt.one ht)
  · rw [if_neg c, List.filter_cons_of_neg c]
    show TupsAt H us (_ ++ [])
    rw [List.append_nil]
    exact h
/-- what happens to the runs, by the last one -/
theorem rsnoc_grow {acc : List (Int × Nat)} {x : Int} {k : Nat} (h : acc.getLast? = some (x, k)) : rsnoc acc x = acc.set (acc.length - 1) (x, k + 1) := by
  unfold rsnoc
  rw [h]
  show (if x = x then _ else _) = _
  rw [if_pos rfl]
theorem rsnoc_new {acc : List (Int × Nat)} {x y : Int} {k : Nat} (h : acc.getLast? = some (y, k)) (n : y ≠ x) : rsnoc acc x = acc ++ [(x, 1)] := by
  unfold rsnoc
  rw [h]
  show (if y = x then _ else _) = _
  rw [if_neg n]
theorem rsnoc_nil (x : Int) : rsnoc [] x = [(x, 1)] := rfl
theorem last_of_ne {acc : List (Int × Nat)} (h : acc ≠ []) : ∃ e, acc.getLast? = some e := ⟨_, List.getLast?_eq_some_getLast h⟩
theorem rd_iteJ {b : Bool} {σ : St} {H : Hp} {ta tb : TE} {Q : VK} (v : V) (h1 : b = true → ∀ R : VK, R v H → ta σ H R) (h2 : b = false → ∀ R : VK, R v H → tb σ H R) (q : Q v H) : if b = true then ta σ H Q else tb σ H Q := by
  cases b with
  | true => exact iteT (h1 rfl _ q)
  | false => exact iteF (h2 rfl _ q)
end LX

/-! ### comprehensions that add only new objects: the list they make -/
namespace LX
open PySem L2
theorem range_fm {α β : Type} (f : α → Option β) : ∀ l : List α, (List.range l.length).filterMap (fun i => (l[i]?).bind f) = l.filterMap f
  | [] => rfl
  | x :: l => by
    rw [List.length_cons, List.range_succ_eq_map, List.filterMap_cons, List.filterMap_map]
    have ih := range_fm f l
    show (match f x with | none => _ | some b => b :: _) = _
    have e : ((fun i => ((x :: l)[i]?).bind f) ∘ Nat.succ) = fun i => (l[i]?).bind f := rfl
    rw [e, ih]
    cases q : f x with
    | none => rw [List.filterMap_cons_none q]
    | some y => rw [List.filterMap_cons_some q]
section
variable {K : PySem.W.Frag} {a D : Addr} {xs : List V} {g : TG} {tt : TT} {te : TE} {vs : List Nat} {σ : L2.St} {H1 : Hp} {Qd : Hp → Prop}
theorem lc_ix (f : Nat → Option V) (hD : H1 D = none) (ha : ∀ H, Same H1 H → SqL K H a xs) (hz : xs.length ≤ 1000)
    (hs : ∀ i x, xs[i]? = some x → ∀ H, Same H1 H → ∀ (T : V → Hp → Prop) (F : Hp → Prop), (∀ y H', f i = some y → Same H H' → T y H') → (∀ H', f i = none → Same H H' → F H') →
      g x (wipe σ vs) H fun σ2 H2 => wipe σ2 vs = wipe σ vs ∧ tt σ2 H2 fun b H3 => if b = true then te σ2 H3 T else F H3)
    (hd : ∀ H', Same H1 H' → H' D = some (.lst ((List.range xs.length).filterMap f)) → Qd H') :
    ∃ W : Nat → Nat → Hp → Prop, (∃ m, W 0 m (upd H1 D (.lst []))) ∧ ∀ i m H, W i m H →
      ((Itl K a).stop i H ∧ Qd H) ∨ ((Itl K a).go i H ∧ ∃ Nx : Hp → Prop, (∀ H', Nx H' → ∃ m', m' < m ∧ W (i + 1) m' H') ∧ ∀ x H', (Itl K a).yld i H x H' → g x (wipe σ vs) H' fun σ2 H2 => wipe σ2 vs = wipe σ vs ∧ tt σ2 H2 fun b H3 =>
        if b = true then te σ2 H3 fun y H4 => ∃ acc, H4 D = some (.lst acc) ∧ acc.length < sizeLine ∧ Nx (upd H4 D (.lst (acc ++ [y]))) else Nx H3) := by
  refine lc_list (K := K) (a := a) (xs := xs) (fun i H => Same H1 H ∧ H D = some (.lst ((List.range i).filterMap f)) ∧ i ≤ 1000) ⟨sNew hD, upd_same, Nat.zero_le _⟩ (fun i H _ h => ha H h.1) ?_ ?_
  · rintro i x H hi ⟨s, e, hi2⟩
    have hil : i < xs.length := (List.getElem?_eq_some_iff.mp hi).1
    have ln : ((List.range i).filterMap f).length ≤ i := by
      have := List.length_filterMap_le f (List.range i)
      rw [List.length_range] at this
      exact this
    refine hs i x hi H s _ _ (fun y H' hy s2 => ⟨_, s2 _ _ e, small1000 (Nat.le_trans ln hi2), sUpd (s.trans s2) hD, ?_, by omega⟩) fun H' hn s2 => ⟨s.trans s2, ?_, by omega⟩
    · rw [upd_same, List.range_succ, List.filterMap_append, List.filterMap_cons_some hy]
      rfl
    · rw [s2 _ _ e, List.range_succ, List.filterMap_append, List.filterMap_cons_none hn]
      show _ = some (HO.lst (_ ++ []))
      rw [List.append_nil]
  · rintro H ⟨s, e, _⟩
    exact hd H s e
theorem lc_rng {n : Nat} (f : Nat → Option V) (hD : H1 D = none) (hz : n ≤ 1000)
    (hs : ∀ i, i < n → ∀ H, Same H1 H → ∀ (T : V → Hp → Prop) (F : Hp → Prop), (∀ y H', f i = some y → Same H H' → T y H') → (∀ H', f i = none → Same H H' → F H') →
      g (.int (i : Int)) (wipe σ vs) H fun σ2 H2 => wipe σ2 vs = wipe σ vs ∧ tt σ2 H2 fun b H3 => if b = true then te σ2 H3 T else F H3)
    (hd : ∀ H', Same H1 H' → H' D = some (.lst ((List.range n).filterMap f)) → Qd H') :
    ∃ W : Nat → Nat → Hp → Prop, (∃ m, W 0 m (upd H1 D (.lst []))) ∧ ∀ i m H, W i m H →
      ((Itr 0 n).stop i H ∧ Qd H) ∨ ((Itr 0 n).go i H ∧ ∃ Nx : Hp → Prop, (∀ H', Nx H' → ∃ m', m' < m ∧ W (i + 1) m' H') ∧ ∀ x H', (Itr 0 n).yld i H x H' → g x (wipe σ vs) H' fun σ2 H2 => wipe σ2 vs = wipe σ vs ∧ tt σ2 H2 fun b H3 =>
        if b = true then te σ2 H3 fun y H4 => ∃ acc, H4 D = some (.lst acc) ∧ acc.length < sizeLine ∧ Nx (upd H4 D (.lst (acc ++ [y]))) else Nx H3) := by
  refine lc_range (lo := 0) (n := n) (fun i H => Same H1 H ∧ H D = some (.lst ((List.range i).filterMap f)) ∧ i ≤ 1000) ⟨sNew hD, upd_same, Nat.zero_le _⟩ ?_ ?_
  · rintro i H hi ⟨s, e, hi2⟩
    have ln : ((List.range i).filterMap f).length ≤ i := by
      have := List.length_filterMap_le f (List.range i)
      rw [List.length_range] at this
      exact this
    rw [Int.zero_add]
    refine hs i hi H s _ _ (fun y H' hy s2 => ⟨_, s2 _ _ e, small1000 (Nat.le_trans ln hi2), sUpd (s.trans s2) hD, ?_, by omega⟩) fun H' hn s2 => ⟨s.trans s2, ?_, by omega⟩
    · rw [upd_same, List.range_succ, List.filterMap_append, List.filterMap_cons_some hy]
      rfl
    · rw [s2 _ _ e, List.range_succ, List.filterMap_append, List.filterMap_cons_none hn]
      show _ = some (HO.lst (_ ++ []))
      rw [List.append_nil]
  · rintro H ⟨s, e, _⟩
    exact hd H s e
theorem rd_lc {wi : TI} {H : Hp} {Q : VK} (q : wi σ H fun J H1 => ∀ D, H1 D = none → ∃ W : Nat → Nat → Hp → Prop, (∃ m, W 0 m (upd H1 D (.lst []))) ∧ ∀ i m H, W i m H →
  (J.stop i H ∧ Q (.ref D) H) ∨ (J.go i H ∧ ∃ Nx : Hp → Prop, (∀ H', Nx H' → ∃ m', m' < m ∧ W (i + 1) m' H') ∧ ∀ x H', J.yld i H x H' → g x (wipe σ vs) H' fun σ2 H2 => wipe σ2 vs = wipe σ vs ∧ tt σ2 H2 fun b H3 =>
    if b = true then te σ2 H3 fun y H4 => ∃ acc, H4 D = some (.lst acc) ∧ acc.length < sizeLine ∧ Nx (upd H4 D (.lst (acc ++ [y]))) else Nx H3)) : tLc wi g tt te vs σ H Q := q
theorem rd_iR {ta : TA} {H : Hp} {R : It → Hp → Prop} (q : ta σ H fun vs H1 => ∃ j : Int, vs = [.int j] ∧ -(2 ^ 62) ≤ j ∧ j < 2 ^ 62 ∧ R (Itr 0 j.toNat) H1) : iRng1 ta σ H R := q
theorem rd_n {n : Nat} {R : It → Prop} (h : n ≤ 1000) (q : R (Itr 0 n)) : ∃ j : Int, [V.int (n : Int)] = [.int j] ∧ -(2 ^ 62) ≤ j ∧ j < 2 ^ 62 ∧ R (Itr 0 j.toNat) := ⟨n, rfl, by omega, by omega, q⟩
/-- over a list of plain values -/
theorem lc_vals {α : Type} {zs : List α} {v : α → V} (f : α → Option V) (hD : H1 D = none) (ha : H1 a = some (.lst (zs.map v))) (hz : zs.length ≤ 1000)
    (hs : ∀ x, x ∈ zs → ∀ H, Same H1 H → ∀ (T : V → Hp → Prop) (F : Hp → Prop), (∀ y H', f x = some y → Same H H' → T y H') → (∀ H', f x = none → Same H H' → F H') →
      g (v x) (wipe σ vs) H fun σ2 H2 => wipe σ2 vs = wipe σ vs ∧ tt σ2 H2 fun b H3 => if b = true then te σ2 H3 T else F H3)
    (hd : ∀ H', Same H1 H' → H' D = some (.lst (zs.filterMap f)) → Qd H') :
    ∃ W : Nat → Nat → Hp → Prop, (∃ m, W 0 m (upd H1 D (.lst []))) ∧ ∀ i m H, W i m H →
      ((Itl K a).stop i H ∧ Qd H) ∨ ((Itl K a).go i H ∧ ∃ Nx : Hp → Prop, (∀ H', Nx H' → ∃ m', m' < m ∧ W (i + 1) m' H') ∧ ∀ x H', (Itl K a).yld i H x H' → g x (wipe σ vs) H' fun σ2 H2 => wipe σ2 vs = wipe σ vs ∧ tt σ2 H2 fun b H3 =>
        if b = true then te σ2 H3 fun y H4 => ∃ acc, H4 D = some (.lst acc) ∧ acc.length < sizeLine ∧ Nx (upd H4 D (.lst (acc ++ [y]))) else Nx H3) := by
  refine lc_ix (xs := zs.map v) (fun i => (zs[i]?).bind f) hD (fun H s => SqL.of (s _ _ ha)) (by rw [List.length_map]; exact hz) (fun i x hi H s T F hT hF => ?_) fun H' s e => hd H' s ?_
  · rw [List.getElem?_map] at hi
    obtain ⟨z, h1, rfl⟩ := Option.map_eq_some_iff.mp hi
    refine hs z (List.mem_of_getElem? h1) H s T F (fun y H' hy => hT y H' ?_) fun H' hn => hF H' ?_
    · rw [h1]
      exact hy
    · rw [h1]
      exact hn
  · rw [List.length_map, range_fm] at e
    exact e
/-- over a row -/
theorem lc_row {ts : List Addr} {r : Row} (f : Nat × Nat → Option V) (hD : H1 D = none) (ha : H1 a = some (.lst (ts.map V.ref))) (ht : TupsAt H1 ts r) (hz : r.length ≤ 1000)
    (hs : ∀ t e, e ∈ r → t ∈ ts → ∀ H, Same H1 H → H t = some (.tup (pr e)) → ∀ (T : V → Hp → Prop) (F : Hp → Prop), (∀ y H', f e = some y → Same H H' → T y H') → (∀ H', f e = none → Same H H' → F H') →
      g (.ref t) (wipe σ vs) H fun σ2 H2 => wipe σ2 vs = wipe σ vs ∧ tt σ2 H2 fun b H3 => if b = true then te σ2 H3 T else F H3)
    (hd : ∀ H', Same H1 H' → H' D = some (.lst (r.filterMap f)) → Qd H') :
    ∃ W : Nat → Nat → Hp → Prop, (∃ m, W 0 m (upd H1 D (.lst []))) ∧ ∀ i m H, W i m H →
      ((Itl K a).stop i H ∧ Qd H) ∨ ((Itl K a).go i H ∧ ∃ Nx : Hp → Prop, (∀ H', Nx H' → ∃ m', m' < m ∧ W (i + 1) m' H') ∧ ∀ x H', (Itl K a).yld i H x H' → g x (wipe σ vs) H' fun σ2 H2 => wipe σ2 vs = wipe σ vs ∧ tt σ2 H2 fun b H3 =>
        if b = true then te σ2 H3 fun y H4 => ∃ acc, H4 D = some (.lst acc) ∧ acc.length < sizeLine ∧ Nx (upd H4 D (.lst (acc ++ [y]))) else Nx H3) := by
  have hl := ht.len
  refine lc_ix (xs := ts.map V.ref) (fun i => (r[i]?).bind f) hD (fun H s => SqL.of (s _ _ ha)) (by rw [List.length_map, hl]; exact hz) (fun i x hi H s T F hT hF => ?_) fun H' s e => hd H' s ?_
  · rw [List.getElem?_map] at hi
    obtain ⟨t, h1, rfl⟩ := Option.map_eq_some_iff.mp hi
    obtain ⟨e, h2, h3⟩ := ht.get h1
    refine hs t e (List.mem_of_getElem? h2) (List.mem_of_getElem? h1) H s (s _ _ h3) T F (fun y H' hy => hT y H' ?_) fun H' hn => hF H' ?_
    · rw [h2]
      exact hy
    · rw [h2]
      exact hn
  · rw [List.length_map, hl, range_fm] at e
    exact e
/-- over a row, the entries as they stand -/
theorem lc_rowF {ts : List Addr} {r : Row} (p : Nat × Nat → Bool) (hD : H1 D = none) (ha : H1 a = some (.lst (ts.map V.ref))) (ht : TupsAt H1 ts r) (hz : r.length ≤ 1000)
    (hs : ∀ t e, e ∈ r → ∀ H, Same H1 H → H t = some (.tup (pr e)) → ∀ (T : V → Hp → Prop) (F : Hp → Prop), (∀ H', p e = true → Same H H' → T (.ref t) H') → (∀ H', ¬ p e = true → Same H H' → F H') →
      g (.ref t) (wipe σ vs) H fun σ2 H2 => wipe σ2 vs = wipe σ vs ∧ tt σ2 H2 fun b H3 => if b = true then te σ2 H3 T else F H3)
    (hd : ∀ H' us, Same H1 H' → H' D = some (.lst (us.map V.ref)) → TupsAt H' us (r.filter p) → Qd H') :
    ∃ W : Nat → Nat → Hp → Prop, (∃ m, W 0 m (upd H1 D (.lst []))) ∧ ∀ i m H, W i m H →
      ((Itl K a).stop i H ∧ Qd H) ∨ ((Itl K a).go i H ∧ ∃ Nx : Hp → Prop, (∀ H', Nx H' → ∃ m', m' < m ∧ W (i + 1) m' H') ∧ ∀ x H', (Itl K a).yld i H x H' → g x (wipe σ vs) H' fun σ2 H2 => wipe σ2 vs = wipe σ vs ∧ tt σ2 H2 fun b H3 =>
        if b = true then te σ2 H3 fun y H4 => ∃ acc, H4 D = some (.lst acc) ∧ acc.length < sizeLine ∧ Nx (upd H4 D (.lst (acc ++ [y]))) else Nx H3) := by
  have hl := ht.len
  refine lc_list (K := K) (a := a) (xs := ts.map V.ref) (fun i H => Same H1 H ∧ ∃ us, H D = some (.lst (us.map V.ref)) ∧ TupsAt H us ((r.take i).filter p)) ⟨sNew hD, [], upd_same, True.intro⟩ (fun i H _ h => SqL.of (h.1 _ _ ha)) ?_ ?_
  · rintro i x H hi ⟨s, us, e, hU⟩
    rw [List.getElem?_map] at hi
    obtain ⟨t, h1, rfl⟩ := Option.map_eq_some_iff.mp hi
    obtain ⟨en, h2, h3⟩ := ht.get h1
    have hz2 := hU.len
    have ln : us.length ≤ 1000 := by
      have q := List.length_filter_le p (r.take i)
      rw [List.length_take] at q
      omega
    refine hs t en (List.mem_of_getElem? h2) H s (s _ _ h3) _ _ (fun H' c s2 => ⟨_, s2 _ _ e, small1000 (by rw [List.length_map]; exact ln), sUpd (s.trans s2) hD, us ++ [t], ?_, ?_⟩) fun H' c s2 => ⟨s.trans s2, us, s2 _ _ e, ?_⟩
    · rw [upd_same, List.map_append]
      rfl
    · have q := filt_turn hU h2 (s _ _ h3)
      rw [if_pos c] at q
      refine q.mono fun b ys eb => ?_
      have nb : b ≠ D := fun z => by
        rw [z, e] at eb
        cases eb
      rw [upd_ne nb]
      exact s2 _ _ eb
    · have q := filt_turn hU h2 (s _ _ h3)
      rw [if_neg c] at q
      exact q.mono (sTups s2)
  · rintro H ⟨s, us, e, hU⟩
    rw [List.length_map, hl, List.take_length] at hU
    exact hd H us s e hU
end
/-! ### the colors of the others -/
def ot (r : Row) (w : Nat) : List Nat := (r.filter fun e => e.1 != w).map (·.2)
theorem fm_if {α : Type} {p : α → Bool} {v : α → V} : ∀ l : List α, l.filterMap (fun e => if p e = true then some (v e) else none) = (l.filter p).map v
  | [] => rfl
  | x :: l => by
    by_cases h : p x = true
    · rw [List.filterMap_cons_some (b := v x) (by rw [if_pos h]), List.filter_cons_of_pos h, List.map_cons, fm_if l]
    · rw [List.filterMap_cons_none (by rw [if_neg h]), List.filter_cons_of_neg h, fm_if l]
theorem fm_all {α : Type} {v : α → V} : ∀ l : List α, l.filterMap (fun e => some (v e)) = l.map v
  | [] => rfl
  | x :: l => by
    have e : (x :: l).filterMap (fun e => some (v e)) = v x :: l.filterMap fun e => some (v e) := List.filterMap_cons_some (f := fun e => some (v e)) rfl
    rw [e, fm_all l, List.map_cons]
theorem colOf_is {r : Row} (nd : (r.map (·.1)).Nodup) {e : Nat × Nat} (he : e ∈ r) : colOf r e.1 = e.2 := by
  induction r with
  | nil => cases he
  | cons x r ih =>
    have nd' := List.nodup_cons.mp (show (x.1 :: r.map (·.1)).Nodup from nd)
    unfold colOf
    rcases List.mem_cons.mp he with z | z
    · rw [z, List.find?_cons_of_pos (by simp)]
      rfl
    · have : x.1 ≠ e.1 := fun q => nd'.1 (by rw [q]; exact List.mem_map_of_mem (f := (·.1)) z)
      rw [List.find?_cons_of_neg (by simpa using this)]
      exact ih nd'.2 z
theorem ot_find {c w : Nat} : ∀ {r : Row}, (∀ e ∈ r, e.1 = w → e.2 = c) → (ot r w).find? (fun x => x != c) = fo r c
  | [], _ => rfl
  | e :: r, h => by
    have ih := ot_find (r := r) fun x hx => h x (List.mem_cons_of_mem _ hx)
    by_cases k : e.1 = w
    · rw [fo_no (h e List.mem_cons_self k), ← ih]
      unfold ot
      rw [List.filter_cons_of_neg (by simpa using k)]
    · have e2 : ot (e :: r) w = e.2 :: ot r w := by
        unfold ot
        rw [List.filter_cons_of_pos (by simpa using k)]
        rfl
      rw [e2]
      by_cases d : e.2 = c
      · rw [fo_no d, ← ih, List.find?_cons_of_neg (by simpa using d)]
      · rw [fo_yes d, List.find?_cons_of_pos (by simpa using d)]
/-- what a called person takes, counted from the others -/
def cand (o : List Nat) (c : Nat) : List Nat := (o.take 1).filter (fun x => x != c) ++ o.filter fun x => x != o.headD 0
theorem cand_head (o : List Nat) (c : Nat) : (cand o c).head? = o.find? fun x => x != c := by
  unfold cand
  cases o with
  | nil => rfl
  | cons x o =>
    show (([x] : List Nat).filter (fun y => y != c) ++ (x :: o).filter fun y => y != x).head? = _
    by_cases h : x = c
    · rw [List.filter_cons_of_neg (by simpa using h), List.filter_nil, List.nil_append, List.filter_cons_of_neg (by simp), List.head?_filter, List.find?_cons_of_neg (by simpa using h), h]
    · rw [List.filter_cons_of_pos (by simpa using h), List.find?_cons_of_pos (by simpa using h)]
      rfl
theorem cand_is {r : Row} (h : Vr r) {w : Nat} : (cand (ot r w) (colOf r w)).head? = fo r (colOf r w) := by
  rw [cand_head]
  exact ot_find fun e he k => by rw [← k, colOf_is h.nodup he]
/-- letters as data -/
abbrev dS (cs : List Nat) : PyData := .list (cs.map fun c => .str ⟨#[c]⟩)
theorem dp_strs {K : PySem.W.Frag} {H : Hp} : ∀ cs : List Nat, DpAll K H (cs.map sg) (cs.map fun c => PyData.str ⟨#[c]⟩)
  | [] => .nil
  | c :: cs => .cons (.str _) (dp_strs cs)
theorem lay_strs : ∀ cs : List Nat, (∀ c ∈ cs, c ≤ 122) → PyData.canLayAll0 (cs.map fun c => PyData.str ⟨#[c]⟩) = true ∧ PyData.depthAll (cs.map fun c => PyData.str ⟨#[c]⟩) ≤ 1
  | [], _ => by
    simp only [List.map_nil, PyData.canLayAll0, PyData.depthAll]
    exact ⟨trivial, Nat.zero_le _⟩
  | c :: cs, h => by
    obtain ⟨h1, h2⟩ := lay_strs cs fun x hx => h x (List.mem_cons_of_mem _ hx)
    simp only [List.map_cons, PyData.canLayAll0, PyData.canLay0, PyData.depthAll, PyData.depth]
    rw [h1, str_ok (h c List.mem_cons_self)]
    exact ⟨rfl, by omega⟩
theorem shp_strs (cs : List Nat) (h : ∀ c ∈ cs, c ≤ 122) : SeqAt.shaped (dS cs) = true := by
  obtain ⟨h1, h2⟩ := lay_strs cs h
  refine Bool.and_eq_true_iff.mpr ⟨?_, decide_eq_true ?_⟩
  · simp only [PyData.canLay0]
    exact h1
  · simp only [PyData.depth]
    omega
theorem eqv_nilS (cs : List Nat) : PyData.eqv (dS cs) (.list []) = cs.isEmpty := by
  cases cs with
  | nil => rfl
  | cons n ns => simp [PyData.eqv, PyData.eqvAll]
theorem cut1 (xs : List V) : cutV xs none (some 1) = xs.take 1 := by
  unfold cutV HT.sIx
  cases xs with
  | nil => rfl
  | cons x xs => simp
end LX

/-! ### defs that show data (repr): the same promises, said where no repr runs -/
namespace LX
open PySem L2
open PySem.Spec PyProof.Rows
/-- as FnOk, for callers among whom no repr runs -/
structure FnG (P : Program) (w : World) (K : PySem.W.Frag) (mg : Str → Option Value) (base : Heap) (k : Nat) (f : Addr) (fd : FuncData) (ps : List Str) (sp : Sp) : Prop where
  len : ∀ vs H Q E, sp vs H Q E → vs.length = ps.length
  go : ∀ (A : Around) (o : List Env) (s : Shared) (H : Hp) (ar : Args) (us : List Value) (vs : List V) (Q : VK) (E : XK), Room k A → A.guards = some [] → Env0 P w K mg base A o s H →
    BindsTo s fd ar (ps.zip us) → Vals vs us → sp vs H Q E → codeAny (model P w) A (.call (.ref f) ar) (CR CX0 o P w H s Q E) s
section
variable {P : Program} {w : World} {K : PySem.W.Frag} {mg : Str → Option Value} {base : Heap} {x qual : Str} {st : Stmt} {f : Addr} {fd : FuncData} {N ps : List Str} {k : Nat} {sp : Sp}
/-- a def of the text by its body, as Fun.ok, with the word that no repr runs around it -/
theorem fnG (F : Fun K x qual st f fd) (S : FnScope N ps (defScope st)) (len : ∀ vs H Q E, sp vs H Q E → vs.length = ps.length)
    (body : ∀ (cdv : Value) (A : Around) (outer : List Env) (s : Shared) (H : Hp) (vs : List V) (Q : VK) (E : XK), Room k (A.deeper (envOfC qual (defScope st) s.heap.objs.size f cdv)) →
      (A.deeper (envOfC qual (defScope st) s.heap.objs.size f cdv)).guards = some [] → sp vs H Q E →
      ∃ t, PSs (cxOf CX0 P w K mg base N qual (defScope st) f cdv A outer s H E).nox (defBody st) t ∧ t { nx := fun _ H' => Q .non H', rt := Q } (start N vs) H) :
    FnG P w K mg base (k + 1) f fd ps sp := by
  obtain ⟨oc, od, kV, doc, pm, an, cdv, ct, osl, rfl, lk, hcd⟩ := F.ex
  constructor
  · exact len
  intro A o s H ar us vs Q E room quiet e0 bind r want
  have n := len vs H Q E want
  have KH := e0.mod.kin.keeps fun b ob e => (e0.bs b ob e).1
  have NL := e0.mod.nolimit.keeps fun b ob e => (e0.bs b ob e).1
  -- every parameter is a local or a cell
  have par : ∀ q ∈ ps.zip us, (defScope st).names.lookup q.1 = some .local ∨ ((defScope st).names.lookup q.1 = some .cell ∧ ((cellsFrom (s.heap.objs.size + 1) (defScope st).names []).lookup q.1).isSome = true) := by
    intro q hq
    have hm : q.1 ∈ ps := (List.of_mem_zip (show (q.1, q.2) ∈ ps.zip us from hq)).1
    exact (S.par q.1 hm).imp id fun c => ⟨c, PySem.W.cellsFrom_some _ _ _ (Or.inl c)⟩
  apply codeAny_call_function room.depth (KH _ _ lk) rfl S.co S.gen rfl (PySem.W.codeRec_of KH hcd)
  apply bind
  apply wpAny_newFunctionEnv_cells S.kind par
  intro env henv s1 made
  cases henv
  refine ⟨NL.keeps made.toInCall.keep, ?_⟩
  apply codeAny_func
  obtain ⟨t, der, rd⟩ := body cdv A o s H vs Q E (room.deeper _) quiet want
  have inv := inv_start (CX := CX0) (E := E) (N := N) S room.hd e0 n r made
  apply wpAny_mono (der.nox.run [] s1 (start N vs) H _ inv rd)
  · intro fl s2 hs
    cases fl with
    | brk =>
      obtain ⟨_, _, _, no⟩ := hs
      exact no.elim
    | cont =>
      obtain ⟨_, _, _, no⟩ := hs
      exact no.elim
    | next =>
      obtain ⟨σ', H', J, q⟩ := hs
      exact ⟨.non, H', J.os, J.bare, J.base, J.hok, rfl, q⟩
    | ret u =>
      obtain ⟨v, σ', H', J, rv, q⟩ := hs
      exact ⟨v, H', J.os, J.bare, J.base, J.hok, rv, q⟩
  · exact fun _ _ z => z
theorem FnG.mono {j : Nat} (F : FnG P w K mg base j f fd ps sp) (h : j ≤ k) : FnG P w K mg base k f fd ps sp := ⟨F.len, fun A o s H ar us vs Q E room => F.go A o s H ar us vs Q E (room.mono h)⟩
end
section
variable {X : Cx} {k n : Nat} {f : Addr} {fd : FuncData} {ps ks : List Str} {sp : Sp} {x : Str} {p pos : Pos} {e : Expr} {es : List Expr} {kws : List Keyword} {t tk : TA} {g : List Value → List Value → List Value} {gV : List V → List V → List V}
/-- f(e, ..), f a def that shows data -/
theorem pe_callG (F : FnG X.prog X.w X.K X.mg X.base k f fd ps sp) (room : Room k X.A) (quiet : X.A.guards = some []) (g0 : Gl X x) (g1 : X.mg x = some (.ref f)) (g2 : PySem.W.keepIn X.K (.ref f) = true) (b : Binds X.K fd ps [])
    (ha : PA X (e :: es) t) (q0 : (x == ("__debug__" : Str)) = false := by decide) (q1 : starEach (e :: es) X.env = (false, eval e X.env) :: starEach es X.env := by rfl) (q2 : (backTo pos (starEach es X.env)).any (·.1) = false := by rfl) :
    PE X (.Call (.Name x p) (e :: es) [] pos) (tCall sp [] E0 t) := by
  constructor
  intro pins s σ H Q I h
  apply wpAny_Call_Name_kw
  apply ld_glob I g0 g1 _ q0
  refine PySem.W.callWith_K (h₀ := X.base) I.ok.mod.kin g2 (thn (ha.run pos pins s σ H _ I h) ?_) q1 q2
  rintro us s1 ⟨vs, H1, J, r, q⟩
  refine ⟨J.kIn, ?_⟩
  have q' : sp vs H1 Q E0 := by rw [List.append_nil] at q; exact q
  have lu : (us ++ []).length = ps.length := by
    rw [List.append_nil, ← r.length]
    exact F.len _ _ _ _ q'
  have bd := b s1 us J.kIn lu
  rw [List.append_nil] at bd
  refine wpAny_call (codeAny_mono (F.go X.A X.stack s1 H1 ⟨us, []⟩ us vs Q E0 room quiet J.env0 bd r q') ?_)
  intro res s2 hq
  match res, hq with
  | .error _, hq => exact hq.elim
  | .ok (.ret _), hq => exact J.after hq
  | .ok .next, hq => exact hq.elim
  | .ok .brk, hq => exact hq.elim
  | .ok .cont, hq => exact hq.elim
/-- f(k = v, ..): nothing by position -/
theorem pe_callN0 (F : FnOk X.prog X.w X.K X.mg X.base CX0 k f fd ps sp) (room : Room k X.A) (g0 : Gl X x) (g1 : X.mg x = some (.ref f)) (g2 : PySem.W.keepIn X.K (.ref f) = true) (b : KBn X.K fd ps 0 ks g gV) (hk : PK X kws tk)
    (q1 : (backToKw pos (keywordEach kws X.env)).all (·.1.isSome) = true := by rfl) (q2 : (backToKw pos (keywordEach kws X.env)).filterMap (·.1) = ks := by rfl) (q0 : (x == ("__debug__" : Str)) = false := by decide)
    (q3 : ((backTo pos (starEach [] X.env)).any (·.1) || (backToKw pos (keywordEach kws X.env)).any (·.1.isNone)) = false := by rfl) :
    PE X (.Call (.Name x p) [] kws pos) (tCallN 0 ks.length sp gV E0 tNil tk) := by
  constructor
  intro pins s σ H Q I h
  apply wpAny_Call_Name_kw
  apply ld_glob I g0 g1 _ q0
  refine PySem.W.callWith_KW0 (h₀ := X.base) I.ok.mod.kin g2 q1 ?_ q3
  refine thn (hk.run pos pins s σ H _ I h) ?_
  rintro ws s2 ⟨zs, H2, J, rz, l1, l2, q⟩
  refine ⟨J.kIn, ?_⟩
  rw [q2]
  exact run_fnN (us := []) (vs := []) F room b pass0 J .nil rz l1 l2 q
/-- repr of data: none, bools, ints, texts, lists and tuples of these -/
def qRepr (K : PySem.W.Frag) : List V → Hp → VK → Prop := fun vs H Q => ∃ (v : V) (d : PyData), vs = [v] ∧ (∃ a, v = .ref a) ∧ Dp K H v d ∧ d.showable = true ∧ d.hasDict = false ∧ d.depth ≤ 20 ∧ d.shown.length ≤ sizeLine ∧ Q (.str d.shown) H
theorem krepr {K : PySem.W.Frag} (quiet : X.A.guards = some []) (hu : X.A.units + 64 < cLine) (h : X.K = K := by rfl) : CallR X (.builtin "repr") (qRepr K) := by
  subst h
  intro pins s σ H vs us Q I r want
  obtain ⟨v, d, rfl, ⟨a, rfl⟩, dp, sh, nd, dd, sz, q⟩ := want
  obtain ⟨u, rfl, ru⟩ : ∃ u, us = [u] ∧ RelV (.ref a) u := by
    cases r with
    | cons r1 r2 =>
      cases r2
      exact ⟨_, rfl, r1⟩
  cases ru
  obtain ⟨as, rs⟩ := Dp.reads I d (.ref a) (.ref a) dp rfl
  refine PySem.repr_of_reads' rs sh (fun z => by rw [nd] at z; cases z) quiet (by omega) (fun _ _ e => e) ?_ sz
  intro h' y tk keep
  exact ⟨.str d.shown, H, I.kept keep, ⟨y, rfl⟩, q⟩
end
/-! ### the law's own head, for a law that shows data -/
/-- what is tracked at the start: the script, locked, if it is none of the module's own objects -/
def H0 (K : PySem.W.Frag) (a : Addr) (o : Obj) (xs : List V) : Hp := fun b => if b = a ∧ (K.lookup a).isNone = true then some (.frz o (.lst xs)) else none
theorem H0_some {K : PySem.W.Frag} {a b : Addr} {o : Obj} {xs : List V} {u : HO} (h : H0 K a o xs b = some u) : b = a ∧ K.lookup a = none ∧ u = .frz o (.lst xs) := by
  unfold H0 at h
  by_cases c : b = a ∧ (K.lookup a).isNone = true
  · rw [if_pos c] at h
    exact ⟨c.1, Option.isNone_iff_eq_none.mp c.2, (Option.some.inj h).symm⟩
  · rw [if_neg c] at h
    cases h
theorem law_callG {P : Program} {w : World} {K : PySem.W.Frag} {mg mb : Str → Option Value} {k : Nat} {fa a : Addr} {fd : FuncData} {x : Str} {sp : Sp} {s₁ : Shared} {vs : List Value} {ns : List Int} (inK : K.In s₁.heap) (gm : s₁.heap.Ns mainGlobals mg) (gb : s₁.heap.Ns builtinsNs mb)
    (bb : ∀ y : Str, y ≠ "__name__" → mb y = bootBuiltins y) (nl : s₁.heap.NoLimit) (gens : s₁.gens = #[]) (at_a : s₁.heap.get? a = some { cls := .type "list", data := .seq vs.toArray }) (hin : IntsAre vs ns) (few : ns.length ≤ sizeLine) (room : Room k callerA)
    (F : ∀ base : Heap, K.In base → base.Ns mainGlobals mg → FnG P w K mg base k fa fd [x] sp) (bind : ∀ (s : Shared) (u : Value), BindsTo s fd ⟨[u], []⟩ [(x, u)])
    (good : ∀ H : Hp, Only H → SqL K H a (ns.map V.int) → sp [.ref a] H (fun v _ => v = .bl true) fun _ _ _ => False) :
    codeAny (model P w) callerA (.call (.ref fa) ⟨[.ref a], []⟩) (fun r s' => r = .ok (.ret (.bool true)) ∧ OldK s₁.heap s'.heap ∧ s'.os = s₁.os ∧ AllBare s'.gens) s₁ := by
  have rv := vals_ints hin
  have nv := hin.length
  generalize ho : ({ cls := .type "list", data := .seq vs.toArray } : Obj) = o at at_a
  have only : Only (H0 K a o (ns.map V.int)) := fun b => by
    cases q : H0 K a o (ns.map V.int) b with
    | none => exact Or.inl rfl
    | some u => exact Or.inr ⟨o, _, by rw [(H0_some q).2.2]⟩
  have seq : SqL K (H0 K a o (ns.map V.int)) a (ns.map V.int) := by
    cases q : K.lookup a with
    | none => exact Or.inl (Or.inr ⟨o, if_pos ⟨rfl, by rw [q]; rfl⟩⟩)
    | some o' =>
      have e := inK a o' q
      rw [at_a] at e
      cases e
      subst ho
      exact Or.inr ⟨_, vs.toArray, _, q, rfl, rfl, rfl, by rw [List.size_toArray, nv]; exact few, by simpa using rv⟩
  have held : HOk P w (H0 K a o (ns.map V.int)) s₁.heap := fun b u q => by
    obtain ⟨rfl, _, rfl⟩ := H0_some q
    subst ho
    exact ⟨at_a, by rw [List.length_map]; exact few, vs, _, rv, at_a⟩
  -- what is not the script stands in the base
  have out : ∀ {b : Addr} {ob : Obj}, s₁.heap.get? b = some ob → H0 K a o (ns.map V.int) b = none → (hidT s₁.heap (H0 K a o (ns.map V.int))).get? b = some ob := fun e n => hidT_get e n
  have dicts : ∀ {b : Addr} {ob : Obj} {es : Array DictEntry} {n : Nat}, s₁.heap.get? b = some ob → ob.data = .dict es n → H0 K a o (ns.map V.int) b = none := by
    intro b ob es n e d
    cases q : H0 K a o (ns.map V.int) b with
    | none => rfl
    | some u =>
      obtain ⟨rfl, _, _⟩ := H0_some q
      rw [at_a] at e
      cases e
      subst ho
      cases d
  have names : ∀ {b : Addr} {m : Str → Option Value}, s₁.heap.Ns b m → (hidT s₁.heap (H0 K a o (ns.map V.int))).Ns b m := by
    rintro b m ⟨ob, es, n, e, d, z⟩
    exact ⟨ob, es, n, out e (dicts e d), d, z⟩
  have kb : K.In (hidT s₁.heap (H0 K a o (ns.map V.int))) := fun b ob e => by
    refine out (inK b ob e) ?_
    cases q : H0 K a o (ns.map V.int) b with
    | none => rfl
    | some u =>
      obtain ⟨rfl, q2, _⟩ := H0_some q
      rw [q2] at e
      cases e
  obtain ⟨mc, c1, c2⟩ := nl
  have e0 : Env0 P w K mg (hidT s₁.heap (H0 K a o (ns.map V.int))) callerA [] s₁ (H0 K a o (ns.map V.int)) := {
    frames := rfl
    mod := ⟨kb, names gm, ⟨mb, names gb, bb⟩, ⟨mc, names c1, c2⟩⟩
    bs := fun b ob e => of_hidT e
    bsz := Nat.le_of_eq (hidT_size _ _)
    funs := trivial
    frf := fun b hb => absurd (show b ∈ ([] : List Addr) from hb) List.not_mem_nil
    hok := held
    bare := .of_eq gens }
  refine codeAny_mono ((F _ kb (names gm)).go callerA [] s₁ (H0 K a o (ns.map V.int)) ⟨[.ref a], []⟩ [.ref a] [.ref a] _ _ room rfl e0 (bind s₁ (.ref a)) (.cons rfl .nil) (good _ only seq)) ?_
  intro res s' hq
  match res, hq with
  | .error _, hq => exact hq.elim
  | .ok .next, hq => exact hq.elim
  | .ok .brk, hq => exact hq.elim
  | .ok .cont, hq => exact hq.elim
  | .ok (.ret u), hq =>
    obtain ⟨v, H', os, bare, un, held', r', q⟩ := hq
    have q' : v = .bl true := q
    subst q'
    cases (show u = Value.bool true from r')
    refine ⟨rfl, OldK.of_keep fun b ob e => ?_, os, bare⟩
    cases z : H0 K a o (ns.map V.int) b with
    | none => exact un.keep b ob e z (fun y => absurd (show b ∈ ([] : List Addr) from y) List.not_mem_nil) List.not_mem_nil
    | some y =>
      obtain ⟨rfl, _, rfl⟩ := H0_some z
      obtain ⟨e1, _⟩ := held _ _ z
      obtain ⟨e2, _⟩ := held' _ _ (un.frzs _ _ _ z)
      rw [e] at e1
      cases e1
      exact e2
theorem walk_ofG {l : PySem.W.OpenLaw} {n k : Nat} {q : Program} {loose : List Str} {XP : (Str → Option Value) → Heap → Prop} {YP : World → Heap → Prop} {d : DefRec} {K : Params → PySem.W.Frag} {sp : PySem.W.Frag → Sp} {x : Str} (hn : l.most = some n) (few : n ≤ sizeLine)
    (nodef : d.params.defaults = []) (room : Room k callerA) (hY : ∀ (w : World) (h : Heap), YP w h → (K w.params).In h)
    (F : ∀ (w : World) (mg : Str → Option Value) (fa : Addr) (h : Heap), (K w.params).In h → h.Ns mainGlobals mg → mg d.name = some (.ref fa) → ∃ fd : FuncData, (∀ (s : Shared) (u : Value), BindsTo s fd ⟨[u], []⟩ [(x, u)]) ∧
      ∀ base : Heap, (K w.params).In base → base.Ns mainGlobals mg → FnG l.prog w (K w.params) mg base k fa fd [x] (sp (K w.params)))
    (good : ∀ (K : PySem.W.Frag) (H : Hp) (a : Addr) (ns : List Int), ns.length ≤ n → Only H → SqL K H a (ns.map V.int) → sp K [.ref a] H (fun v _ => v = .bl true) fun _ _ _ => False) :
    PySem.W.WalkO q loose XP YP l.row.toRowW d [] (fun f vs => PySem.call f vs) := by
  apply Att.attach_call hn nodef
  intro w s₀ s₁ mg mb fa o pm cd doc a vs ns G Y ho hd hcd hmg at_a hin most gens
  have inK := hY w _ Y
  obtain ⟨fd, bind, hF⟩ := F w mg fa _ inK G.T.g hmg
  exact law_callG inK G.T.g G.T.b G.T.builtins G.T.nolimit gens at_a hin (Nat.le_trans most few) room hF bind fun H only seq => good _ H a ns most only seq
/-! ### calls with keywords: the values in the parameters' order -/
def pick {α : Type} (ix : List Nat) (l : List α) : List α := ix.filterMap (l[·]?)
theorem vals_at {vs : List V} {us : List Value} (h : Vals vs us) : ∀ i : Nat, (vs[i]? = none ∧ us[i]? = none) ∨ ∃ v u, vs[i]? = some v ∧ us[i]? = some u ∧ RelV v u := by
  induction h with
  | nil => exact fun i => Or.inl ⟨rfl, rfl⟩
  | cons r _ ih =>
    intro i
    cases i with
    | zero => exact Or.inr ⟨_, _, rfl, rfl, r⟩
    | succ i => exact ih i
theorem vals_pick {vs : List V} {us : List Value} (h : Vals vs us) : ∀ ix : List Nat, Vals (pick ix vs) (pick ix us)
  | [] => .nil
  | i :: ix => by
    unfold pick
    rcases vals_at h i with ⟨h1, h2⟩ | ⟨v, u, h1, h2, r⟩
    · rw [List.filterMap_cons_none h1, List.filterMap_cons_none h2]
      exact vals_pick h ix
    · rw [List.filterMap_cons_some h1, List.filterMap_cons_some h2]
      exact .cons r (vals_pick h ix)
theorem _root_.L2.Fun.kb {K : PySem.W.Frag} {x qual : Str} {st : Stmt} {f : Addr} {fd : FuncData} {ps ks : List Str} {n : Nat} {ix : List Nat} (F : Fun K x qual st f fd)
    (h : ∀ (kV doc pm : Value) (an : Option Addr) (cdv ct : Value) (us ws : List Value), us.length = n → ws.length = ks.length → bindArgs (PySem.W.fnOf x qual (defArgs st) (defBody st) (defScope st) .none kV doc pm an cdv ct) ⟨us, ks.zip ws⟩ = pure (ps.zip (pick ix (us ++ ws)))) :
    KBn K fd ps n ks (fun us ws => pick ix (us ++ ws)) (fun vs zs => pick ix (vs ++ zs)) := by
  obtain ⟨oc, od, kV, doc, pm, an, cdv, ct, osl, rfl, lk, hcd⟩ := F.ex
  exact ⟨fun s us ws _ l1 l2 => .of_eq (h kV doc pm an cdv ct us ws l1 l2), fun r1 r2 => vals_pick (r1.append r2) ix⟩
theorem rd_callN0 {σ : L2.St} {H : Hp} {Q : VK} {m : Nat} {sp : Sp} {gV : List V → List V → List V} {E : XK} {tk : TA} (q : tk σ H fun zs H2 => zs.length = m ∧ sp (gV [] zs) H2 Q E) : tCallN 0 m sp gV E tNil tk σ H Q := by
  show tk σ H fun zs H2 => ([] : List V).length = 0 ∧ zs.length = m ∧ sp (gV [] zs) H2 Q E
  have e : (fun (zs : List V) (H2 : Hp) => ([] : List V).length = 0 ∧ zs.length = m ∧ sp (gV [] zs) H2 Q E) = fun zs H2 => zs.length = m ∧ sp (gV [] zs) H2 Q E := by
    funext zs H2
    exact propext ⟨fun z => z.2, fun z => ⟨rfl, z⟩⟩
  rw [e]
  exact q
/-! ### what can be shown: no deeper than n, the leaves no longer than B, no heavier than m -/
structure Sh (B n m : Nat) (d : PyData) : Prop where
  sh : d.showable = true
  nd : d.hasDict = false
  dp : d.depth ≤ n
  ls : d.leavesShort B = true
  wt : d.weight ≤ m
theorem sh_all {B n m : Nat} : ∀ {xs : List PyData}, (∀ x ∈ xs, Sh B n m x) → PyData.showableAll xs = true ∧ PyData.hasDictAll xs = false ∧ PyData.depthAll xs ≤ n ∧ PyData.leavesShortAll B xs = true ∧ PyData.weightAll xs ≤ xs.length * (m + 1)
  | [], _ => by
    simp only [PyData.showableAll, PyData.hasDictAll, PyData.depthAll, PyData.leavesShortAll, PyData.weightAll]
    exact ⟨trivial, trivial, Nat.zero_le _, trivial, Nat.zero_le _⟩
  | x :: xs, h => by
    obtain ⟨a1, a2, a3, a4, a5⟩ := h x List.mem_cons_self
    obtain ⟨b1, b2, b3, b4, b5⟩ := sh_all fun y hy => h y (List.mem_cons_of_mem _ hy)
    have e : (xs.length + 1) * (m + 1) = xs.length * (m + 1) + (m + 1) := Nat.succ_mul ..
    simp only [PyData.showableAll, PyData.hasDictAll, PyData.depthAll, PyData.leavesShortAll, PyData.weightAll, List.length_cons, a1, a2, a4, b1, b2, b4, Bool.and_self, Bool.or_self, true_and, e]
    omega
theorem Sh.list {B n m : Nat} {xs : List PyData} (h : ∀ x ∈ xs, Sh B n m x) : Sh B (n + 1) (xs.length * (m + 1)) (.list xs) := by
  obtain ⟨a1, a2, a3, a4, a5⟩ := sh_all h
  exact ⟨by simpa only [PyData.showable] using a1, by simpa only [PyData.hasDict] using a2, by simp only [PyData.depth]; omega, by simpa only [PyData.leavesShort] using a4, by simpa only [PyData.weight] using a5⟩
theorem Sh.tuple {B n m : Nat} {xs : List PyData} (h : ∀ x ∈ xs, Sh B n m x) : Sh B (n + 1) (xs.length * (m + 1)) (.tuple xs) := by
  obtain ⟨a1, a2, a3, a4, a5⟩ := sh_all h
  exact ⟨by simpa only [PyData.showable] using a1, by simpa only [PyData.hasDict] using a2, by simp only [PyData.depth]; omega, by simpa only [PyData.leavesShort] using a4, by simpa only [PyData.weight] using a5⟩
theorem Sh.mono {B n m n' m' : Nat} {d : PyData} (h : Sh B n m d) (h1 : n ≤ n') (h2 : m ≤ m') : Sh B n' m' d := ⟨h.sh, h.nd, Nat.le_trans h.dp h1, h.ls, Nat.le_trans h.wt h2⟩
theorem Sh.none {B : Nat} : Sh B 0 0 .none := ⟨by simp only [PyData.showable], by simp only [PyData.hasDict], by simp only [PyData.depth]; omega, by simp only [PyData.leavesShort], by simp only [PyData.weight]; omega⟩
theorem Sh.chr {B c : Nat} (h : c ≤ 122) : Sh B 0 1 (.str ⟨#[c]⟩) := ⟨by simp only [PyData.showable], by simp only [PyData.hasDict], by simp only [PyData.depth]; omega, by
  simp only [PyData.leavesShort]
  show [c].all (fun c => decide (c < 16 ^ 8)) = true
  have : c < 16 ^ 8 := Nat.lt_of_le_of_lt h (by decide)
  simp only [List.all_cons, List.all_nil, Bool.and_true, decide_eq_true_eq]
  exact this, by simp only [PyData.weight]; exact Nat.le_refl 1⟩
theorem Sh.int {i : Int} (h : i.natAbs < 10 ^ 12) : Sh 13 0 40 (.int i) := by
  have l : i.natAbs.log2 < 40 := by
    by_cases z : i.natAbs = 0
    · rw [z]
      decide
    · exact (Nat.log2_lt z).mpr (Nat.lt_of_lt_of_le h (by decide))
  refine ⟨?_, by simp only [PyData.hasDict], by simp only [PyData.depth]; omega, ?_, ?_⟩
  · simp only [PyData.showable, decide_eq_true_eq]
    omega
  · simp only [PyData.leavesShort, decide_eq_true_eq]
    exact PyData.shown_int_le h
  · simp only [PyData.weight]
    split
    · omega
    · omega
theorem Sh.fits {n m : Nat} {d : PyData} (h : Sh 13 n m d) (hm : m ≤ 2 ^ 20) : d.shown.length ≤ sizeLine := PyData.shown_fits (by decide) (by decide) h.ls (Nat.le_trans h.wt hm)
theorem rd_repr {K : PySem.W.Frag} {H : Hp} {Q : VK} {a : Addr} {n m : Nat} {d : PyData} (hd : Dp K H (.ref a) d) (h : Sh 13 n m d) (hn : n ≤ 20) (hm : m ≤ 2 ^ 20) (q : Q (.str d.shown) H) : qRepr K [.ref a] H Q :=
  ⟨_, d, rfl, ⟨a, rfl⟩, hd, h.sh, h.nd, Nat.le_trans h.dp hn, h.fits hm, q⟩
theorem sh_row {r : Row} (h : Vr r) : Sh 13 2 (60 * 83) (dR r) := by
  have e : ∀ x ∈ r.map dE, Sh 13 1 82 x := fun x hx => by
    obtain ⟨y, hy, rfl⟩ := List.mem_map.mp hx
    refine (Sh.tuple (xs := [.int (y.1 : Int), .str ⟨#[y.2]⟩]) (n := 0) (m := 40) fun z hz => ?_).mono (Nat.le_refl _) (show 2 * 41 ≤ 82 by decide)
    have hl := h.col y hy
    have hp := h.lt hy
    have h60 := h.n2
    rcases List.mem_cons.mp hz with c | c
    · rw [c]
      exact Sh.int (by have : (10 : Nat) ^ 12 = 1000000000000 := by decide
                       omega)
    · rw [List.mem_singleton.mp c]
      exact (Sh.chr hl.2).mono (Nat.le_refl _) (by decide)
  refine (Sh.list e).mono (Nat.le_refl _) ?_
  rw [List.length_map]
  exact Nat.mul_le_mul_right 83 h.n2
/-- letters or None -/
def dO : Option Nat → PyData
  | none => .none
  | some c => .str ⟨#[c]⟩
theorem dp_opt {K : PySem.W.Frag} {H : Hp} (o : Option Nat) : Dp K H (oV o) (dO o) := by
  cases o with
  | none => exact .non
  | some c => exact .str _
theorem dp_opts {K : PySem.W.Frag} {H : Hp} : ∀ os : List (Option Nat), DpAll K H (os.map oV) (os.map dO)
  | [] => .nil
  | o :: os => .cons (dp_opt o) (dp_opts os)
theorem sh_opt {o : Option Nat} (h : ∀ c, o = some c → c ≤ 122) : Sh 13 0 1 (dO o) := by
  cases o with
  | none => exact Sh.none.mono (Nat.le_refl _) (by decide)
  | some c => exact Sh.chr (h c rfl)
theorem sh_opts {os : List (Option Nat)} (h : ∀ c, some c ∈ os → c ≤ 122) : Sh 13 1 (os.length * 2) (.list (os.map dO)) := by
  have := Sh.list (xs := os.map dO) (n := 0) (m := 1) (B := 13) fun x hx => by
    obtain ⟨o, ho, rfl⟩ := List.mem_map.mp hx
    exact sh_opt fun c e => h c (by rw [← e]; exact ho)
  rw [List.length_map] at this
  exact this
end LX
namespace K19
open PySem L2 LX
def top (i : Nat) : Stmt := PySem.Challenge.pw_lastother_k19_whole_renamed_lineups.main.body.getD i (.Pass ⟨0, 0, 0, 0⟩)
abbrev s__law_cells : Stmt := top 27
abbrev s__law_source : Stmt := top 25
abbrev s__law_draw : Stmt := top 26
abbrev s__law_row : Stmt := top 28
abbrev s__law_permutation : Stmt := top 30
abbrev s_is_integer : Stmt := top 5
abbrev s_is_color : Stmt := top 6
abbrev s_is_colored_integer : Stmt := top 12
abbrev s_is_lineup : Stmt := top 10
abbrev s_check_lineup : Stmt := top 11
abbrev s_is_person : Stmt := top 21
abbrev s_check_calls : Stmt := top 22
abbrev s_first_other_color : Stmt := top 13
abbrev s_colors_by_person : Stmt := top 14
abbrev s_apply_call : Stmt := top 20
abbrev s_colors_taken : Stmt := top 17
abbrev s_lineup_after : Stmt := top 18
abbrev s__law_letter : Stmt := top 31
abbrev s__law_renamed : Stmt := top 32
abbrev s_check_numbers : Stmt := top 23
abbrev s_runs_of : Stmt := top 7
abbrev s_shorten_calls : Stmt := top 19
abbrev s_colors_taken_by_each : Stmt := top 16
abbrev s__law_holds : Stmt := top 33
abbrev s__law_sequence : Stmt := top 29
abbrev s_law : Stmt := top 34
structure Ad where
  f__law_cells : Addr
  d__law_cells : FuncData
  f__law_source : Addr
  d__law_source : FuncData
  f__law_draw : Addr
  d__law_draw : FuncData
  f__law_row : Addr
  d__law_row : FuncData
  f__law_permutation : Addr
  d__law_permutation : FuncData
  f_is_integer : Addr
  d_is_integer : FuncData
  f_is_color : Addr
  d_is_color : FuncData
  f_is_colored_integer : Addr
  d_is_colored_integer : FuncData
  f_is_lineup : Addr
  d_is_lineup : FuncData
  f_check_lineup : Addr
  d_check_lineup : FuncData
  f_is_person : Addr
  d_is_person : FuncData
  f_check_calls : Addr
  d_check_calls : FuncData
  f_first_other_color : Addr
  d_first_other_color : FuncData
  f_colors_by_person : Addr
  d_colors_by_person : FuncData
  f_apply_call : Addr
  d_apply_call : FuncData
  f_colors_taken : Addr
  d_colors_taken : FuncData
  f_lineup_after : Addr
  d_lineup_after : FuncData
  f__law_letter : Addr
  d__law_letter : FuncData
  f__law_renamed : Addr
  d__law_renamed : FuncData
  f_check_numbers : Addr
  d_check_numbers : FuncData
  f_runs_of : Addr
  d_runs_of : FuncData
  f_shorten_calls : Addr
  d_shorten_calls : FuncData
  f_colors_taken_by_each : Addr
  d_colors_taken_by_each : FuncData
  f__law_holds : Addr
  d__law_holds : FuncData
  f__law_sequence : Addr
  d__law_sequence : FuncData
  f_law : Addr
  d_law : FuncData
  t_MOST_PEOPLE : Tok
structure Txt (K : PySem.W.Frag) (mg : Str → Option Value) (a : Ad) : Prop where
  b_bool : mg "bool" = none
  b_enumerate : mg "enumerate" = none
  b_int : mg "int" = none
  b_isinstance : mg "isinstance" = none
  b_len : mg "len" = none
  b_list : mg "list" = none
  b_max : mg "max" = none
  b_min : mg "min" = none
  b_range : mg "range" = none
  b_sorted : mg "sorted" = none
  b_str : mg "str" = none
  b_tuple : mg "tuple" = none
  b_type : mg "type" = none
  c_MOST_PEOPLE : mg "MOST_PEOPLE" = some (.int 60 a.t_MOST_PEOPLE)
  F__law_cells : Fun K "_law_cells" "_law_cells" s__law_cells a.f__law_cells a.d__law_cells
  n__law_cells : Binds K a.d__law_cells ["script", "count"] []
  g__law_cells : mg "_law_cells" = some (.ref a.f__law_cells)
  k__law_cells : PySem.W.keepIn K (.ref a.f__law_cells) = true
  F__law_source : Fun K "_law_source" "_law_source" s__law_source a.f__law_source a.d__law_source
  n__law_source : Binds K a.d__law_source ["cell", "index"] []
  g__law_source : mg "_law_source" = some (.ref a.f__law_source)
  k__law_source : PySem.W.keepIn K (.ref a.f__law_source) = true
  F__law_draw : Fun K "_law_draw" "_law_draw" s__law_draw a.f__law_draw a.d__law_draw
  n__law_draw : Binds K a.d__law_draw ["source", "count"] []
  g__law_draw : mg "_law_draw" = some (.ref a.f__law_draw)
  k__law_draw : PySem.W.keepIn K (.ref a.f__law_draw) = true
  F__law_row : Fun K "_law_row" "_law_row" s__law_row a.f__law_row a.d__law_row
  n__law_row : Binds K a.d__law_row ["source", "script", "limit"] []
  g__law_row : mg "_law_row" = some (.ref a.f__law_row)
  k__law_row : PySem.W.keepIn K (.ref a.f__law_row) = true
  F__law_permutation : Fun K "_law_permutation" "_law_permutation" s__law_permutation a.f__law_permutation a.d__law_permutation
  n__law_permutation : Binds K a.d__law_permutation ["source", "size"] []
  g__law_permutation : mg "_law_permutation" = some (.ref a.f__law_permutation)
  k__law_permutation : PySem.W.keepIn K (.ref a.f__law_permutation) = true
  F_is_integer : Fun K "is_integer" "is_integer" s_is_integer a.f_is_integer a.d_is_integer
  n_is_integer : Binds K a.d_is_integer ["value"] []
  g_is_integer : mg "is_integer" = some (.ref a.f_is_integer)
  k_is_integer : PySem.W.keepIn K (.ref a.f_is_integer) = true
  F_is_color : Fun K "is_color" "is_color" s_is_color a.f_is_color a.d_is_color
  n_is_color : Binds K a.d_is_color ["value"] []
  g_is_color : mg "is_color" = some (.ref a.f_is_color)
  k_is_color : PySem.W.keepIn K (.ref a.f_is_color) = true
  F_is_colored_integer : Fun K "is_colored_integer" "is_colored_integer" s_is_colored_integer a.f_is_colored_integer a.d_is_colored_integer
  n_is_colored_integer : Binds K a.d_is_colored_integer ["value"] []
  g_is_colored_integer : mg "is_colored_integer" = some (.ref a.f_is_colored_integer)
  k_is_colored_integer : PySem.W.keepIn K (.ref a.f_is_colored_integer) = true
  F_is_lineup : Fun K "is_lineup" "is_lineup" s_is_lineup a.f_is_lineup a.d_is_lineup
  n_is_lineup : Binds K a.d_is_lineup ["value"] []
  g_is_lineup : mg "is_lineup" = some (.ref a.f_is_lineup)
  k_is_lineup : PySem.W.keepIn K (.ref a.f_is_lineup) = true
  F_check_lineup : Fun K "check_lineup" "check_lineup" s_check_lineup a.f_check_lineup a.d_check_lineup
  n_check_lineup : Binds K a.d_check_lineup ["value"] []
  g_check_lineup : mg "check_lineup" = some (.ref a.f_check_lineup)
  k_check_lineup : PySem.W.keepIn K (.ref a.f_check_lineup) = true
  F_is_person : Fun K "is_person" "is_person" s_is_person a.f_is_person a.d_is_person
  n_is_person : Binds K a.d_is_person ["lineup", "value"] []
  g_is_person : mg "is_person" = some (.ref a.f_is_person)
  k_is_person : PySem.W.keepIn K (.ref a.f_is_person) = true
  F_check_calls : Fun K "check_calls" "check_calls" s_check_calls a.f_check_calls a.d_check_calls
  n_check_calls : Binds K a.d_check_calls ["lineup", "value"] []
  g_check_calls : mg "check_calls" = some (.ref a.f_check_calls)
  k_check_calls : PySem.W.keepIn K (.ref a.f_check_calls) = true
  F_first_other_color : Fun K "first_other_color" "first_other_color" s_first_other_color a.f_first_other_color a.d_first_other_color
  n_first_other_color : Binds K a.d_first_other_color ["lineup", "color"] []
  g_first_other_color : mg "first_other_color" = some (.ref a.f_first_other_color)
  k_first_other_color : PySem.W.keepIn K (.ref a.f_first_other_color) = true
  F_colors_by_person : Fun K "colors_by_person" "colors_by_person" s_colors_by_person a.f_colors_by_person a.d_colors_by_person
  n_colors_by_person : Binds K a.d_colors_by_person ["lineup"] []
  g_colors_by_person : mg "colors_by_person" = some (.ref a.f_colors_by_person)
  k_colors_by_person : PySem.W.keepIn K (.ref a.f_colors_by_person) = true
  F_apply_call : Fun K "apply_call" "apply_call" s_apply_call a.f_apply_call a.d_apply_call
  n_apply_call : Binds K a.d_apply_call ["lineup", "person"] []
  g_apply_call : mg "apply_call" = some (.ref a.f_apply_call)
  k_apply_call : PySem.W.keepIn K (.ref a.f_apply_call) = true
  F_colors_taken : Fun K "colors_taken" "colors_taken" s_colors_taken a.f_colors_taken a.d_colors_taken
  n_colors_taken : Binds K a.d_colors_taken ["lineup", "calls"] []
  g_colors_taken : mg "colors_taken" = some (.ref a.f_colors_taken)
  k_colors_taken : PySem.W.keepIn K (.ref a.f_colors_taken) = true
  F_lineup_after : Fun K "lineup_after" "lineup_after" s_lineup_after a.f_lineup_after a.d_lineup_after
  n_lineup_after : Binds K a.d_lineup_after ["lineup", "calls"] []
  g_lineup_after : mg "lineup_after" = some (.ref a.f_lineup_after)
  k_lineup_after : PySem.W.keepIn K (.ref a.f_lineup_after) = true
  F__law_letter : Fun K "_law_letter" "_law_letter" s__law_letter a.f__law_letter a.d__law_letter
  n__law_letter : Binds K a.d__law_letter ["letters", "color"] []
  g__law_letter : mg "_law_letter" = some (.ref a.f__law_letter)
  k__law_letter : PySem.W.keepIn K (.ref a.f__law_letter) = true
  F__law_renamed : Fun K "_law_renamed" "_law_renamed" s__law_renamed a.f__law_renamed a.d__law_renamed
  n__law_renamed : Binds K a.d__law_renamed ["row", "numbers", "letters"] []
  g__law_renamed : mg "_law_renamed" = some (.ref a.f__law_renamed)
  k__law_renamed : PySem.W.keepIn K (.ref a.f__law_renamed) = true
  F_check_numbers : Fun K "check_numbers" "check_numbers" s_check_numbers a.f_check_numbers a.d_check_numbers
  n_check_numbers : Binds K a.d_check_numbers ["value"] []
  g_check_numbers : mg "check_numbers" = some (.ref a.f_check_numbers)
  k_check_numbers : PySem.W.keepIn K (.ref a.f_check_numbers) = true
  F_runs_of : Fun K "runs_of" "runs_of" s_runs_of a.f_runs_of a.d_runs_of
  n_runs_of : Binds K a.d_runs_of ["row"] []
  g_runs_of : mg "runs_of" = some (.ref a.f_runs_of)
  k_runs_of : PySem.W.keepIn K (.ref a.f_runs_of) = true
  F_shorten_calls : Fun K "shorten_calls" "shorten_calls" s_shorten_calls a.f_shorten_calls a.d_shorten_calls
  n_shorten_calls : Binds K a.d_shorten_calls ["calls"] []
  g_shorten_calls : mg "shorten_calls" = some (.ref a.f_shorten_calls)
  k_shorten_calls : PySem.W.keepIn K (.ref a.f_shorten_calls) = true
  F_colors_taken_by_each : Fun K "colors_taken_by_each" "colors_taken_by_each" s_colors_taken_by_each a.f_colors_taken_by_each a.d_colors_taken_by_each
  n_colors_taken_by_each : Binds K a.d_colors_taken_by_each ["lineup"] []
  g_colors_taken_by_each : mg "colors_taken_by_each" = some (.ref a.f_colors_taken_by_each)
  k_colors_taken_by_each : PySem.W.keepIn K (.ref a.f_colors_taken_by_each) = true
  F__law_holds : Fun K "_law_holds" "_law_holds" s__law_holds a.f__law_holds a.d__law_holds
  n__law_holds : Binds K a.d__law_holds ["source", "row", "sequence"] []
  g__law_holds : mg "_law_holds" = some (.ref a.f__law_holds)
  k__law_holds : PySem.W.keepIn K (.ref a.f__law_holds) = true
  F__law_sequence : Fun K "_law_sequence" "_law_sequence" s__law_sequence a.f__law_sequence a.d__law_sequence
  n__law_sequence : Binds K a.d__law_sequence ["source", "size", "limit"] []
  g__law_sequence : mg "_law_sequence" = some (.ref a.f__law_sequence)
  k__law_sequence : PySem.W.keepIn K (.ref a.f__law_sequence) = true
  F_law : Fun K "law" "law" s_law a.f_law a.d_law
  n_law : Binds K a.d_law ["script"] []
  g_law : mg "law" = some (.ref a.f_law)
  k_law : PySem.W.keepIn K (.ref a.f_law) = true
theorem sc__law_cells : FnScope ["script", "count"] ["script", "count"] (defScope s__law_cells) := ⟨rfl, rfl, rfl, by decide +kernel, rfl, by decide +kernel, by decide +kernel⟩
theorem sc__law_source : FnScope ["cell", "index"] ["cell", "index"] (defScope s__law_source) := ⟨rfl, rfl, rfl, by decide +kernel, rfl, by decide +kernel, by decide +kernel⟩
theorem sc__law_draw : FnScope ["source", "count", "value"] ["source", "count"] (defScope s__law_draw) := ⟨rfl, rfl, rfl, by decide +kernel, rfl, by decide +kernel, by decide +kernel⟩
theorem sc__law_row : FnScope ["source", "script", "limit", "letters", "size", "width", "sizes", "start", "left", "k"] ["source", "script", "limit"] (defScope s__law_row) := ⟨rfl, rfl, rfl, by decide +kernel, rfl, by decide +kernel, by decide +kernel⟩
theorem sc__law_permutation : FnScope ["source", "size", "left", "k"] ["source", "size"] (defScope s__law_permutation) := ⟨rfl, rfl, rfl, by decide +kernel, rfl, by decide +kernel, by decide +kernel⟩
theorem sc_is_integer : FnScope ["value"] ["value"] (defScope s_is_integer) := ⟨rfl, rfl, rfl, by decide +kernel, rfl, by decide +kernel, by decide +kernel⟩
theorem sc_is_color : FnScope ["value"] ["value"] (defScope s_is_color) := ⟨rfl, rfl, rfl, by decide +kernel, rfl, by decide +kernel, by decide +kernel⟩
theorem sc_is_colored_integer : FnScope ["value"] ["value"] (defScope s_is_colored_integer) := ⟨rfl, rfl, rfl, by decide +kernel, rfl, by decide +kernel, by decide +kernel⟩
theorem sc_is_lineup : FnScope ["value", "item", "person", "_"] ["value"] (defScope s_is_lineup) := ⟨rfl, rfl, rfl, by decide +kernel, rfl, by decide +kernel, by decide +kernel⟩
theorem sc_check_lineup : FnScope ["value"] ["value"] (defScope s_check_lineup) := ⟨rfl, rfl, rfl, by decide +kernel, rfl, by decide +kernel, by decide +kernel⟩
theorem sc_is_person : FnScope ["lineup", "value"] ["lineup", "value"] (defScope s_is_person) := ⟨rfl, rfl, rfl, by decide +kernel, rfl, by decide +kernel, by decide +kernel⟩
theorem sc_check_calls : FnScope ["lineup", "value", "index", "item"] ["lineup", "value"] (defScope s_check_calls) := ⟨rfl, rfl, rfl, by decide +kernel, rfl, by decide +kernel, by decide +kernel⟩
theorem sc_first_other_color : FnScope ["lineup", "color", "_", "worn"] ["lineup", "color"] (defScope s_first_other_color) := ⟨rfl, rfl, rfl, by decide +kernel, rfl, by decide +kernel, by decide +kernel⟩
theorem sc_colors_by_person : FnScope ["lineup", "colors", "person", "color"] ["lineup"] (defScope s_colors_by_person) := ⟨rfl, rfl, rfl, by decide +kernel, rfl, by decide +kernel, by decide +kernel⟩
theorem sc_apply_call : FnScope ["lineup", "person", "color", "taken", "others", "pair"] ["lineup", "person"] (defScope s_apply_call) := ⟨rfl, rfl, rfl, by decide +kernel, rfl, by decide +kernel, by decide +kernel⟩
theorem sc_colors_taken : FnScope ["lineup", "calls", "current", "colors", "person", "taken"] ["lineup", "calls"] (defScope s_colors_taken) := ⟨rfl, rfl, rfl, by decide +kernel, rfl, by decide +kernel, by decide +kernel⟩
theorem sc_lineup_after : FnScope ["lineup", "calls", "current", "person", "_"] ["lineup", "calls"] (defScope s_lineup_after) := ⟨rfl, rfl, rfl, by decide +kernel, rfl, by decide +kernel, by decide +kernel⟩
theorem sc__law_letter : FnScope ["letters", "color"] ["letters", "color"] (defScope s__law_letter) := ⟨rfl, rfl, rfl, by decide +kernel, rfl, by decide +kernel, by decide +kernel⟩
theorem sc__law_renamed : FnScope ["row", "numbers", "letters", "one", "color"] ["row", "numbers", "letters"] (defScope s__law_renamed) := ⟨rfl, rfl, rfl, by decide +kernel, rfl, by decide +kernel, by decide +kernel⟩
theorem sc_check_numbers : FnScope ["value", "index", "item"] ["value"] (defScope s_check_numbers) := ⟨rfl, rfl, rfl, by decide +kernel, rfl, by decide +kernel, by decide +kernel⟩
theorem sc_runs_of : FnScope ["row", "runs", "item"] ["row"] (defScope s_runs_of) := ⟨rfl, rfl, rfl, by decide +kernel, rfl, by decide +kernel, by decide +kernel⟩
theorem sc_shorten_calls : FnScope ["calls", "shorter", "number", "length"] ["calls"] (defScope s_shorten_calls) := ⟨rfl, rfl, rfl, by decide +kernel, rfl, by decide +kernel, by decide +kernel⟩
theorem sc_colors_taken_by_each : FnScope ["lineup", "color"] ["lineup"] (defScope s_colors_taken_by_each) := ⟨rfl, rfl, rfl, by decide +kernel, rfl, by decide +kernel, by decide +kernel⟩
theorem sc__law_holds : FnScope ["source", "row", "sequence", "numbers", "letters", "other", "other_sequence", "colors", "later", "each", "other_each", "longer", "k", "who", "color"] ["source", "row", "sequence"] (defScope s__law_holds) := ⟨rfl, rfl, rfl, by decide +kernel, rfl, by decide +kernel, by decide +kernel⟩
theorem sc__law_sequence : FnScope ["source", "size", "limit", "kind", "one", "two", "sequence", "k", "who", "often"] ["source", "size", "limit"] (defScope s__law_sequence) := ⟨rfl, rfl, rfl, by decide +kernel, rfl, by decide +kernel, by decide +kernel⟩
theorem sc_law : FnScope ["script", "cells", "k", "source", "turn", "row"] ["script"] (defScope s_law) := ⟨rfl, rfl, rfl, by decide +kernel, rfl, by decide +kernel, by decide +kernel⟩
end K19

namespace K19
open PySem L2 LX
local macro_rules | `(tactic| walk_at "rd") => `(tactic| repeat (first
  | with_reducible refine rd_var rfl ?_ | with_reducible refine rd_c ?_ | with_reducible refine rd_op ?_ | with_reducible refine rd_un ?_ | with_reducible refine rd_I0 ?_ | with_reducible refine rd_U ?_
  | with_reducible refine rd_test ?_ | with_reducible refine rd_tB ?_ | with_reducible refine rd_bl ?_ | with_reducible refine rd_chain ?_
  | with_reducible refine rd_and ?_ | with_reducible refine rd_or ?_ | with_reducible refine rd_not ?_ | with_reducible refine rd_andV ?_ | with_reducible refine rd_orV ?_ | with_reducible refine rd_notV ?_
  | with_reducible refine rd_next ?_ | with_reducible refine rd_seq ?_ | with_reducible refine rd_drop ?_ | with_reducible refine rd_ret ?_ | with_reducible refine rd_ifS ?_ | with_reducible refine rd_asg ?_ | with_reducible refine rd_name ?_
  | with_reducible refine rd_par ?_ | with_reducible refine rd_two ?_ | with_reducible refine rd_2i ?_ | with_reducible refine rd_nil ?_ | with_reducible refine rd_cons ?_ | with_reducible refine rd_tup ?_ | with_reducible refine rd_lst ?_ | with_reducible refine rd_cb ?_ | with_reducible refine rd_call ?_
  | with_reducible refine rd_ixL (by assumption) rfl ?_ | with_reducible refine rd_ixT (by assumption) rfl ?_ | with_reducible refine rd_ixL upd_same rfl ?_ | with_reducible refine rd_sub ?_ | with_reducible refine rd_sl ?_ | with_reducible refine rd_nopart ?_ | with_reducible refine rd_part ?_ | with_reducible refine rd_int ?_
  | with_reducible refine rd_len (by assumption) ?_ | with_reducible refine rd_bm ?_ | with_reducible refine rd_bm0 ?_ | with_reducible refine rd_gcons ?_ | with_reducible refine rd_gnil ?_
  | ((with_reducible refine rd_I ?ci ?_); (case ci => first | assumption | (show (0 : Int) < _; decide) | exact Or.inl ⟨by decide, by decide⟩ | exact Or.inr ⟨by decide, by decide⟩ | exact ⟨by decide, by decide, (by decide : Int.natAbs 10 < 2 ^ 1000)⟩))
  | with_reducible refine rd_setL (by assumption) rfl ?_ | with_reducible refine rd_setL upd_same rfl ?_ | with_reducible refine rd_len upd_same ?_
  | with_reducible refine rd_2ty ?_ | with_reducible refine rd_NT ?_ | with_reducible refine rd_2s ?_ | with_reducible refine rd_lenS ?_ | with_reducible refine rd_lenT (by assumption) ?_ | ((with_reducible refine rd_typ ?ct ?_); (case ct => rfl))
  | ((with_reducible refine rd_eq ?cs ?_); (case cs => rfl)) | ((with_reducible refine rd_ne ?cs ?_); (case cs => rfl))
  | with_reducible refine rd_qtru ?_ | with_reducible refine rd_lstRg ?_ | with_reducible refine rd_rg1 ?_ | with_reducible refine rd_tyes ?_ | with_reducible refine rd_tyL (by assumption) ?_ | with_reducible refine rd_tyT (by assumption) ?_
  | with_reducible refine iteT ?_ | with_reducible refine iteF ?_ | with_reducible refine rd_nt ?_ | with_reducible refine rd_nf ?_
  | (dsimp only)))

variable {P : Program} {w : World} {K : PySem.W.Frag} {mg : Str → Option Value} {base : Heap} {a : Ad}
def sp__law_source (K : PySem.W.Frag) : Sp := fun vs H Q _ => ∃ (c k : Int), vs = [.int c, .int k] ∧ 0 ≤ k ∧ k ≤ 100 ∧ ∀ p H', H p = none → Src H' p → (∀ b, b ≠ p → H' b = H b) → Q (.ref p) H'
theorem bnd_source (c k : Int) (h0 : 0 ≤ k) (h1 : k ≤ 100) : ((c % (10 ^ 38 + 133)) ^ 3 + 582749 * k + 223606797749978969).natAbs < 2 ^ 400 := by
  have a0 := Int.emod_nonneg c (show (10 ^ 38 + 133 : Int) ≠ 0 by decide)
  have a1 := Int.emod_lt_of_pos c (show (0 : Int) < 10 ^ 38 + 133 by decide)
  generalize c % (10 ^ 38 + 133) = x at a0 a1
  have b1 : x ^ 2 ≤ (10 ^ 39) * (10 ^ 39) := by
    rw [Int.pow_succ, Int.pow_one]
    exact Int.mul_le_mul (by omega) (by omega) a0 (by decide)
  have b2 : x ^ 3 ≤ (10 ^ 39) * (10 ^ 39) * (10 ^ 39) := by
    rw [Int.pow_succ]
    exact Int.mul_le_mul b1 (by omega) a0 (by decide)
  have b0 : 0 ≤ x ^ 3 := Int.pow_nonneg a0
  have e : (2 : Nat) ^ 400 = 2582249878086908589655919172003011874329705792829223512830659356540647622016841194629645353280137831435903171972747493376 := by decide
  rw [e]
  generalize x ^ 3 = y at b0 b2
  omega
theorem ok__law_source (T : Txt K mg a) : FnOk P w K mg base CX0 1 a.f__law_source a.d__law_source ["cell", "index"] (sp__law_source K) := by
  refine T.F__law_source.ok sc__law_source (fun vs H Q E h => ?_) (fun cdv A outer s H vs Q E hr h => ?_)
  · obtain ⟨c, k, rfl, _⟩ := h
    rfl
  · obtain ⟨c, k, rfl, k0, k1, kq⟩ := h
    have hu := hu_of hr
    have nd := sc__law_source.nd
    refine ⟨_, (pss_one (ps_ret (pe_lst (pa_cons (pe_callB (call_max2 rfl) (by rfl) T.b_max (by decide +kernel) (pa_cons pe_int (pa_cons (pe_op op_sub (pv 0) (pe_op op_powW pe_int pe_int)) pa_nil))) (pa_cons (pe_op op_add (pe_op op_add (pe_op op_powW (pe_op op_mod (pv 0) (pe_op op_add (pe_op op_powW pe_int pe_int) pe_int)) pe_int) (pe_op op_mul pe_int (pv 1))) pe_int) (pa_cons pe_int pa_nil)))))), ?_⟩
    walk_at "rd"
    refine rd_I (C := CPowW) ⟨by decide, by decide, ?_⟩ ?_
    · have a0 := Int.emod_nonneg c (show (10 ^ 38 + 133 : Int) ≠ 0 by decide)
      have a1 := Int.emod_lt_of_pos c (show (0 : Int) < 10 ^ 38 + 133 by decide)
      refine Nat.lt_of_lt_of_le (m := 2 ^ 200) ?_ (Nat.pow_le_pow_right (by decide) (by decide))
      show (c % (10 ^ 38 + 133)).natAbs < 2 ^ 200
      omega
    walk_at "rd"
    refine ⟨rd_sl_len (by simp only [List.length_cons, List.length_nil]; decide), fun p np => kq p _ np ⟨⟨_, _, _, upd_same, bnd_source c k k0 k1⟩⟩ fun b nb => upd_ne nb⟩
def sp__law_draw (K : PySem.W.Frag) : Sp := fun vs H Q _ => ∃ (p : Addr) (n : Int), vs = [.ref p, .int n] ∧ Src H p ∧ 0 < n ∧ n < 2 ^ 60 ∧
  ∀ (r : Int) H', 0 ≤ r → r < n → Src H' p → (∀ b, b ≠ p → H' b = H b) → Q (.int r) H'
theorem ok__law_draw (T : Txt K mg a) : FnOk P w K mg base CX0 1 a.f__law_draw a.d__law_draw ["source", "count"] (sp__law_draw K) := by
  refine T.F__law_draw.ok sc__law_draw (fun vs H Q E h => ?_) (fun cdv A outer s H vs Q E hr h => ?_)
  · obtain ⟨p, n, rfl, _⟩ := h
    rfl
  · obtain ⟨p, n, rfl, S, n0, n1, kq⟩ := h
    obtain ⟨s0, s1, s2, hp, hs1⟩ := S.ex
    have hu := hu_of hr
    have nd := sc__law_draw.nd
    have nw : n.natAbs < 2 ^ 60 := by omega
    refine ⟨_, (pss_cons (ps_if (pt_cmpR op_gt (pe_ix (kix_list (K := K)) (pv 0) pe_int (fun _ _ => rfl)) pe_int (nomark _)) (pss_cons (ps_set (i := 2) nd rfl (Or.inl rfl) (pe_op op_mod (pe_ix (kix_list (K := K)) (pv 0) pe_int (fun _ _ => rfl)) (pv 1)))
      (pss_cons (ps_asg (pe_op op_fdivW (pe_ix (kix_list (K := K)) (pv 0) pe_int (fun _ _ => rfl)) (pv 1)) (pg_sub (pv 0) pe_int set_list))
      (pss_one (ps_ret (pv 2))))) pss_nil)
      (pss_cons (ps_asg (pe_op op_add (pe_ix (kix_list (K := K)) (pv 0) pe_int (fun _ _ => rfl)) pe_int) (pg_sub (pv 0) pe_int set_list))
      (pss_cons (ps_asg (pe_op op_mod (pe_op op_add (pe_op op_add (pe_op op_powW (pe_ix (kix_list (K := K)) (pv 0) pe_int (fun _ _ => rfl)) pe_int) (pe_op op_mul pe_int (pe_ix (kix_list (K := K)) (pv 0) pe_int (fun _ _ => rfl)))) pe_int) (pe_op op_add (pe_op op_powW pe_int pe_int) pe_int)) (pg_sub (pv 0) pe_int set_list))
      (pss_one (ps_ret (pe_op op_mod (pe_op op_fdivW (pe_ix (kix_list (K := K)) (pv 0) pe_int (fun _ _ => rfl)) (pe_op op_powW pe_int pe_int)) (pv 1))))))), ?_⟩
    walk_at "rd"
    refine rd_dec (fun c => ?_) fun c => ?_
    · walk_at "rd"
      refine rd_I (wide_div n0 nw (by decide) (by decide)) ?_
      walk_at "rd"
      exact kq _ _ (Int.emod_nonneg _ (by omega)) (Int.emod_lt_of_pos _ n0) ⟨⟨_, _, _, upd_same, hs1⟩⟩ fun b nb => upd_ne nb
    · walk_at "rd"
      refine rd_I ⟨by decide, by decide, Nat.lt_of_lt_of_le hs1 (Nat.pow_le_pow_right (by decide) (by decide))⟩ ?_
      walk_at "rd"
      refine rd_I (wide_div (b := 60) (by decide) (by decide) (by decide) (by decide)) ?_
      walk_at "rd"
      refine kq _ _ (Int.emod_nonneg _ (by omega)) (Int.emod_lt_of_pos _ n0) ⟨⟨_, _, _, upd_same, ?_⟩⟩ fun b nb => ?_
      · have e : (10 ^ Int.toNat 33 + 61 : Int) = 1000000000000000000000000000000061 := by decide
        rw [e]
        have a0 := Int.emod_nonneg (s1 ^ Int.toNat 3 + 370248451 * (s2 + 1) + 5) (show (1000000000000000000000000000000061 : Int) ≠ 0 by decide)
        have a1 := Int.emod_lt_of_pos (s1 ^ Int.toNat 3 + 370248451 * (s2 + 1) + 5) (show (0 : Int) < 1000000000000000000000000000000061 by decide)
        generalize (s1 ^ Int.toNat 3 + 370248451 * (s2 + 1) + 5) % 1000000000000000000000000000000061 = x at a0 a1 ⊢
        have e2 : (2 : Nat) ^ 400 = 2582249878086908589655919172003011874329705792829223512830659356540647622016841194629645353280137831435903171972747493376 := by decide
        rw [e2]
        omega
      · rw [upd_ne nb, upd_ne nb]
end K19

namespace K19
open PySem L2 LX
local macro_rules | `(tactic| walk_at "rd") => `(tactic| repeat (first
  | with_reducible refine rd_var rfl ?_ | with_reducible refine rd_c ?_ | with_reducible refine rd_op ?_ | with_reducible refine rd_un ?_ | with_reducible refine rd_I0 ?_ | with_reducible refine rd_U ?_
  | with_reducible refine rd_test ?_ | with_reducible refine rd_tB ?_ | with_reducible refine rd_bl ?_ | with_reducible refine rd_chain ?_
  | with_reducible refine rd_and ?_ | with_reducible refine rd_or ?_ | with_reducible refine rd_not ?_ | with_reducible refine rd_andV ?_ | with_reducible refine rd_orV ?_ | with_reducible refine rd_notV ?_
  | with_reducible refine rd_next ?_ | with_reducible refine rd_seq ?_ | with_reducible refine rd_drop ?_ | with_reducible refine rd_ret ?_ | with_reducible refine rd_ifS ?_ | with_reducible refine rd_asg ?_ | with_reducible refine rd_name ?_
  | with_reducible refine rd_par ?_ | with_reducible refine rd_two ?_ | with_reducible refine rd_2i ?_ | with_reducible refine rd_nil ?_ | with_reducible refine rd_cons ?_ | with_reducible refine rd_tup ?_ | with_reducible refine rd_lst ?_ | with_reducible refine rd_cb ?_ | with_reducible refine rd_call ?_
  | with_reducible refine rd_ixL (by assumption) rfl ?_ | with_reducible refine rd_ixT (by assumption) rfl ?_ | with_reducible refine rd_ixL upd_same rfl ?_ | with_reducible refine rd_sub ?_ | with_reducible refine rd_sl ?_ | with_reducible refine rd_nopart ?_ | with_reducible refine rd_part ?_ | with_reducible refine rd_int ?_
  | with_reducible refine rd_len (by assumption) ?_ | with_reducible refine rd_bm ?_ | with_reducible refine rd_bm0 ?_ | with_reducible refine rd_gcons ?_ | with_reducible refine rd_gnil ?_
  | ((with_reducible refine rd_I ?ci ?_); (case ci => first | assumption | (show (0 : Int) < _; decide) | exact Or.inl ⟨by decide, by decide⟩ | exact Or.inr ⟨by decide, by decide⟩ | exact ⟨by decide, by decide, (by decide : Int.natAbs 10 < 2 ^ 1000)⟩))
  | with_reducible refine rd_setL (by assumption) rfl ?_ | with_reducible refine rd_setL upd_same rfl ?_ | with_reducible refine rd_len upd_same ?_
  | with_reducible refine rd_2ty ?_ | with_reducible refine rd_NT ?_ | with_reducible refine rd_2s ?_ | with_reducible refine rd_lenS ?_ | with_reducible refine rd_lenT (by assumption) ?_ | ((with_reducible refine rd_typ ?ct ?_); (case ct => rfl))
  | ((with_reducible refine rd_eq ?cs ?_); (case cs => rfl)) | ((with_reducible refine rd_ne ?cs ?_); (case cs => rfl))
  | with_reducible refine rd_qtru ?_ | with_reducible refine rd_lstRg ?_ | with_reducible refine rd_rg1 ?_ | with_reducible refine rd_tyes ?_ | with_reducible refine rd_tyL (by assumption) ?_ | with_reducible refine rd_tyT (by assumption) ?_
  | with_reducible refine iteT ?_ | with_reducible refine iteF ?_ | with_reducible refine rd_nt ?_ | with_reducible refine rd_nf ?_
  | (dsimp only)))

variable {P : Program} {w : World} {K : PySem.W.Frag} {mg : Str → Option Value} {base : Heap} {a : Ad}
def sp_is_integer (K : PySem.W.Frag) : Sp := fun vs H Q _ => ∃ i : Int, vs = [.int i] ∧ Q (.bl true) H
theorem ok_is_integer (T : Txt K mg a) : FnOk P w K mg base CX0 1 a.f_is_integer a.d_is_integer ["value"] (sp_is_integer K) := by
  refine T.F_is_integer.ok sc_is_integer (fun vs H Q E h => ?_) (fun cdv A outer s H vs Q E hr h => ?_)
  · obtain ⟨i, rfl, _⟩ := h
    rfl
  · obtain ⟨i, rfl, kq⟩ := h
    have nd := sc_is_integer.nd
    refine ⟨_, (pss_one (ps_ret (pe_and (pe_callB (kisi (K := K)) (by rfl) T.b_isinstance (by decide +kernel) (pa_cons (pv 0) (pa_cons (pe_bltn (v := .ty "int") (by rfl) T.b_int (by decide +kernel) rfl) pa_nil))) (pe_one (pe_not (pe_callB (kisi (K := K)) (by rfl) T.b_isinstance (by decide +kernel) (pa_cons (pv 0) (pa_cons (pe_bltn (v := .ty "bool") (by rfl) T.b_bool (by decide +kernel) rfl) pa_nil)))))))), ?_⟩
    walk_at "rd"
    refine rd_isi (.ty "int") (.base (.int i)) (kit_ty (r := true) (by decide +kernel)) ?_
    walk_at "rd"
    refine rd_isi (.ty "bool") (.base (.int i)) (kit_ty (r := false) (by decide +kernel)) ?_
    walk_at "rd"
    exact kq
def sp_is_color (K : PySem.W.Frag) : Sp := fun vs H Q _ => ∃ c : Nat, vs = [sg c] ∧ 97 ≤ c ∧ c ≤ 122 ∧ Q (.bl true) H
theorem ok_is_color (T : Txt K mg a) : FnOk P w K mg base CX0 1 a.f_is_color a.d_is_color ["value"] (sp_is_color K) := by
  refine T.F_is_color.ok sc_is_color (fun vs H Q E h => ?_) (fun cdv A outer s H vs Q E hr h => ?_)
  · obtain ⟨i, rfl, _⟩ := h
    rfl
  · obtain ⟨c, rfl, c0, c1, kq⟩ := h
    have nd := sc_is_color.nd
    refine ⟨_, (pss_one (ps_ret (pe_and (pe_cmpR op_isTyB (pe_typeOf rfl T.b_type (pv 0)) (pe_bltn (v := .ty "str") (by rfl) T.b_str (by decide +kernel) rfl) (nomark _)) (pe_and (pe_cmpR op_eq (pe_callB call_len_str (by rfl) T.b_len (by decide +kernel) (pa_cons (pv 0) pa_nil)) pe_int (nomark _)) (pe_one (pe_chain op_le_str op_le_str pe_str (pv 0) pe_str)))))), ?_⟩
    walk_at "rd"
    refine rd_typ (n := "str") rfl ?_
    walk_at "rd"
    refine rd_yes rfl ?_
    walk_at "rd"
    refine ⟨by show 1 ≤ sizeLine; decide, ?_⟩
    walk_at "rd"
    refine rd_yes rfl ?_
    walk_at "rd"
    refine rd_ndec (fun k => ?_) fun k => absurd k ?_
    · walk_at "rd"
      have e : (!decide (([122] : List Nat) < [c])) = true := by
        rw [decide_eq_false] <;> first | rfl | skip
        intro z
        rcases List.cons_lt_cons_iff.mp z with z | z
        · omega
        · exact absurd z.2 (List.lt_irrefl _)
      have e2 : Q (.bl (!decide (([122] : List Nat) < [c]))) H := by
        rw [e]
        exact kq
      exact e2
    · intro z
      rcases List.cons_lt_cons_iff.mp (show ([c] : List Nat) < [97] from z) with z | z
      · omega
      · exact absurd z.2 (List.lt_irrefl _)
def sp_is_colored_integer (K : PySem.W.Frag) : Sp := fun vs H Q _ => ∃ (t : Addr) (e : Nat × Nat), vs = [.ref t] ∧ H t = some (.tup (pr e)) ∧ 97 ≤ e.2 ∧ e.2 ≤ 122 ∧ Q (.bl true) H
theorem ok_is_colored_integer (T : Txt K mg a) : FnOk P w K mg base CX0 2 a.f_is_colored_integer a.d_is_colored_integer ["value"] (sp_is_colored_integer K) := by
  refine T.F_is_colored_integer.ok sc_is_colored_integer (fun vs H Q E h => ?_) (fun cdv A outer s H vs Q E hr h => ?_)
  · obtain ⟨t, e, rfl, _⟩ := h
    rfl
  · obtain ⟨t, e, rfl, ht, c0, c1, kq⟩ := h
    have nd := sc_is_colored_integer.nd
    refine ⟨_, (pss_one (ps_ret (pe_and (pe_cmpR op_isTyB (pe_typeOf rfl T.b_type (pv 0)) (pe_bltn (v := .ty "tuple") (by rfl) T.b_tuple (by decide +kernel) rfl) (nomark _)) (pe_and (pe_cmpR op_eq (pe_callB (klen (K := K)) (by rfl) T.b_len (by decide +kernel) (pa_cons (pv 0) pa_nil)) pe_int (nomark _)) (pe_and (pe_call (ok_is_integer T) (hr.mono (by decide)) rfl T.g_is_integer T.k_is_integer T.n_is_integer .nil pass0 (pa_cons (pe_ix (kix_tup (K := K)) (pv 0) pe_int (fun _ _ => rfl)) pa_nil)) (pe_one (pe_call (ok_is_color T) (hr.mono (by decide)) rfl T.g_is_color T.k_is_color T.n_is_color .nil pass0 (pa_cons (pe_ix (kix_tup (K := K)) (pv 0) pe_int (fun _ _ => rfl)) pa_nil)))))))), ?_⟩
    walk_at "rd"
    refine rd_yes rfl ?_
    walk_at "rd"
    refine rd_yes rfl ?_
    walk_at "rd"
    refine ⟨_, rfl, ?_⟩
    walk_at "rd"
    refine ⟨_, rfl, c0, c1, kq⟩
def sp_first_other_color (K : PySem.W.Frag) : Sp := fun vs H Q _ => ∃ (l : Addr) (r : Row) (c : Nat), vs = [.ref l, sg c] ∧ RowAt H l r ∧ Q (oV (fo r c)) H
theorem ok_first_other_color (T : Txt K mg a) : FnOk P w K mg base CX0 1 a.f_first_other_color a.d_first_other_color ["lineup", "color"] (sp_first_other_color K) := by
  refine T.F_first_other_color.ok sc_first_other_color (fun vs H Q E h => ?_) (fun cdv A outer s H vs Q E hr h => ?_)
  · obtain ⟨l, r, c, rfl, _⟩ := h
    rfl
  · obtain ⟨l, r, c, rfl, ⟨ts, hl, ht⟩, kq⟩ := h
    have nd := sc_first_other_color.nd
    refine ⟨_, (pss_cons (ps_for PassesOwn.never rfl (kpi_list (K := K) (pv 0)) (kpg_tup (K := K) rfl (pgs_cons (pg_name (i := 2) nd rfl (Or.inl rfl)) (pgs_cons (pg_name (i := 3) nd rfl (Or.inl rfl)) pgs_nil))) (pss_one (ps_if (pt_cmpR op_ne (pv 3) (pv 1) (nomark _)) (pss_one (ps_ret (pv 3))) pss_nil)))
      (pss_one (ps_ret pe_non))), ?_⟩
    walk_at "rd"
    refine ⟨_, rfl, l, rfl, ⟨_, SqL.of hl⟩, for_list (K := K) (a := l) (xs := ts.map V.ref) (fun i σ H' => ∃ x y, σ = [some (.ref l), some (sg c), x, y] ∧ H' = H ∧ fo (r.drop i) c = fo r c)
      ⟨none, none, rfl, rfl, rfl⟩ (fun i σ H' _ ⟨_, _, _, e, _⟩ => e ▸ SqL.of hl) ?_ ?_⟩
    · rintro i v σ H' hi ⟨x, y, rfl, rfl, hf⟩
      rw [List.getElem?_map] at hi
      obtain ⟨t, h1, rfl⟩ := Option.map_eq_some_iff.mp hi
      obtain ⟨e, h2, h3⟩ := ht.get h1
      rw [drop_of h2] at hf
      refine rd_gtup h3 rfl ?_
      walk_at "rd"
      refine rd_ndec (fun k => ?_) fun k => ?_
      · walk_at "rd"
        have q : e.2 ≠ c := fun z => k (by rw [z])
        rw [fo_yes q] at hf
        rw [← hf] at kq
        exact kq
      · walk_at "rd"
        have q : e.2 = c := by
          injection k with k
          injection k with k
          injection k with k
          injection k with k
        rw [fo_no q] at hf
        exact ⟨_, _, rfl, rfl, hf⟩
    · rintro σ H' ⟨x, y, rfl, rfl, hf⟩
      rw [List.length_map, ht.len, List.drop_length] at hf
      walk_at "rd"
      rw [← hf] at kq
      exact kq
def sp_colors_by_person (K : PySem.W.Frag) : Sp := fun vs H Q _ => ∃ (l : Addr) (r : Row), vs = [.ref l] ∧ RowAt H l r ∧ Vr r ∧
  ∀ p H', H p = none → Same H H' → H' p = some (.lst (byPerson r)) → Q (.ref p) H'
theorem ok_colors_by_person (T : Txt K mg a) : FnOk P w K mg base CX0 1 a.f_colors_by_person a.d_colors_by_person ["lineup"] (sp_colors_by_person K) := by
  refine T.F_colors_by_person.ok sc_colors_by_person (fun vs H Q E h => ?_) (fun cdv A outer s H vs Q E hr h => ?_)
  · obtain ⟨l, r, rfl, _⟩ := h
    rfl
  · obtain ⟨l, r, rfl, ⟨ts, hl, ht⟩, V0, kq⟩ := h
    have nd := sc_colors_by_person.nd
    refine ⟨_, (pss_cons (ps_set (i := 1) nd rfl (Or.inl rfl) (pe_op op_rep (pe_lst (pa_cons pe_str pa_nil)) (pe_callB (klen (K := K)) (by rfl) T.b_len (by decide +kernel) (pa_cons (pv 0) pa_nil))))
      (pss_cons (ps_for PassesOwn.never rfl (kpi_list (K := K) (pv 0)) (kpg_tup (K := K) rfl (pgs_cons (pg_name (i := 2) nd rfl (Or.inl rfl)) (pgs_cons (pg_name (i := 3) nd rfl (Or.inl rfl)) pgs_nil))) (pss_one (ps_asg (pv 3) (pg_sub (pv 1) (pv 2) set_list))))
      (pss_one (ps_ret (pv 1))))), ?_⟩
    walk_at "rd"
    refine ⟨by show 1 ≤ sizeLine; decide, fun b hb => ?_⟩
    have hl' : ∀ o, upd H b o l = some (.lst (ts.map V.ref)) := fun o => by
      rw [upd_ne (ne_of_none hl hb)]
      exact hl
    walk_at "rd"
    refine rd_len (hl' _) ?_
    walk_at "rd"
    refine ⟨b, _, _, rfl, rfl, upd_same, by omega, ?_, ?_, fun q hq => ?_⟩
    · have := V0.n2
      rw [List.length_map, ht.len]
      omega
    · show 1 * (((ts.map V.ref).length : Nat) : Int).toNat ≤ sizeLine
      have := V0.n2
      rw [List.length_map, ht.len, Int.toNat_natCast]
      exact sz60 (by omega)
    have hqb : q ≠ b := fun z => by
      rw [z, upd_same] at hq
      cases hq
    have hqH : H q = none := by
      rw [upd_ne hqb] at hq
      exact hq
    have s1 : Same H (upd (upd H b (.lst [V.str (Str.ofString "")])) q (.lst (List.replicate (((ts.map V.ref).length : Nat) : Int).toNat [V.str (Str.ofString "")]).flatten)) := sUpd (sNew hb) hqH
    walk_at "rd"
    refine ⟨_, rfl, l, rfl, ⟨_, SqL.of (s1 _ _ hl)⟩, for_list (K := K) (a := l) (xs := ts.map V.ref) (fun i σ H' => ∃ x y, σ = [some (.ref l), some (.ref q), x, y] ∧ Same H H' ∧ H' q = some (.lst (fillC (List.replicate r.length (V.str (Str.ofString ""))) (r.take i))))
      ⟨none, none, rfl, s1, ?_⟩ (fun i σ H' _ ⟨_, _, _, e, _⟩ => SqL.of (e _ _ hl)) ?_ ?_⟩
    · rw [upd_same, List.length_map, ht.len, Int.toNat_natCast, flat_rep]
      rfl
    · rintro i v σ H' hi ⟨x, y, rfl, s2, hf⟩
      rw [List.getElem?_map] at hi
      obtain ⟨t, h1, rfl⟩ := Option.map_eq_some_iff.mp hi
      obtain ⟨e, h2, h3⟩ := ht.get h1
      refine rd_gtup (s2 _ _ h3) rfl ?_
      walk_at "rd"
      have hlt : e.1 < (fillC (List.replicate r.length (V.str (Str.ofString ""))) (r.take i)).length := by
        rw [fillC_len, List.length_replicate]
        exact V0.lt (getElem?_mem h2)
      refine rd_setL hf (ixN_nat hlt) ?_
      refine ⟨_, _, rfl, sUpd s2 hqH, ?_⟩
      rw [upd_same, take_of h2, fillC_snoc]
    · rintro σ H' ⟨x, y, rfl, s2, hf⟩
      walk_at "rd"
      rw [List.length_map, ht.len, List.take_length, fillC_is V0] at hf
      exact kq q H' hqH s2 hf
end K19

namespace K19
open PySem L2 LX
local macro_rules | `(tactic| walk_at "rd") => `(tactic| repeat (first
  | with_reducible refine rd_var rfl ?_ | with_reducible refine rd_c ?_ | with_reducible refine rd_op ?_ | with_reducible refine rd_un ?_ | with_reducible refine rd_I0 ?_ | with_reducible refine rd_U ?_
  | with_reducible refine rd_test ?_ | with_reducible refine rd_tB ?_ | with_reducible refine rd_bl ?_ | with_reducible refine rd_chain ?_
  | with_reducible refine rd_and ?_ | with_reducible refine rd_or ?_ | with_reducible refine rd_not ?_ | with_reducible refine rd_andV ?_ | with_reducible refine rd_orV ?_ | with_reducible refine rd_notV ?_
  | with_reducible refine rd_next ?_ | with_reducible refine rd_seq ?_ | with_reducible refine rd_drop ?_ | with_reducible refine rd_ret ?_ | with_reducible refine rd_ifS ?_ | with_reducible refine rd_asg ?_ | with_reducible refine rd_name ?_
  | with_reducible refine rd_par ?_ | with_reducible refine rd_two ?_ | with_reducible refine rd_2i ?_ | with_reducible refine rd_nil ?_ | with_reducible refine rd_cons ?_ | with_reducible refine rd_tup ?_ | with_reducible refine rd_lst ?_ | with_reducible refine rd_cb ?_ | with_reducible refine rd_call ?_
  | with_reducible refine rd_ixL (by assumption) rfl ?_ | with_reducible refine rd_ixT (by assumption) rfl ?_ | with_reducible refine rd_ixL upd_same rfl ?_ | with_reducible refine rd_sub ?_ | with_reducible refine rd_sl ?_ | with_reducible refine rd_nopart ?_ | with_reducible refine rd_part ?_ | with_reducible refine rd_int ?_
  | with_reducible refine rd_len (by assumption) ?_ | with_reducible refine rd_bm ?_ | with_reducible refine rd_bm0 ?_ | with_reducible refine rd_gcons ?_ | with_reducible refine rd_gnil ?_
  | ((with_reducible refine rd_I ?ci ?_); (case ci => first | assumption | (show (0 : Int) < _; decide) | exact Or.inl ⟨by decide, by decide⟩ | exact Or.inr ⟨by decide, by decide⟩ | exact ⟨by decide, by decide, (by decide : Int.natAbs 10 < 2 ^ 1000)⟩))
  | with_reducible refine rd_setL (by assumption) rfl ?_ | with_reducible refine rd_setL upd_same rfl ?_ | with_reducible refine rd_len upd_same ?_
  | with_reducible refine rd_2ty ?_ | with_reducible refine rd_NT ?_ | with_reducible refine rd_2s ?_ | with_reducible refine rd_lenS ?_ | with_reducible refine rd_lenT (by assumption) ?_ | ((with_reducible refine rd_typ ?ct ?_); (case ct => rfl))
  | ((with_reducible refine rd_eq ?cs ?_); (case cs => rfl)) | ((with_reducible refine rd_ne ?cs ?_); (case cs => rfl))
  | with_reducible refine rd_qtru ?_ | with_reducible refine rd_lstRg ?_ | with_reducible refine rd_rg1 ?_ | with_reducible refine rd_tyes ?_ | with_reducible refine rd_tyL (by assumption) ?_ | with_reducible refine rd_tyT (by assumption) ?_
  | with_reducible refine iteT ?_ | with_reducible refine iteF ?_ | with_reducible refine rd_nt ?_ | with_reducible refine rd_nf ?_
  | (dsimp only)))

variable {P : Program} {w : World} {K : PySem.W.Frag} {mg : Str → Option Value} {base : Heap} {a : Ad}
def sp_is_lineup (K : PySem.W.Frag) : Sp := fun vs H Q _ => ∃ (l : Addr) (r : Row), vs = [.ref l] ∧ RowAt H l r ∧ Vr r ∧ ∀ H', Same H H' → Q (.bl true) H'
theorem ok_is_lineup (T : Txt K mg a) : FnOk P w K mg base CX0 3 a.f_is_lineup a.d_is_lineup ["value"] (sp_is_lineup K) := by
  refine T.F_is_lineup.ok sc_is_lineup (fun vs H Q E h => ?_) (fun cdv A outer s H vs Q E hr h => ?_)
  · obtain ⟨l, r, rfl, _⟩ := h
    rfl
  · obtain ⟨l, r, rfl, ⟨ts, hl, ht⟩, V0, kq⟩ := h
    have nd := sc_is_lineup.nd
    have hu := hu_of hr
    have hu64 := hr.units
    have hlen : (ts.map V.ref).length = r.length := by rw [List.length_map, ht.len]
    refine ⟨_, (pss_cons (ps_if (PW.pt (pw_or (pt_cmpR op_notTyB (pe_typeOf rfl T.b_type (pv 0)) (pe_bltn (v := .ty "list") (by rfl) T.b_list (by decide +kernel) rfl) (nomark _)) (pw_or1 (pt_not (pt_chain op_le op_le pe_int (pe_callB (klen (K := K)) (by rfl) T.b_len (by decide +kernel) (pa_cons (pv 0) pa_nil)) (pe_glob (v := .int 60) rfl T.c_MOST_PEOPLE ⟨_, rfl⟩)))))) (pss_one (ps_ret pe_bl)) pss_nil)
      (pss_cons (ps_for PassesOwn.never rfl (kpi_list (K := K) (pv 0)) (pg_name (i := 1) nd rfl (Or.inl rfl)) (pss_one (ps_if (pt_not (pt_val (pe_call (ok_is_colored_integer T) (hr.mono (by decide)) rfl T.g_is_colored_integer T.k_is_colored_integer T.n_is_colored_integer .nil pass0 (pa_cons (pv 1) pa_nil)))) (pss_one (ps_ret pe_bl)) pss_nil)))
      (pss_one (ps_ret (pe_cmpR (keqD (K := K) hu64) (pe_callB (ksorted (K := K)) (by rfl) T.b_sorted (by decide +kernel) (pa_cons (pe_lc (own := [("person", 2), ("_", 3)]) (g := gTup K 2 (gCons (gName 2) (gCons (gName 3) gNil))) (tt := tYes) rfl nd (kpi_list (K := K) (pv 0)) (blkOk_by (own := [("person", 2), ("_", 3)]) (N := ["value", "item", "person", "_"]) (sc := defScope s_is_lineup) (by decide +kernel)) (fun _ _ _ _ _ => (kpg_tup (K := K) rfl (pgs_cons (pg_name (i := 2) nd rfl (Or.inl rfl)) (pgs_cons (pg_name (i := 3) nd rfl (Or.inl rfl)) pgs_nil)))) (fun _ _ _ _ _ => pts_nil) (fun _ _ _ _ _ => (pv 2))) pa_nil)) (pe_listRg rfl rfl T.b_list (prg_1 rfl T.b_range (pe_callB (klen (K := K)) (by rfl) T.b_len (by decide +kernel) (pa_cons (pv 0) pa_nil)))) (nomark _)))))), ?_⟩
    walk_at "rd"
    refine rd_ndec (fun k => absurd rfl k) fun _ => ?_
    walk_at "rd"
    refine rd_yes (by have := V0.n1; omega) ?_
    walk_at "rd"
    refine rd_ndec (fun k => absurd (by have := V0.n2; omega) k) fun _ => ?_
    walk_at "rd"
    refine ⟨_, rfl, l, rfl, ⟨_, SqL.of hl⟩, for_list (K := K) (a := l) (xs := ts.map V.ref) (fun i σ H' => ∃ x, σ = [some (.ref l), x, none, none] ∧ H' = H)
      ⟨none, rfl, rfl⟩ (fun i σ H' _ ⟨_, _, e⟩ => e ▸ SqL.of hl) ?_ ?_⟩
    · rintro i v σ H' hi ⟨x, rfl, rfl⟩
      rw [List.getElem?_map] at hi
      obtain ⟨t, h1, rfl⟩ := Option.map_eq_some_iff.mp hi
      obtain ⟨e, h2, h3⟩ := ht.get h1
      have ce := V0.col e (getElem?_mem h2)
      walk_at "rd"
      refine ⟨t, e, rfl, h3, ce.1, ce.2, ?_⟩
      walk_at "rd"
      exact ⟨_, rfl, rfl⟩
    · rintro σ H' ⟨x, rfl, rfl⟩
      walk_at "rd"
      refine ⟨_, rfl, l, rfl, ⟨_, SqL.of hl⟩, fun D hD => lc_list (K := K) (a := l) (xs := ts.map V.ref) (fun i H2 => H2 = upd H' D (.lst ((pI (r.take i)).map V.int))) rfl
        (fun i H2 _ e => by rw [e]; exact SqL.of ((sNew hD) _ _ hl)) ?_ ?_⟩
      · rintro i v H2 hi rfl
        rw [List.getElem?_map] at hi
        obtain ⟨t, h1, rfl⟩ := Option.map_eq_some_iff.mp hi
        obtain ⟨e, h2, h3⟩ := ht.get h1
        refine rd_gtup ((sNew hD) _ _ h3) rfl ?_
        walk_at "rd"
        refine ⟨rfl, ?_⟩
        walk_at "rd"
        refine ⟨_, upd_same, lt60 ?_, ?_⟩
        · have := (List.getElem?_eq_some_iff.mp h2).1
          have := V0.n2
          rw [List.length_map, List.length_map, List.length_take]
          omega
        · rw [upd_upd, take_of h2]
          simp only [pI, List.map_append, List.map_cons, List.map_nil]
      · rintro H2 rfl
        rw [hlen, List.take_length]
        walk_at "rd"
        refine ⟨D, pI r, rfl, SqL.of upd_same, fun ns q hp hs hq => ?_⟩
        have e1 := sorted_is V0 hp hs
        subst e1
        have sD : Same H' (upd H' D (.lst ((pI r).map V.int))) := sNew hD
        have s2 : Same H' (upd (upd H' D (.lst ((pI r).map V.int))) q (.lst ((rI' r.length).map V.int))) := fun b o e => (sNew hq) _ _ (sD _ _ e)
        walk_at "rd"
        refine rd_len (s2 _ _ hl) ?_
        walk_at "rd"
        refine ⟨RgOk.of_le (by omega) ?_ (by omega) (by omega), fun q2 hq2 => ?_⟩
        · have := V0.n2
          omega
        · rw [hlen, rgV_is]
          refine rd_eqD (d := dI (rI' r.length)) (.lst (SqL.of ((sNew hq2) _ _ upd_same)) (dp_ints _)) (.lst (SqL.of upd_same) (dp_ints _)) (shp_ints _) ?_
          exact kq _ fun b o e => (sNew hq2) _ _ (s2 _ _ e)
def sp_check_lineup (K : PySem.W.Frag) : Sp := fun vs H Q _ => ∃ (l : Addr) (r : Row), vs = [.ref l] ∧ RowAt H l r ∧ Vr r ∧ ∀ H', Same H H' → Q .non H'
theorem ok_check_lineup (T : Txt K mg a) : FnOk P w K mg base CX0 4 a.f_check_lineup a.d_check_lineup ["value"] (sp_check_lineup K) := by
  refine T.F_check_lineup.ok sc_check_lineup (fun vs H Q E h => ?_) (fun cdv A outer s H vs Q E hr h => ?_)
  · obtain ⟨l, r, rfl, _⟩ := h
    rfl
  · obtain ⟨l, r, rfl, hR, V0, kq⟩ := h
    have nd := sc_check_lineup.nd
    refine ⟨_, (pss_one (ps_if (pt_not (pt_val (pe_call (ok_is_lineup T) (hr.mono (by decide)) rfl T.g_is_lineup T.k_is_lineup T.n_is_lineup .nil pass0 (pa_cons (pv 0) pa_nil)))) pss_never pss_nil)), ?_⟩
    walk_at "rd"
    refine ⟨l, r, rfl, hR, V0, fun H' s1 => ?_⟩
    walk_at "rd"
    exact kq H' s1
def sp_is_person (K : PySem.W.Frag) : Sp := fun vs H Q _ => ∃ (l : Addr) (r : Row) (p : Nat), vs = [.ref l, .int (p : Int)] ∧ RowAt H l r ∧ p < r.length ∧ Q (.bl true) H
theorem ok_is_person (T : Txt K mg a) : FnOk P w K mg base CX0 2 a.f_is_person a.d_is_person ["lineup", "value"] (sp_is_person K) := by
  refine T.F_is_person.ok sc_is_person (fun vs H Q E h => ?_) (fun cdv A outer s H vs Q E hr h => ?_)
  · obtain ⟨l, r, p, rfl, _⟩ := h
    rfl
  · obtain ⟨l, r, p, rfl, ⟨ts, hl, ht⟩, hp, kq⟩ := h
    have nd := sc_is_person.nd
    have hlen : (ts.map V.ref).length = r.length := by rw [List.length_map, ht.len]
    refine ⟨_, (pss_one (ps_ret (pe_and (pe_call (ok_is_integer T) (hr.mono (by decide)) rfl T.g_is_integer T.k_is_integer T.n_is_integer .nil pass0 (pa_cons (pv 1) pa_nil)) (pe_one (pe_chain op_le op_lt pe_int (pv 1) (pe_callB (klen (K := K)) (by rfl) T.b_len (by decide +kernel) (pa_cons (pv 0) pa_nil))))))), ?_⟩
    walk_at "rd"
    refine ⟨_, rfl, ?_⟩
    walk_at "rd"
    refine rd_yes (by omega) ?_
    walk_at "rd"
    rw [decide_eq_true (by rw [hlen]; omega)]
    exact kq
def sp_check_calls (K : PySem.W.Frag) : Sp := fun vs H Q _ => ∃ (l c : Addr) (r : Row) (cs : List Nat), vs = [.ref l, .ref c] ∧ RowAt H l r ∧ H c = some (.lst (cs.map vN)) ∧ (∀ p ∈ cs, p < r.length) ∧
  ∀ H', Same H H' → Q .non H'
theorem ok_check_calls (T : Txt K mg a) : FnOk P w K mg base CX0 3 a.f_check_calls a.d_check_calls ["lineup", "value"] (sp_check_calls K) := by
  refine T.F_check_calls.ok sc_check_calls (fun vs H Q E h => ?_) (fun cdv A outer s H vs Q E hr h => ?_)
  · obtain ⟨l, c, r, cs, rfl, _⟩ := h
    rfl
  · obtain ⟨l, c, r, cs, rfl, hR, hc, hcs, kq⟩ := h
    have nd := sc_check_calls.nd
    refine ⟨_, (pss_cons (ps_if (pt_cmpR op_notTyB (pe_typeOf rfl T.b_type (pv 1)) (pe_bltn (v := .ty "list") (by rfl) T.b_list (by decide +kernel) rfl) (nomark _)) pss_never pss_nil)
      (pss_one (ps_for PassesOwn.never rfl (pi_enum rfl T.b_enumerate (pa_cons (pv 1) pa_nil)) (kpg_tup (K := K) rfl (pgs_cons (pg_name (i := 2) nd rfl (Or.inl rfl)) (pgs_cons (pg_name (i := 3) nd rfl (Or.inl rfl)) pgs_nil))) (pss_one (ps_if (pt_not (pt_val (pe_call (ok_is_person T) (hr.mono (by decide)) rfl T.g_is_person T.k_is_person T.n_is_person .nil pass0 (pa_cons (pv 0) (pa_cons (pv 3) pa_nil))))) pss_never pss_nil))))), ?_⟩
    walk_at "rd"
    refine rd_ndec (fun k => absurd rfl k) fun _ => ?_
    walk_at "rd"
    refine ⟨_, rfl, c, _, rfl, SqL.of hc, for_enum (K := K) (a := c) (xs := cs.map vN) (fun i σ H' => ∃ x y, σ = [some (.ref l), some (.ref c), x, y] ∧ Same H H')
      ⟨none, none, rfl, Same.refl H⟩ (fun i σ H' _ ⟨_, _, _, e⟩ => SqL.of (e _ _ hc)) ?_ ?_⟩
    · rintro i v t σ H' hi ⟨x, y, rfl, s1⟩ hT
      rw [List.getElem?_map] at hi
      obtain ⟨p, h1, rfl⟩ := Option.map_eq_some_iff.mp hi
      have s2 := fun o => Same.trans s1 (sNew (o := o) hT)
      refine rd_gtup upd_same rfl ?_
      walk_at "rd"
      refine ⟨l, r, p, rfl, hR.same (s2 _), hcs p (getElem?_mem h1), ?_⟩
      walk_at "rd"
      exact ⟨_, _, rfl, s2 _⟩
    · rintro σ H' ⟨x, y, rfl, s1⟩
      walk_at "rd"
      exact kq H' s1
end K19

namespace K19
open PySem L2 LX
local macro_rules | `(tactic| walk_at "rd") => `(tactic| repeat (first
  | with_reducible refine rd_var rfl ?_ | with_reducible refine rd_c ?_ | with_reducible refine rd_op ?_ | with_reducible refine rd_un ?_ | with_reducible refine rd_I0 ?_ | with_reducible refine rd_U ?_
  | with_reducible refine rd_test ?_ | with_reducible refine rd_tB ?_ | with_reducible refine rd_bl ?_ | with_reducible refine rd_chain ?_
  | with_reducible refine rd_and ?_ | with_reducible refine rd_or ?_ | with_reducible refine rd_not ?_ | with_reducible refine rd_andV ?_ | with_reducible refine rd_orV ?_ | with_reducible refine rd_notV ?_
  | with_reducible refine rd_next ?_ | with_reducible refine rd_seq ?_ | with_reducible refine rd_drop ?_ | with_reducible refine rd_ret ?_ | with_reducible refine rd_ifS ?_ | with_reducible refine rd_asg ?_ | with_reducible refine rd_name ?_
  | with_reducible refine rd_par ?_ | with_reducible refine rd_two ?_ | with_reducible refine rd_2i ?_ | with_reducible refine rd_nil ?_ | with_reducible refine rd_cons ?_ | with_reducible refine rd_tup ?_ | with_reducible refine rd_lst ?_ | with_reducible refine rd_cb ?_ | with_reducible refine rd_call ?_
  | with_reducible refine rd_ixL (by assumption) rfl ?_ | with_reducible refine rd_ixT (by assumption) rfl ?_ | with_reducible refine rd_ixL upd_same rfl ?_ | with_reducible refine rd_sub ?_ | with_reducible refine rd_sl ?_ | with_reducible refine rd_nopart ?_ | with_reducible refine rd_part ?_ | with_reducible refine rd_int ?_
  | with_reducible refine rd_len (by assumption) ?_ | with_reducible refine rd_bm ?_ | with_reducible refine rd_bm0 ?_ | with_reducible refine rd_gcons ?_ | with_reducible refine rd_gnil ?_
  | ((with_reducible refine rd_I ?ci ?_); (case ci => first | assumption | (show (0 : Int) < _; decide) | exact Or.inl ⟨by decide, by decide⟩ | exact Or.inr ⟨by decide, by decide⟩ | exact ⟨by decide, by decide, (by decide : Int.natAbs 10 < 2 ^ 1000)⟩))
  | with_reducible refine rd_setL (by assumption) rfl ?_ | with_reducible refine rd_setL upd_same rfl ?_ | with_reducible refine rd_len upd_same ?_
  | with_reducible refine rd_2ty ?_ | with_reducible refine rd_NT ?_ | with_reducible refine rd_2s ?_ | with_reducible refine rd_lenS ?_ | with_reducible refine rd_lenT (by assumption) ?_ | ((with_reducible refine rd_typ ?ct ?_); (case ct => rfl))
  | ((with_reducible refine rd_eq ?cs ?_); (case cs => rfl)) | ((with_reducible refine rd_ne ?cs ?_); (case cs => rfl))
  | with_reducible refine rd_qtru ?_ | with_reducible refine rd_lstRg ?_ | with_reducible refine rd_rg1 ?_ | with_reducible refine rd_tyes ?_ | with_reducible refine rd_tyL (by assumption) ?_ | with_reducible refine rd_tyT (by assumption) ?_
  | with_reducible refine iteT ?_ | with_reducible refine iteF ?_ | with_reducible refine rd_nt ?_ | with_reducible refine rd_nf ?_
  | (dsimp only)))

variable {P : Program} {w : World} {K : PySem.W.Frag} {mg : Str → Option Value} {base : Heap} {a : Ad}
def sp_colors_taken_by_each (K : PySem.W.Frag) : Sp := fun vs H Q _ => ∃ (l : Addr) (r : Row), vs = [.ref l] ∧ RowAt H l r ∧ Vr r ∧
  ∀ p H', H p = none → Same H H' → H' p = some (.lst (takenEach r)) → Q (.ref p) H'
theorem ok_colors_taken_by_each (T : Txt K mg a) : FnOk P w K mg base CX0 5 a.f_colors_taken_by_each a.d_colors_taken_by_each ["lineup"] (sp_colors_taken_by_each K) := by
  refine T.F_colors_taken_by_each.ok sc_colors_taken_by_each (fun vs H Q E h => ?_) (fun cdv A outer s H vs Q E hr h => ?_)
  · obtain ⟨l, r, rfl, _⟩ := h
    rfl
  · obtain ⟨l, r, rfl, hR, V0, kq⟩ := h
    have nd := sc_colors_taken_by_each.nd
    refine ⟨_, (pss_cons (ps_expr (pe_call (ok_check_lineup T) (hr.mono (by decide)) rfl T.g_check_lineup T.k_check_lineup T.n_check_lineup .nil pass0 (pa_cons (pv 0) pa_nil)))
      (pss_one (ps_ret (pe_lc (own := [("color", 1)]) (g := gName 1) (tt := tYes) rfl nd (kpi_list (K := K) (pe_call (ok_colors_by_person T) (hr.mono (by decide)) rfl T.g_colors_by_person T.k_colors_by_person T.n_colors_by_person .nil pass0 (pa_cons (pv 0) pa_nil))) (blkOk_by (own := [("color", 1)]) (N := ["lineup", "color"]) (sc := defScope s_colors_taken_by_each) (by decide +kernel)) (fun _ _ _ _ _ => (pg_name (i := 1) nd rfl (Or.inl rfl))) (fun _ _ _ _ _ => pts_nil) (fun _ _ _ _ _ => (pe_call (ok_first_other_color T) (hr.mono (by decide)) rfl T.g_first_other_color T.k_first_other_color T.n_first_other_color .nil pass0 (pa_cons (pv 0) (pa_cons (pv 1) pa_nil)))))))), ?_⟩
    walk_at "rd"
    refine ⟨l, r, rfl, hR, V0, fun H1 s1 => ?_⟩
    walk_at "rd"
    refine ⟨_, rfl, l, r, rfl, hR.same s1, V0, fun q H2 hq s2 hb => ⟨q, rfl, ⟨_, SqL.of hb⟩, fun D hD => lc_list (K := K) (a := q) (xs := byPerson r) (fun i H3 => H3 = upd H2 D (.lst ((takenEach r).take i))) rfl
      (fun i H3 _ e => by rw [e]; exact SqL.of ((sNew hD) _ _ hb)) ?_ ?_⟩⟩
    · rintro i v H3 hi rfl
      have hil : i < r.length := by
        have := (List.getElem?_eq_some_iff.mp hi).1
        unfold byPerson at this
        rw [List.length_map, List.length_range] at this
        exact this
      rw [byPerson_at hil] at hi
      cases hi
      walk_at "rd"
      refine ⟨rfl, ?_⟩
      walk_at "rd"
      refine ⟨l, r, _, rfl, ((hR.same s1).same s2).same (sNew hD), ?_⟩
      refine ⟨_, upd_same, lt60 ?_, ?_⟩
      · have := V0.n2
        rw [List.length_take]
        omega
      · rw [upd_upd, take_of (takenEach_at hil)]
    · rintro H3 rfl
      have e : (takenEach r).take (byPerson r).length = takenEach r := by
        apply List.take_of_length_le
        unfold takenEach byPerson
        rw [List.length_map, List.length_map, List.length_range]
        exact Nat.le_refl _
      rw [e]
      refine kq D _ ?_ (sUpd (s1.trans s2) ?_) upd_same
      · exact s1.free (s2.free hD)
      · exact s1.free (s2.free hD)
def sp_apply_call (K : PySem.W.Frag) : Sp := fun vs H Q _ => ∃ (l : Addr) (r : Row) (p : Nat), vs = [.ref l, vN p] ∧ RowAt H l r ∧ Vr r ∧ p < r.length ∧
  ∀ t L H', H t = none → H L = none → Same H H' → H' t = some (.tup [.ref L, oV (fo r (colOf r p))]) → RowAt H' L (app r p) → Q (.ref t) H'
theorem ok_apply_call (T : Txt K mg a) : FnOk P w K mg base CX0 2 a.f_apply_call a.d_apply_call ["lineup", "person"] (sp_apply_call K) := by
  refine T.F_apply_call.ok sc_apply_call (fun vs H Q E h => ?_) (fun cdv A outer s H vs Q E hr h => ?_)
  · obtain ⟨l, r, p, rfl, _⟩ := h
    rfl
  · obtain ⟨l, r, p, rfl, hR, V0, hp, kq⟩ := h
    have nd := sc_apply_call.nd
    refine ⟨_, (pss_cons (ps_set (i := 2) nd rfl (Or.inl rfl) (pe_ix (kix_list (K := K)) (pe_call (ok_colors_by_person T) (hr.mono (by decide)) rfl T.g_colors_by_person T.k_colors_by_person T.n_colors_by_person .nil pass0 (pa_cons (pv 0) pa_nil)) (pv 1) (fun _ _ => rfl)))
      (pss_cons (ps_set (i := 3) nd rfl (Or.inl rfl) (pe_call (ok_first_other_color T) (hr.mono (by decide)) rfl T.g_first_other_color T.k_first_other_color T.n_first_other_color .nil pass0 (pa_cons (pv 0) (pa_cons (pv 2) pa_nil))))
      (pss_cons (ps_setLc (i := 4) (own := [("pair", 5)]) (g := gName 5) rfl nd rfl rfl (sw_true rfl rfl rfl (by decide +kernel)) (kpi_list (K := K) (pv 0)) (blkOk_by (own := [("pair", 5)]) (N := ["lineup", "person", "color", "taken", "others", "pair"]) (sc := defScope s_apply_call) (by decide +kernel)) (fun _ _ _ _ _ => (pg_name (i := 5) nd rfl (Or.inl rfl))) (fun _ _ _ _ _ => pts_one (pt_cmpR op_ne (pe_ix (kix_tup (K := K)) (pv 5) pe_int (fun _ _ => rfl)) (pv 1) (nomark _))) (fun _ _ _ _ _ => (pv 5)))
      (pss_one (ps_ret (pe_tup (pa_cons (pe_op op_cat (pe_lst (pa_cons (pe_tup (pa_cons (pv 1) (pa_cons (pe_ifExp (pt_cmpR op_isN (pv 3) pe_non (nomark _)) (pv 2) (pv 3)) pa_nil))) pa_nil)) (pv 4)) (pa_cons (pv 3) pa_nil)))))))), ?_⟩
    walk_at "rd"
    refine ⟨l, r, rfl, hR, V0, fun q H1 hq s1 hb => ?_⟩
    walk_at "rd"
    refine rd_ixL hb (atI_nat (byPerson_at hp)) ?_
    walk_at "rd"
    have hR1 := hR.same s1
    refine ⟨l, r, _, rfl, hR1, ?_⟩
    walk_at "rd"
    obtain ⟨ts, hl, ht⟩ := hR1
    refine ⟨_, rfl, l, rfl, ⟨_, SqL.of hl⟩, fun D hD => lc_list (K := K) (a := l) (xs := ts.map V.ref) (fun i H3 => ∃ us, H3 = upd H1 D (.lst (us.map V.ref)) ∧ TupsAt H1 us ((r.take i).filter fun e => e.1 != p)) ⟨[], rfl, True.intro⟩
      (fun i H3 _ ⟨_, e, _⟩ => by rw [e]; exact SqL.of ((sNew hD) _ _ hl)) ?_ ?_⟩
    · rintro i v H3 hi ⟨us, rfl, hU⟩
      rw [List.getElem?_map] at hi
      obtain ⟨t, h1, rfl⟩ := Option.map_eq_some_iff.mp hi
      obtain ⟨e, h2, h3⟩ := ht.get h1
      have hz := hU.len
      have hf := filt_turn hU h2 h3
      walk_at "rd"
      refine ⟨rfl, ?_⟩
      walk_at "rd"
      refine rd_ixT ((sNew hD) _ _ h3) rfl ?_
      walk_at "rd"
      refine rd_ndec (fun k => ?_) fun k => ?_
      · have c : (e.1 != p) = true := by
          rw [bne_iff_ne]
          intro z
          exact k (by rw [z])
        rw [if_pos c] at hf
        walk_at "rd"
        refine ⟨_, upd_same, lt60 ?_, us ++ [t], ?_, hf⟩
        · rw [List.length_map, hz]
          have := List.length_filter_le (fun e : Nat × Nat => e.1 != p) (r.take i)
          rw [List.length_take] at this
          have := V0.n2
          omega
        · rw [upd_upd, List.map_append]
          rfl
      · have c : ¬ (e.1 != p) = true := by
          rw [bne_iff_ne]
          intro z
          injection k with k
          exact z (by omega)
        rw [if_neg c] at hf
        exact ⟨us, rfl, hf⟩
    · rintro H3 ⟨us, rfl, hU⟩
      rw [List.length_map, ht.len, List.take_length] at hU
      have hz : us.length ≤ 60 := by
        rw [hU.len]
        have := List.length_filter_le (fun e : Nat × Nat => e.1 != p) r
        have := V0.n2
        omega
      have s3 : Same H1 (upd H1 D (.lst (us.map V.ref))) := sNew hD
      walk_at "rd"
      refine rd_ifE ?_
      walk_at "rd"
      refine ⟨rfl, ?_⟩
      -- both ways the same pair is made
      have fin : ∀ c : Nat, c = (fo r (colOf r p)).getD (colOf r p) → ∀ (T t L0 c0 : Addr) (h0 : (upd H1 D (.lst (us.map V.ref))) t = none)
          (h1 : (upd (upd H1 D (.lst (us.map V.ref))) t (.tup [vN p, sg c])) L0 = none)
          (h2 : (upd (upd (upd H1 D (.lst (us.map V.ref))) t (.tup [vN p, sg c])) L0 (.lst [.ref t])) c0 = none)
          (h3 : (upd (upd (upd (upd H1 D (.lst (us.map V.ref))) t (.tup [vN p, sg c])) L0 (.lst [.ref t])) c0 (.lst ([.ref t] ++ us.map V.ref))) T = none),
          Q (.ref T) (upd (upd (upd (upd (upd H1 D (.lst (us.map V.ref))) t (.tup [vN p, sg c])) L0 (.lst [.ref t])) c0 (.lst ([.ref t] ++ us.map V.ref))) T (.tup [.ref c0, oV (fo r (colOf r p))])) := by
        intro c hc T t L0 c0 h0 h1 h2 h3
        have a1 := sNew (o := .tup [vN p, sg c]) h0
        have a2 := sNew (o := .lst [.ref t]) h1
        have a3 := sNew (o := .lst ([.ref t] ++ us.map V.ref)) h2
        have a4 := sNew (o := .tup [.ref c0, oV (fo r (colOf r p))]) h3
        have b2 := s3.trans (a1.trans a2)
        have b4 := b2.trans (a3.trans a4)
        refine kq T c0 _ (s1.free ((b2.trans a3).free h3)) (s1.free (b2.free h2)) (s1.trans b4) upd_same ⟨t :: us, a4 _ _ (by rw [upd_same]; rfl), ?_, ?_⟩
        · refine a4 _ _ (a3 _ _ (a2 _ _ ?_))
          rw [upd_same, hc]
        · exact hU.mono fun b xs e => b4 _ _ e
      have szU : (us.map V.ref).length ≤ 60 := by rw [List.length_map]; exact hz
      have go : ∀ c : Nat, c = (fo r (colOf r p)).getD (colOf r p) → ∀ (t L0 : Addr) (h0 : (upd H1 D (.lst (us.map V.ref))) t = none)
          (h1 : (upd (upd H1 D (.lst (us.map V.ref))) t (.tup [vN p, sg c])) L0 = none), (upd (upd (upd H1 D (.lst (us.map V.ref))) t (.tup [vN p, sg c])) L0 (.lst [.ref t])) D = some (.lst (us.map V.ref)) := by
        intro c hc t L0 h0 h1
        exact (sNew h1) _ _ ((sNew h0) _ _ upd_same)
      cases hfo : fo r (colOf r p) with
      | none =>
        rw [hfo] at fin go
        walk_at "rd"
        refine rd_yes rfl ?_
        walk_at "rd"
        refine ⟨by show 2 ≤ sizeLine; decide, fun t h0 => ?_⟩
        walk_at "rd"
        refine ⟨by show 1 ≤ sizeLine; decide, fun L0 h1 => ?_⟩
        walk_at "rd"
        refine rd_cat upd_same (go (colOf r p) rfl t L0 h0 h1) (sz60' (by show 1 + (us.map V.ref).length ≤ 100; omega)) fun c0 h2 => ?_
        walk_at "rd"
        refine ⟨by show 2 ≤ sizeLine; decide, fun T h3 => ?_⟩
        exact fin (colOf r p) rfl T t L0 c0 h0 h1 h2 h3
      | some d =>
        rw [hfo] at fin go
        walk_at "rd"
        refine rd_no (fun z => by cases z) ?_
        walk_at "rd"
        refine ⟨by show 2 ≤ sizeLine; decide, fun t h0 => ?_⟩
        walk_at "rd"
        refine ⟨by show 1 ≤ sizeLine; decide, fun L0 h1 => ?_⟩
        walk_at "rd"
        refine rd_cat upd_same (go d rfl t L0 h0 h1) (sz60' (by show 1 + (us.map V.ref).length ≤ 100; omega)) fun c0 h2 => ?_
        walk_at "rd"
        refine ⟨by show 2 ≤ sizeLine; decide, fun T h3 => ?_⟩
        exact fin d rfl T t L0 c0 h0 h1 h2 h3
def sp_lineup_after (K : PySem.W.Frag) : Sp := fun vs H Q _ => ∃ (l c : Addr) (r : Row) (cs : List Nat), vs = [.ref l, .ref c] ∧ RowAt H l r ∧ Vr r ∧ H c = some (.lst (cs.map vN)) ∧ (∀ p ∈ cs, p < r.length) ∧
  ∀ L H', H L = none → Same H H' → RowAt H' L (apps r cs) → Q (.ref L) H'
theorem ok_lineup_after (T : Txt K mg a) : FnOk P w K mg base CX0 5 a.f_lineup_after a.d_lineup_after ["lineup", "calls"] (sp_lineup_after K) := by
  refine T.F_lineup_after.ok sc_lineup_after (fun vs H Q E h => ?_) (fun cdv A outer s H vs Q E hr h => ?_)
  · obtain ⟨l, c, r, cs, rfl, _⟩ := h
    rfl
  · obtain ⟨l, c, r, cs, rfl, hR, V0, hc, hcs, kq⟩ := h
    have nd := sc_lineup_after.nd
    refine ⟨_, (pss_cons (ps_expr (pe_call (ok_check_lineup T) (hr.mono (by decide)) rfl T.g_check_lineup T.k_check_lineup T.n_check_lineup .nil pass0 (pa_cons (pv 0) pa_nil)))
      (pss_cons (ps_expr (pe_call (ok_check_calls T) (hr.mono (by decide)) rfl T.g_check_calls T.k_check_calls T.n_check_calls .nil pass0 (pa_cons (pv 0) (pa_cons (pv 1) pa_nil))))
      (pss_cons (ps_set (i := 2) nd rfl (Or.inl rfl) (pe_callTy (klist (K := K)) (by rfl) T.b_list (by decide +kernel) (pa_cons (pv 0) pa_nil)))
      (pss_cons (ps_for PassesOwn.never rfl (kpi_list (K := K) (pv 1)) (pg_name (i := 3) nd rfl (Or.inl rfl)) (pss_one (ps_asg (pe_call (ok_apply_call T) (hr.mono (by decide)) rfl T.g_apply_call T.k_apply_call T.n_apply_call .nil pass0 (pa_cons (pv 2) (pa_cons (pv 3) pa_nil))) (kpg_tup (K := K) rfl (pgs_cons (pg_name (i := 2) nd rfl (Or.inl rfl)) (pgs_cons (pg_name (i := 4) nd rfl (Or.inl rfl)) pgs_nil))))))
      (pss_one (ps_ret (pv 2))))))), ?_⟩
    walk_at "rd"
    refine ⟨l, r, rfl, hR, V0, fun H1 s1 => ?_⟩
    walk_at "rd"
    refine ⟨l, c, r, cs, rfl, hR.same s1, s1 _ _ hc, hcs, fun H2 s2 => ?_⟩
    walk_at "rd"
    have s12 := s1.trans s2
    obtain ⟨ts, hl, ht⟩ := hR.same s12
    refine rd_listOf hl fun L hL => ?_
    walk_at "rd"
    have s3 : Same H2 (upd H2 L (.lst (ts.map V.ref))) := sNew hL
    refine ⟨_, rfl, c, rfl, ⟨_, SqL.of (s3 _ _ (s12 _ _ hc))⟩, for_list (K := K) (a := c) (xs := cs.map vN) (fun i σ H' => ∃ L x y, σ = [some (.ref l), some (.ref c), some (.ref L), x, y] ∧ H L = none ∧ Same H H' ∧ RowAt H' L (apps r (cs.take i)))
      ⟨L, none, none, rfl, s12.free hL, s12.trans s3, ts, upd_same, ht.mono (sTups s3)⟩ (fun i σ H' _ ⟨_, _, _, _, _, e, _⟩ => SqL.of (e _ _ hc)) ?_ ?_⟩
    · rintro i v σ H' hi ⟨L, x, y, rfl, hL, s4, hRL⟩
      rw [List.getElem?_map] at hi
      obtain ⟨p, h1, rfl⟩ := Option.map_eq_some_iff.mp hi
      have hv := apps_len V0 (cs.take i) fun q hq => hcs q (List.mem_of_mem_take hq)
      have hp := hcs p (getElem?_mem h1)
      walk_at "rd"
      refine ⟨L, _, p, rfl, hRL, hv.1, by rw [hv.2]; exact hp, fun t L2 H3 ht0 hL2 s5 hT hR2 => ?_⟩
      refine rd_gtup hT rfl ?_
      walk_at "rd"
      refine ⟨L2, _, _, rfl, s4.free hL2, s4.trans s5, ?_⟩
      rw [take_of h1, apps_snoc]
      exact hR2
    · rintro σ H' ⟨L, x, y, rfl, hL, s4, hRL⟩
      rw [List.length_map, List.take_length] at hRL
      walk_at "rd"
      exact kq L H' hL s4 hRL
end K19

namespace K19
open PySem L2 LX
local macro_rules | `(tactic| walk_at "rd") => `(tactic| repeat (first
  | with_reducible refine rd_var rfl ?_ | with_reducible refine rd_c ?_ | with_reducible refine rd_op ?_ | with_reducible refine rd_un ?_ | with_reducible refine rd_I0 ?_ | with_reducible refine rd_U ?_
  | with_reducible refine rd_test ?_ | with_reducible refine rd_tB ?_ | with_reducible refine rd_bl ?_ | with_reducible refine rd_chain ?_
  | with_reducible refine rd_and ?_ | with_reducible refine rd_or ?_ | with_reducible refine rd_not ?_ | with_reducible refine rd_andV ?_ | with_reducible refine rd_orV ?_ | with_reducible refine rd_notV ?_
  | with_reducible refine rd_next ?_ | with_reducible refine rd_seq ?_ | with_reducible refine rd_drop ?_ | with_reducible refine rd_ret ?_ | with_reducible refine rd_ifS ?_ | with_reducible refine rd_asg ?_ | with_reducible refine rd_name ?_
  | with_reducible refine rd_par ?_ | with_reducible refine rd_two ?_ | with_reducible refine rd_2i ?_ | with_reducible refine rd_nil ?_ | with_reducible refine rd_cons ?_ | with_reducible refine rd_tup ?_ | with_reducible refine rd_lst ?_ | with_reducible refine rd_cb ?_ | with_reducible refine rd_call ?_
  | with_reducible refine rd_ixL (by assumption) rfl ?_ | with_reducible refine rd_ixT (by assumption) rfl ?_ | with_reducible refine rd_ixL upd_same rfl ?_ | with_reducible refine rd_sub ?_ | with_reducible refine rd_sl ?_ | with_reducible refine rd_nopart ?_ | with_reducible refine rd_part ?_ | with_reducible refine rd_int ?_
  | with_reducible refine rd_len (by assumption) ?_ | with_reducible refine rd_bm ?_ | with_reducible refine rd_bm0 ?_ | with_reducible refine rd_gcons ?_ | with_reducible refine rd_gnil ?_
  | ((with_reducible refine rd_I ?ci ?_); (case ci => first | assumption | (show (0 : Int) < _; decide) | exact Or.inl ⟨by decide, by decide⟩ | exact Or.inr ⟨by decide, by decide⟩ | exact ⟨by decide, by decide, (by decide : Int.natAbs 10 < 2 ^ 1000)⟩))
  | with_reducible refine rd_setL (by assumption) rfl ?_ | with_reducible refine rd_setL upd_same rfl ?_ | with_reducible refine rd_len upd_same ?_
  | with_reducible refine rd_2ty ?_ | with_reducible refine rd_NT ?_ | with_reducible refine rd_2s ?_ | with_reducible refine rd_lenS ?_ | with_reducible refine rd_lenT (by assumption) ?_ | ((with_reducible refine rd_typ ?ct ?_); (case ct => rfl))
  | ((with_reducible refine rd_eq ?cs ?_); (case cs => rfl)) | ((with_reducible refine rd_ne ?cs ?_); (case cs => rfl))
  | with_reducible refine rd_qtru ?_ | with_reducible refine rd_lstRg ?_ | with_reducible refine rd_rg1 ?_ | with_reducible refine rd_tyes ?_ | with_reducible refine rd_tyL (by assumption) ?_ | with_reducible refine rd_tyT (by assumption) ?_
  | with_reducible refine iteT ?_ | with_reducible refine iteF ?_ | with_reducible refine rd_nt ?_ | with_reducible refine rd_nf ?_
  | (dsimp only)))

variable {P : Program} {w : World} {K : PySem.W.Frag} {mg : Str → Option Value} {base : Heap} {a : Ad}
def sp_colors_taken (K : PySem.W.Frag) : Sp := fun vs H Q _ => ∃ (l c : Addr) (r : Row) (cs : List Nat), vs = [.ref l, .ref c] ∧ RowAt H l r ∧ Vr r ∧ H c = some (.lst (cs.map vN)) ∧ (∀ p ∈ cs, p < r.length) ∧ cs.length ≤ 10000 ∧
  ∀ L H', H L = none → Same H H' → H' L = some (.lst ((takens r cs).map oV)) → Q (.ref L) H'
theorem ok_colors_taken (T : Txt K mg a) : FnOk P w K mg base CX0 5 a.f_colors_taken a.d_colors_taken ["lineup", "calls"] (sp_colors_taken K) := by
  refine T.F_colors_taken.ok sc_colors_taken (fun vs H Q E h => ?_) (fun cdv A outer s H vs Q E hr h => ?_)
  · obtain ⟨l, c, r, cs, rfl, _⟩ := h
    rfl
  · obtain ⟨l, c, r, cs, rfl, hR, V0, hc, hcs, hz, kq⟩ := h
    have nd := sc_colors_taken.nd
    refine ⟨_, (pss_cons (ps_expr (pe_call (ok_check_lineup T) (hr.mono (by decide)) rfl T.g_check_lineup T.k_check_lineup T.n_check_lineup .nil pass0 (pa_cons (pv 0) pa_nil)))
      (pss_cons (ps_expr (pe_call (ok_check_calls T) (hr.mono (by decide)) rfl T.g_check_calls T.k_check_calls T.n_check_calls .nil pass0 (pa_cons (pv 0) (pa_cons (pv 1) pa_nil))))
      (pss_cons (ps_set (i := 2) nd rfl (Or.inl rfl) (pe_callTy (klist (K := K)) (by rfl) T.b_list (by decide +kernel) (pa_cons (pv 0) pa_nil)))
      (pss_cons (ps_set (i := 3) nd rfl (Or.inl rfl) (pe_lst pa_nil))
      (pss_cons (ps_for PassesOwn.never rfl (kpi_list (K := K) (pv 1)) (pg_name (i := 4) nd rfl (Or.inl rfl)) (pss_cons (ps_asg (pe_call (ok_apply_call T) (hr.mono (by decide)) rfl T.g_apply_call T.k_apply_call T.n_apply_call .nil pass0 (pa_cons (pv 2) (pa_cons (pv 4) pa_nil))) (kpg_tup (K := K) rfl (pgs_cons (pg_name (i := 2) nd rfl (Or.inl rfl)) (pgs_cons (pg_name (i := 5) nd rfl (Or.inl rfl)) pgs_nil))))
      (pss_one (ps_expr (kbm (K := K) PySem.F.plainAttrs_list PySem.F.slot_list_append PySem.F.type_list_append mt_append (pv 3) (pa_cons (pv 5) pa_nil))))))
      (pss_one (ps_ret (pv 3)))))))), ?_⟩
    walk_at "rd"
    refine ⟨l, r, rfl, hR, V0, fun H1 s1 => ?_⟩
    walk_at "rd"
    refine ⟨l, c, r, cs, rfl, hR.same s1, s1 _ _ hc, hcs, fun H2 s2 => ?_⟩
    walk_at "rd"
    have s12 := s1.trans s2
    obtain ⟨ts, hl, ht⟩ := hR.same s12
    refine rd_listOf hl fun L hL => ?_
    walk_at "rd"
    have s3 : Same H2 (upd H2 L (.lst (ts.map V.ref))) := sNew hL
    refine ⟨Nat.zero_le _, fun O hO => ?_⟩
    have s4 : Same H2 (upd (upd H2 L (.lst (ts.map V.ref))) O (.lst [])) := s3.trans (sNew hO)
    have hOH : H O = none := s12.free (s3.free hO)
    walk_at "rd"
    refine ⟨_, rfl, c, rfl, ⟨_, SqL.of (s4 _ _ (s12 _ _ hc))⟩, for_list (K := K) (a := c) (xs := cs.map vN) (fun i σ H' => ∃ L x y, σ = [some (.ref l), some (.ref c), some (.ref L), some (.ref O), x, y] ∧ L ≠ O ∧ Same H H' ∧ RowAt H' L (apps r (cs.take i)) ∧ H' O = some (.lst ((takens r (cs.take i)).map oV)))
      ⟨L, none, none, rfl, ?_, s12.trans s4, ⟨ts, (sNew hO) _ _ upd_same, ht.mono (sTups s4)⟩, upd_same⟩ (fun i σ H' _ ⟨_, _, _, _, _, e, _⟩ => SqL.of (e _ _ hc)) ?_ ?_⟩
    · exact ne_of_none (o := .lst (ts.map V.ref)) upd_same hO
    · rintro i v σ H' hi ⟨L, x, y, rfl, hLO, s5, hRL, gO⟩
      rw [List.getElem?_map] at hi
      obtain ⟨p, h1, rfl⟩ := Option.map_eq_some_iff.mp hi
      have hv := apps_len V0 (cs.take i) fun q hq => hcs q (List.mem_of_mem_take hq)
      have hp := hcs p (getElem?_mem h1)
      walk_at "rd"
      refine ⟨L, _, p, rfl, hRL, hv.1, by rw [hv.2]; exact hp, fun t L2 H3 ht0 hL2 s6 hT hR2 => ?_⟩
      refine rd_gtup hT rfl ?_
      walk_at "rd"
      have gO3 := s6 _ _ gO
      refine ⟨Or.inl ⟨rfl, _, SqL.of gO3⟩, ?_⟩
      walk_at "rd"
      refine ⟨O, _, _, rfl, rfl, gO3, sz1000 ?_, ?_⟩
      · rw [List.length_map, takens_len, List.length_take]
        omega
      have hL2O : L2 ≠ O := fun z => by rw [z, gO] at hL2; cases hL2
      refine ⟨L2, _, _, rfl, hL2O, sUpd (s5.trans s6) hOH, ?_, ?_⟩
      · rw [take_of h1, apps_snoc]
        obtain ⟨ts2, e1, e2⟩ := hR2
        refine ⟨ts2, by rw [upd_ne hL2O]; exact e1, e2.mono fun b xs e => ?_⟩
        rw [upd_ne fun z => by rw [z, gO3] at e; cases e]
        exact e
      · rw [upd_same, take_of h1, takens_snoc, List.map_append]
        rfl
    · rintro σ H' ⟨L, x, y, rfl, hLO, s5, hRL, gO⟩
      rw [List.length_map, List.take_length] at gO
      walk_at "rd"
      exact kq O H' hOH s5 gO
def sp_runs_of (K : PySem.W.Frag) : Sp := fun vs H Q _ => ∃ (c : Addr) (cs : List Int), vs = [.ref c] ∧ H c = some (.lst (cs.map V.int)) ∧ cs.length ≤ 10000 ∧
  ∀ L H' ts, H L = none → Same H H' → H' L = some (.lst (ts.map V.ref)) → PairsAt H' ts (runsI cs) → Q (.ref L) H'
theorem ok_runs_of (T : Txt K mg a) : FnOk P w K mg base CX0 1 a.f_runs_of a.d_runs_of ["row"] (sp_runs_of K) := by
  refine T.F_runs_of.ok sc_runs_of (fun vs H Q E h => ?_) (fun cdv A outer s H vs Q E hr h => ?_)
  · obtain ⟨c, cs, rfl, _⟩ := h
    rfl
  · obtain ⟨c, cs, rfl, hc, hz, kq⟩ := h
    have nd := sc_runs_of.nd
    refine ⟨_, (pss_cons (ps_set (i := 1) nd rfl (Or.inl rfl) (pe_lst pa_nil))
      (pss_cons (ps_for PassesOwn.never rfl (kpi_list (K := K) (pv 0)) (pg_name (i := 2) nd rfl (Or.inl rfl)) (pss_one (ps_if (PW.pt (pw_and (kpt_truth (K := K) (pv 1) (by intro _; rfl)) (pw_and1 (pt_cmpR op_eq (pe_ix (kix_tup (K := K)) (pe_ix (kix_list (K := K)) (pv 1) (pe_un un_neg pe_int) (fun _ _ => rfl)) pe_int (fun _ _ => rfl)) (pv 2) (nomark _))))) (pss_one (ps_asg (pe_tup (pa_cons (pv 2) (pa_cons (pe_op op_add (pe_ix (kix_tup (K := K)) (pe_ix (kix_list (K := K)) (pv 1) (pe_un un_neg pe_int) (fun _ _ => rfl)) pe_int (fun _ _ => rfl)) pe_int) pa_nil))) (pg_sub (pv 1) (pe_un un_neg pe_int) set_list))) (pss_one (ps_expr (kbm (K := K) PySem.F.plainAttrs_list PySem.F.slot_list_append PySem.F.type_list_append mt_append (pv 1) (pa_cons (pe_tup (pa_cons (pv 2) (pa_cons pe_int pa_nil))) pa_nil)))))))
      (pss_one (ps_ret (pv 1))))), ?_⟩
    walk_at "rd"
    refine ⟨Nat.zero_le _, fun O hO => ?_⟩
    walk_at "rd"
    refine ⟨_, rfl, c, rfl, ⟨_, SqL.of ((sNew hO) _ _ hc)⟩, for_list (K := K) (a := c) (xs := cs.map V.int) (fun i σ H' => ∃ x ts, σ = [some (.ref c), some (.ref O), x] ∧ Same H H' ∧ H' O = some (.lst (ts.map V.ref)) ∧ PairsAt H' ts (runsI (cs.take i)))
      ⟨none, [], rfl, sNew hO, upd_same, True.intro⟩ (fun i σ H' _ ⟨_, _, _, e, _⟩ => SqL.of (e _ _ hc)) ?_ ?_⟩
    · rintro i v σ H' hi ⟨x, ts, rfl, s1, gO, gP⟩
      rw [List.getElem?_map] at hi
      obtain ⟨n, h1, rfl⟩ := Option.map_eq_some_iff.mp hi
      have lt := gP.len
      have lr : (runsI (cs.take i)).length ≤ i := by
        have := runsI_len (cs.take i)
        rw [List.length_take] at this
        omega
      have hi2 : i < cs.length := (List.getElem?_eq_some_iff.mp h1).1
      walk_at "rd"
      have tl : (ts.map V.ref).length = (runsI (cs.take i)).length := by rw [List.length_map, lt]
      -- the end of both ways that begin a run
      have fresh : ∀ t : Addr, H' t = none → runsI (cs.take (i + 1)) = runsI (cs.take i) ++ [(n, 1)] →
          ∃ x' ts', [some (V.ref c), some (.ref O), some (.int n)] = [some (V.ref c), some (.ref O), x'] ∧ Same H (upd (upd H' t (.tup [.int n, .int 1])) O (.lst (ts.map V.ref ++ [.ref t]))) ∧ (upd (upd H' t (.tup [.int n, .int 1])) O (.lst (ts.map V.ref ++ [.ref t]))) O = some (.lst (ts'.map V.ref)) ∧ PairsAt (upd (upd H' t (.tup [.int n, .int 1])) O (.lst (ts.map V.ref ++ [.ref t]))) ts' (runsI (cs.take (i + 1))) := by
        intro t h0 e
        have a1 := sNew (o := .tup [.int n, .int 1]) h0
        have tO : t ≠ O := fun z => by rw [z, gO] at h0; cases h0
        have keep : ∀ b ys, (upd H' t (.tup [.int n, .int 1])) b = some (.tup ys) → (upd (upd H' t (.tup [.int n, .int 1])) O (.lst (ts.map V.ref ++ [.ref t]))) b = some (.tup ys) := fun b ys q => by
          rw [upd_ne fun z => by rw [z, a1 _ _ gO] at q; cases q]
          exact q
        refine ⟨_, ts ++ [t], rfl, sUpd (s1.trans a1) hO, by rw [upd_same, List.map_append]; rfl, ?_⟩
        rw [e]
        exact ((gP.mono (sTups a1)).mono keep).snoc (by rw [upd_ne tO]; exact upd_same)
      refine rd_truL gO ?_
      cases hts : runsI (cs.take i) with
      | nil =>
        have e0 : ts = [] := List.length_eq_zero_iff.mp (by rw [lt, hts]; rfl)
        have ets : (ts.map V.ref).isEmpty = true := by rw [e0]; rfl
        rw [ets]
        walk_at "rd"
        refine ⟨Or.inl ⟨rfl, _, SqL.of gO⟩, ?_⟩
        walk_at "rd"
        refine ⟨by show 2 ≤ sizeLine; decide, fun t h0 => ?_⟩
        refine ⟨O, _, _, rfl, rfl, (sNew h0) _ _ gO, sz1000 (by rw [List.length_map, e0]; decide), ?_⟩
        exact fresh t h0 (by rw [take_of h1, runsI_snoc, hts]; rfl)
      | cons r0 rs =>
        have ene : runsI (cs.take i) ≠ [] := by rw [hts]; intro z; cases z
        obtain ⟨⟨y, k⟩, hlast⟩ := last_of_ne ene
        obtain ⟨t0, ht0, gt0⟩ := gP.last hlast
        have ets : (ts.map V.ref).isEmpty = false := by
          cases ts with
          | nil => rw [hts] at lt; cases lt
          | cons _ _ => rfl
        rw [ets]
        have hat : atI (ts.map V.ref) (-1) = some (.ref t0) := at_neg1 (by rw [List.length_map, List.getElem?_map, ht0]; rfl)
        walk_at "rd"
        refine rd_ixL gO hat ?_
        walk_at "rd"
        refine rd_dec (fun z => ?_) fun z => ?_
        · have zy : y = n := by injection z
          subst zy
          walk_at "rd"
          refine rd_ixL gO hat ?_
          walk_at "rd"
          refine ⟨by show 2 ≤ sizeLine; decide, fun t h0 => ?_⟩
          walk_at "rd"
          have a1 := sNew (o := .tup [.int y, .int ((k : Int) + 1)]) h0
          have tO : t ≠ O := fun z => by rw [z, gO] at h0; cases h0
          refine rd_setL (a1 _ _ gO) (ix_neg1 (by rw [tl, hts]; exact Nat.succ_pos _)) ?_
          have keep : ∀ b ys, (upd H' t (.tup [.int y, .int ((k : Int) + 1)])) b = some (.tup ys) → (upd (upd H' t (.tup [.int y, .int ((k : Int) + 1)])) O (.lst ((ts.map V.ref).set ((ts.map V.ref).length - 1) (.ref t)))) b = some (.tup ys) := fun b ys q => by
            rw [upd_ne fun z => by rw [z, a1 _ _ gO] at q; cases q]
            exact q
          refine ⟨_, ts.set (ts.length - 1) t, rfl, sUpd (s1.trans a1) hO, by rw [upd_same, List.length_map, List.map_set], ?_⟩
          rw [take_of h1, runsI_snoc, rsnoc_grow hlast, ← lt]
          exact ((gP.mono (sTups a1)).mono keep).set (e := (y, k + 1)) (by rw [upd_ne tO, upd_same]; rfl) _
        · have zy : y ≠ n := fun q => z (by rw [q])
          walk_at "rd"
          refine ⟨Or.inl ⟨rfl, _, SqL.of gO⟩, ?_⟩
          walk_at "rd"
          refine ⟨by show 2 ≤ sizeLine; decide, fun t h0 => ?_⟩
          refine ⟨O, _, _, rfl, rfl, (sNew h0) _ _ gO, sz1000 (by omega), ?_⟩
          exact fresh t h0 (by rw [take_of h1, runsI_snoc, rsnoc_new hlast zy])
    · rintro σ H' ⟨x, ts, rfl, s1, gO, gP⟩
      rw [List.length_map, List.take_length] at gP
      walk_at "rd"
      exact kq O H' ts hO s1 gO gP
def sp_check_numbers (K : PySem.W.Frag) : Sp := fun vs H Q _ => ∃ (c : Addr) (cs : List Int), vs = [.ref c] ∧ H c = some (.lst (cs.map V.int)) ∧ (∀ n ∈ cs, 0 ≤ n) ∧ ∀ H', Same H H' → Q .non H'
theorem ok_check_numbers (T : Txt K mg a) : FnOk P w K mg base CX0 2 a.f_check_numbers a.d_check_numbers ["value"] (sp_check_numbers K) := by
  refine T.F_check_numbers.ok sc_check_numbers (fun vs H Q E h => ?_) (fun cdv A outer s H vs Q E hr h => ?_)
  · obtain ⟨c, cs, rfl, _⟩ := h
    rfl
  · obtain ⟨c, cs, rfl, hc, hcs, kq⟩ := h
    have nd := sc_check_numbers.nd
    refine ⟨_, (pss_cons (ps_if (pt_cmpR op_notTyB (pe_typeOf rfl T.b_type (pv 0)) (pe_bltn (v := .ty "list") (by rfl) T.b_list (by decide +kernel) rfl) (nomark _)) pss_never pss_nil)
      (pss_one (ps_for PassesOwn.never rfl (pi_enum rfl T.b_enumerate (pa_cons (pv 0) pa_nil)) (kpg_tup (K := K) rfl (pgs_cons (pg_name (i := 1) nd rfl (Or.inl rfl)) (pgs_cons (pg_name (i := 2) nd rfl (Or.inl rfl)) pgs_nil))) (pss_one (ps_if (PW.pt (pw_or (pt_not (pt_val (pe_call (ok_is_integer T) (hr.mono (by decide)) rfl T.g_is_integer T.k_is_integer T.n_is_integer .nil pass0 (pa_cons (pv 2) pa_nil)))) (pw_or1 (pt_cmpR op_lt (pv 2) pe_int (nomark _))))) pss_never pss_nil))))), ?_⟩
    walk_at "rd"
    refine rd_ndec (fun k => absurd rfl k) fun _ => ?_
    walk_at "rd"
    refine ⟨_, rfl, c, _, rfl, SqL.of hc, for_enum (K := K) (a := c) (xs := cs.map V.int) (fun i σ H' => ∃ x y, σ = [some (.ref c), x, y] ∧ Same H H')
      ⟨none, none, rfl, Same.refl H⟩ (fun i σ H' _ ⟨_, _, _, e⟩ => SqL.of (e _ _ hc)) ?_ ?_⟩
    · rintro i v t σ H' hi ⟨x, y, rfl, s1⟩ hT
      rw [List.getElem?_map] at hi
      obtain ⟨n, h1, rfl⟩ := Option.map_eq_some_iff.mp hi
      have hn := hcs n (getElem?_mem h1)
      have s2 := fun o => Same.trans s1 (sNew (o := o) hT)
      refine rd_gtup upd_same rfl ?_
      walk_at "rd"
      refine ⟨n, rfl, ?_⟩
      walk_at "rd"
      refine rd_no (by omega) ?_
      exact ⟨_, _, rfl, s2 _⟩
    · rintro σ H' ⟨x, y, rfl, s1⟩
      walk_at "rd"
      exact kq H' s1
def sp_shorten_calls (K : PySem.W.Frag) : Sp := fun vs H Q _ => ∃ (c : Addr) (cs : List Int), vs = [.ref c] ∧ H c = some (.lst (cs.map V.int)) ∧ (∀ n ∈ cs, 0 ≤ n) ∧ cs.length ≤ 10000 ∧
  ∀ L H', H L = none → Same H H' → H' L = some (.lst ((short cs).map V.int)) → Q (.ref L) H'
theorem ok_shorten_calls (T : Txt K mg a) : FnOk P w K mg base CX0 3 a.f_shorten_calls a.d_shorten_calls ["calls"] (sp_shorten_calls K) := by
  refine T.F_shorten_calls.ok sc_shorten_calls (fun vs H Q E h => ?_) (fun cdv A outer s H vs Q E hr h => ?_)
  · obtain ⟨c, cs, rfl, _⟩ := h
    rfl
  · obtain ⟨c, cs, rfl, hc, hcs, hz, kq⟩ := h
    have nd := sc_shorten_calls.nd
    refine ⟨_, (pss_cons (ps_expr (pe_call (ok_check_numbers T) (hr.mono (by decide)) rfl T.g_check_numbers T.k_check_numbers T.n_check_numbers .nil pass0 (pa_cons (pv 0) pa_nil)))
      (pss_cons (ps_set (i := 1) nd rfl (Or.inl rfl) (pe_lst pa_nil))
      (pss_cons (ps_for PassesOwn.never rfl (kpi_list (K := K) (pe_call (ok_runs_of T) (hr.mono (by decide)) rfl T.g_runs_of T.k_runs_of T.n_runs_of .nil pass0 (pa_cons (pv 0) pa_nil))) (kpg_tup (K := K) rfl (pgs_cons (pg_name (i := 2) nd rfl (Or.inl rfl)) (pgs_cons (pg_name (i := 3) nd rfl (Or.inl rfl)) pgs_nil))) (pss_one (ps_expr (kbm (K := K) PySem.F.plainAttrs_list PySem.F.slot_list_extend PySem.F.type_list_extend mt_extend (pv 1) (pa_cons (pe_op op_rep (pe_lst (pa_cons (pv 2) pa_nil)) (pe_ifExp (pt_cmpR op_eq (pe_op op_mod (pv 3) pe_int) pe_int (nomark _)) pe_int pe_int)) pa_nil)))))
      (pss_one (ps_ret (pv 1)))))), ?_⟩
    walk_at "rd"
    refine ⟨c, cs, rfl, hc, hcs, fun H1 s1 => ?_⟩
    walk_at "rd"
    refine ⟨Nat.zero_le _, fun O hO => ?_⟩
    have s2 := s1.trans (sNew (o := .lst []) hO)
    have hOH := s1.free hO
    have gO0 := upd_same (H := H1) (a := O) (o := .lst [])
    walk_at "rd"
    generalize upd H1 O (.lst []) = H2 at s2 gO0
    refine rd_forL (fun b H3 => ∃ ts, H2 b = none ∧ Same H2 H3 ∧ H3 b = some (.lst (ts.map V.ref)) ∧ PairsAt H3 ts (runsI cs)) (fun R q => ?_) ?_
    · walk_at "rd"
      exact ⟨c, cs, rfl, s2 _ _ hc, hz, fun L H3 ts hL s3 gL gP => q L H3 ⟨ts, hL, s3, gL, gP⟩⟩
    rintro b H3 ⟨ts, hb, s3, gb, gP⟩
    have bO : b ≠ O := fun z => by rw [z, gO0] at hb; cases hb
    refine ⟨⟨_, SqL.of gb⟩, for_list (K := K) (a := b) (xs := ts.map V.ref) (fun i σ H' => ∃ x y, σ = [some (.ref c), some (.ref O), x, y] ∧ Same' O H3 H' ∧ Same H H' ∧ H' O = some (.lst ((shortR ((runsI cs).take i)).map V.int)))
      ⟨none, none, rfl, Same'.refl O H3, s2.trans s3, s3 _ _ gO0⟩ (fun i σ H' _ ⟨_, _, _, e, _⟩ => SqL.of (e _ _ gb bO)) ?_ ?_⟩
    · rintro i v σ H' hi ⟨x, y, rfl, s4, s5, gO⟩
      rw [List.getElem?_map] at hi
      obtain ⟨t, h1, rfl⟩ := Option.map_eq_some_iff.mp hi
      obtain ⟨e, h2, h3⟩ := gP.get h1
      have tO : t ≠ O := fun z => by rw [z, s3 _ _ gO0] at h3; cases h3
      have rl := runsI_len cs
      have ri : i < (runsI cs).length := (List.getElem?_eq_some_iff.mp h2).1
      have sl : (shortR ((runsI cs).take i)).length ≤ 20000 := by
        have := shortR_len ((runsI cs).take i)
        rw [List.length_take] at this
        omega
      refine rd_gtup (s4 _ _ h3 tO) rfl ?_
      walk_at "rd"
      refine ⟨Or.inl ⟨rfl, _, SqL.of gO⟩, ?_⟩
      walk_at "rd"
      refine ⟨by show 1 ≤ sizeLine; decide, fun q hq => ?_⟩
      walk_at "rd"
      refine rd_ifV (v := .int ((if e.2 % 2 = 1 then 1 else 2 : Nat) : Int)) (decide (V.int ((e.2 : Int) % 2) = V.int 1)) (fun R q => ?_) (fun z R q => ?_) (fun z R q => ?_) ?_
      · walk_at "rd"
        exact q
      · have z2 : e.2 % 2 = 1 := by
          have := of_decide_eq_true z
          injection this with this
          omega
        rw [if_pos z2] at q
        walk_at "rd"
        exact q
      · have z2 : ¬ e.2 % 2 = 1 := fun w => of_decide_eq_false z (by rw [show (e.2 : Int) % 2 = 1 by omega])
        rw [if_neg z2] at q
        walk_at "rd"
        exact q
      have a1 := sNew (o := .lst [.int e.1]) hq
      have c12 : (if e.2 % 2 = 1 then 1 else 2) ≤ 2 := by split <;> omega
      refine ⟨q, _, _, rfl, rfl, upd_same, by omega, by omega, ?_, fun q2 hq2 => ?_⟩
      · rw [Int.toNat_natCast]
        exact sz60 (by show 1 * _ ≤ 60; omega)
      rw [Int.toNat_natCast, flat_rep]
      have a2 := sNew (o := .lst (List.replicate (if e.2 % 2 = 1 then 1 else 2) (V.int e.1))) hq2
      have a12 := a1.trans a2
      refine ⟨O, q2, _, _, rfl, rfl, a12 _ _ gO, upd_same, ?_, ?_⟩
      · rw [List.length_map, List.length_replicate]
        exact Nat.le_of_lt (sz1000 (by omega))
      refine ⟨_, _, rfl, ?_, sUpd (s5.trans a12) hOH, ?_⟩
      · exact (s4.trans (sTo O a12)).trans Same'.upd
      · rw [upd_same, take_of h2, shortR_snoc, List.map_append, List.map_replicate]
    · rintro σ H' ⟨x, y, rfl, s4, s5, gO⟩
      rw [List.length_map, gP.len, List.take_length] at gO
      walk_at "rd"
      exact kq O H' hOH s5 gO
end K19

namespace K19
open PySem L2 LX
local macro_rules | `(tactic| walk_at "rd") => `(tactic| repeat (first
  | with_reducible refine rd_var rfl ?_ | with_reducible refine rd_c ?_ | with_reducible refine rd_op ?_ | with_reducible refine rd_un ?_ | with_reducible refine rd_I0 ?_ | with_reducible refine rd_U ?_
  | with_reducible refine rd_test ?_ | with_reducible refine rd_tB ?_ | with_reducible refine rd_bl ?_ | with_reducible refine rd_chain ?_
  | with_reducible refine rd_and ?_ | with_reducible refine rd_or ?_ | with_reducible refine rd_not ?_ | with_reducible refine rd_andV ?_ | with_reducible refine rd_orV ?_ | with_reducible refine rd_notV ?_
  | with_reducible refine rd_next ?_ | with_reducible refine rd_seq ?_ | with_reducible refine rd_drop ?_ | with_reducible refine rd_ret ?_ | with_reducible refine rd_ifS ?_ | with_reducible refine rd_asg ?_ | with_reducible refine rd_name ?_
  | with_reducible refine rd_par ?_ | with_reducible refine rd_two ?_ | with_reducible refine rd_2i ?_ | with_reducible refine rd_nil ?_ | with_reducible refine rd_cons ?_ | with_reducible refine rd_tup ?_ | with_reducible refine rd_lst ?_ | with_reducible refine rd_cb ?_ | with_reducible refine rd_call ?_
  | with_reducible refine rd_ixL (by assumption) rfl ?_ | with_reducible refine rd_ixT (by assumption) rfl ?_ | with_reducible refine rd_ixL upd_same rfl ?_ | with_reducible refine rd_sub ?_ | with_reducible refine rd_sl ?_ | with_reducible refine rd_nopart ?_ | with_reducible refine rd_part ?_ | with_reducible refine rd_int ?_
  | with_reducible refine rd_len (by assumption) ?_ | with_reducible refine rd_bm ?_ | with_reducible refine rd_bm0 ?_ | with_reducible refine rd_gcons ?_ | with_reducible refine rd_gnil ?_
  | ((with_reducible refine rd_I ?ci ?_); (case ci => first | assumption | (show (0 : Int) < _; decide) | exact Or.inl ⟨by decide, by decide⟩ | exact Or.inr ⟨by decide, by decide⟩ | exact ⟨by decide, by decide, (by decide : Int.natAbs 10 < 2 ^ 1000)⟩))
  | with_reducible refine rd_setL (by assumption) rfl ?_ | with_reducible refine rd_setL upd_same rfl ?_ | with_reducible refine rd_len upd_same ?_
  | with_reducible refine rd_2ty ?_ | with_reducible refine rd_NT ?_ | with_reducible refine rd_2s ?_ | with_reducible refine rd_lenS ?_ | with_reducible refine rd_lenT (by assumption) ?_ | ((with_reducible refine rd_typ ?ct ?_); (case ct => rfl))
  | ((with_reducible refine rd_eq ?cs ?_); (case cs => rfl)) | ((with_reducible refine rd_ne ?cs ?_); (case cs => rfl))
  | with_reducible refine rd_qtru ?_ | with_reducible refine rd_lstRg ?_ | with_reducible refine rd_rg1 ?_ | with_reducible refine rd_tyes ?_ | with_reducible refine rd_tyL (by assumption) ?_ | with_reducible refine rd_tyT (by assumption) ?_
  | with_reducible refine iteT ?_ | with_reducible refine iteF ?_ | with_reducible refine rd_nt ?_ | with_reducible refine rd_nf ?_
  | (dsimp only)))

variable {P : Program} {w : World} {K : PySem.W.Frag} {mg : Str → Option Value} {base : Heap} {a : Ad}
def sp__law_sequence (K : PySem.W.Frag) : Sp := fun vs H Q _ => ∃ (p : Addr) (n m : Nat), vs = [.ref p, vN n, vN m] ∧ Src H p ∧ 1 ≤ n ∧ n ≤ 60 ∧ m ≤ 1000 ∧
  ∀ L H' (cs : List Nat), H L = none → Same' p H H' → Src H' p → H' L = some (.lst (cs.map vN)) → (∀ c ∈ cs, c < n) → cs.length ≤ m → Q (.ref L) H'
theorem ok__law_sequence (T : Txt K mg a) : FnOk P w K mg base CX0 2 a.f__law_sequence a.d__law_sequence ["source", "size", "limit"] (sp__law_sequence K) := by
  refine T.F__law_sequence.ok sc__law_sequence (fun vs H Q E h => ?_) (fun cdv A outer s H vs Q E hr h => ?_)
  · obtain ⟨p, n, m, rfl, _⟩ := h
    rfl
  · obtain ⟨p, n, m, rfl, S, n1, n2, m1, kq⟩ := h
    have nd := sc__law_sequence.nd
    refine ⟨_, (pss_cons (ps_set (i := 3) nd rfl (Or.inl rfl) (pe_call (ok__law_draw T) (hr.mono (by decide)) rfl T.g__law_draw T.k__law_draw T.n__law_draw .nil pass0 (pa_cons (pv 0) (pa_cons pe_int pa_nil))))
      (pss_cons (ps_par (i := 4) (j := 5) (by rfl) nd rfl rfl (by decide) rfl rfl (pa_cons (pe_call (ok__law_draw T) (hr.mono (by decide)) rfl T.g__law_draw T.k__law_draw T.n__law_draw .nil pass0 (pa_cons (pv 0) (pa_cons (pv 1) pa_nil))) (pa_cons (pe_call (ok__law_draw T) (hr.mono (by decide)) rfl T.g__law_draw T.k__law_draw T.n__law_draw .nil pass0 (pa_cons (pv 0) (pa_cons (pv 1) pa_nil))) pa_nil)) (by rfl))
      (pss_cons (ps_set (i := 6) nd rfl (Or.inl rfl) (pe_lst pa_nil))
      (pss_cons (ps_for PassesOwn.never rfl (pi_range1 rfl T.b_range (pa_cons (pe_call (ok__law_draw T) (hr.mono (by decide)) rfl T.g__law_draw T.k__law_draw T.n__law_draw .nil pass0 (pa_cons (pv 0) (pa_cons (pe_op op_add (pv 2) pe_int) pa_nil))) pa_nil)) (pg_name (i := 7) nd rfl (Or.inl rfl)) (pss_cons (ps_set (i := 8) nd rfl (Or.inl rfl) (pe_call (ok__law_draw T) (hr.mono (by decide)) rfl T.g__law_draw T.k__law_draw T.n__law_draw .nil pass0 (pa_cons (pv 0) (pa_cons (pv 1) pa_nil))))
      (pss_cons (ps_set (i := 9) nd rfl (Or.inl rfl) (pe_ifExp (pt_cmpR op_gt (pe_call (ok__law_draw T) (hr.mono (by decide)) rfl T.g__law_draw T.k__law_draw T.n__law_draw .nil pass0 (pa_cons (pv 0) (pa_cons pe_int pa_nil))) pe_int (nomark _)) (pv 4) (pv 8)))
      (pss_one (ps_expr (kbm (K := K) PySem.F.plainAttrs_list PySem.F.slot_list_append PySem.F.type_list_append mt_append (pv 6) (pa_cons (pe_ix (kix_list (K := K)) (pe_lst (pa_cons (pv 8) (pa_cons (pv 9) (pa_cons (pe_ix (kix_list (K := K)) (pe_lst (pa_cons (pv 4) (pa_cons (pv 5) pa_nil))) (pe_op op_mod (pv 7) pe_int) (fun _ _ => rfl)) (pa_cons (pe_op op_mod (pe_op op_add (pv 4) (pv 7)) (pv 1)) pa_nil))))) (pv 3) (fun _ _ => rfl)) pa_nil)))))))
      (pss_one (ps_ret (pv 6))))))), ?_⟩
    walk_at "rd"
    refine ⟨p, 4, rfl, S, by decide, by decide, fun kd H1 k0 k1 S1 f1 => ?_⟩
    walk_at "rd"
    refine ⟨p, n, rfl, S1, by omega, by omega, fun o1 H2 o10 o11 S2 f2 => ?_⟩
    walk_at "rd"
    refine ⟨p, n, rfl, S2, by omega, by omega, fun o2 H3 o20 o21 S3 f3 => ?_⟩
    walk_at "rd"
    have s3 : Same' p H H3 := ((Same'.of f1).trans (Same'.of f2)).trans (Same'.of f3)
    refine ⟨Nat.zero_le _, fun O hO => ?_⟩
    have hOp : O ≠ p := S3.not_none hO
    have hOH : H O = none := s3.free hO hOp
    have s4 := s3.trans (sTo p (sNew (o := .lst []) hO))
    have S4 := S3.same (sNew (o := .lst []) hO)
    have gO := upd_same (H := H3) (a := O) (o := .lst [])
    walk_at "rd"
    generalize upd H3 O (.lst []) = H4 at s4 S4 gO
    refine rd_forRn (fun z H5 => 0 ≤ z ∧ z < m + 1 ∧ Same' p H H5 ∧ Src H5 p ∧ H5 O = some (.lst [])) (fun R q => ?_) ?_
    · walk_at "rd"
      refine ⟨p, _, rfl, S4, by omega, by omega, fun z H5 z0 z1 S5 f5 => ?_⟩
      exact q z H5 ⟨z0, z1, s4.trans (Same'.of f5), S5, by rw [f5 O hOp]; exact gO⟩
    rintro z H5 ⟨z0, z1, s5, S5, gO5⟩
    refine ⟨z0, by omega, for_range (lo := 0) (n := z.toNat) (fun i σ H' => ∃ x5 x6 x7, ∃ cs : List Nat, σ = [some (.ref p), some (vN n), some (vN m), some (.int kd), some (.int o1), some (.int o2), some (.ref O), x5, x6, x7] ∧ Same' p H H' ∧ Src H' p ∧ H' O = some (.lst (cs.map vN)) ∧ (∀ c ∈ cs, c < n) ∧ cs.length = i)
      ⟨none, none, none, [], rfl, s5, S5, gO5, fun c hc => (by cases hc), rfl⟩ ?_ ?_⟩
    · rintro i σ H' hi ⟨x5, x6, x7, cs, rfl, s6, S6, gO6, hcs, hlen⟩
      have e0 : (0 : Int) + (i : Int) = (i : Int) := Int.zero_add _
      rw [e0]
      walk_at "rd"
      refine ⟨p, n, rfl, S6, by omega, by omega, fun wh H7 w0 w1 S7 f7 => ?_⟩
      walk_at "rd"
      refine rd_ifE ?_
      walk_at "rd"
      refine ⟨p, 3, rfl, S7, by decide, by decide, fun t H8 t0 t1 S8 f8 => ?_⟩
      walk_at "rd"
      have s8 := s6.trans ((Same'.of f7).trans (Same'.of f8))
      have gO8 : H8 O = some (.lst (cs.map vN)) := by rw [f8 O hOp, f7 O hOp]; exact gO6
      have hof : 0 ≤ (if 0 < t then o1 else wh) ∧ (if 0 < t then o1 else wh) < n := by split <;> omega
      refine rd_iteJ (.int (if 0 < t then o1 else wh)) (fun z R q => ?_) (fun z R q => ?_) ?_
      · rw [if_pos (of_decide_eq_true z)] at q
        walk_at "rd"
        exact q
      · rw [if_neg (of_decide_eq_false z)] at q
        walk_at "rd"
        exact q
      generalize (if 0 < t then o1 else wh) = of at hof
      walk_at "rd"
      refine ⟨Or.inl ⟨rfl, _, SqL.of gO8⟩, ?_⟩
      walk_at "rd"
      refine ⟨by show 2 ≤ sizeLine; decide, fun b1 hb1 => ?_⟩
      have a1 := sNew (o := .lst [.int o1, .int o2]) hb1
      walk_at "rd"
      have hk2 : ∃ x : Int, atI [V.int o1, V.int o2] ((i : Int) % 2) = some (.int x) ∧ 0 ≤ x ∧ x < n := by
        have : (i : Int) % 2 = 0 ∨ (i : Int) % 2 = 1 := by omega
        rcases this with e | e
        · rw [e]
          exact ⟨o1, rfl, o10, o11⟩
        · rw [e]
          exact ⟨o2, rfl, o20, o21⟩
      obtain ⟨x, hx, x0, x1⟩ := hk2
      refine rd_ixL upd_same hx ?_
      walk_at "rd"
      refine rd_I (show (0 : Int) < n by omega) ?_
      walk_at "rd"
      refine ⟨by show 4 ≤ sizeLine; decide, fun b2 hb2 => ?_⟩
      have a2 := sNew (o := .lst [.int wh, .int of, .int x, .int ((o1 + i) % n)]) hb2
      have a12 := a1.trans a2
      have r0 := Int.emod_nonneg (o1 + i) (show (n : Int) ≠ 0 by omega)
      have r1 := Int.emod_lt_of_pos (o1 + i) (show (0 : Int) < n by omega)
      obtain ⟨y, hy, hy2⟩ := pick4 wh of x ((o1 + i) % n) k0 k1
      walk_at "rd"
      refine rd_ixL upd_same hy ?_
      walk_at "rd"
      have hy3 : 0 ≤ y ∧ y < n := by rcases hy2 with e | e | e | e <;> rw [e] <;> omega
      obtain ⟨y', rfl⟩ : ∃ y' : Nat, y = (y' : Int) := ⟨y.toNat, by omega⟩
      have gO9 := a12 _ _ gO8
      refine ⟨O, _, _, rfl, rfl, gO9, sz1000 (by rw [List.length_map]; omega), ?_⟩
      refine ⟨_, _, _, cs ++ [y'], rfl, ?_, ?_, ?_, ?_, ?_⟩
      · intro b o e nb
        rw [upd_ne (ne_of_none e hOH)]
        exact a12 _ _ (s8 _ _ e nb)
      · obtain ⟨q0, q1, q2, e1, e2⟩ := S8.ex
        exact ⟨q0, q1, q2, by rw [upd_ne hOp.symm]; exact a12 _ _ e1, e2⟩
      · rw [upd_same, List.map_append]
        rfl
      · intro c hc
        rcases List.mem_append.mp hc with q | q
        · exact hcs c q
        · rw [List.mem_singleton.mp q]
          omega
      · rw [List.length_append, hlen]
        rfl
    · rintro σ H' ⟨x5, x6, x7, cs, rfl, s6, S6, gO6, hcs, hlen⟩
      walk_at "rd"
      exact kq O H' cs hOH s6 S6 gO6 hcs (by omega)
end K19

namespace K19
open PySem L2 LX
local macro_rules | `(tactic| walk_at "rd") => `(tactic| repeat (first
  | with_reducible refine rd_var rfl ?_ | with_reducible refine rd_c ?_ | with_reducible refine rd_op ?_ | with_reducible refine rd_un ?_ | with_reducible refine rd_I0 ?_ | with_reducible refine rd_U ?_
  | with_reducible refine rd_test ?_ | with_reducible refine rd_tB ?_ | with_reducible refine rd_bl ?_ | with_reducible refine rd_chain ?_
  | with_reducible refine rd_and ?_ | with_reducible refine rd_or ?_ | with_reducible refine rd_not ?_ | with_reducible refine rd_andV ?_ | with_reducible refine rd_orV ?_ | with_reducible refine rd_notV ?_
  | with_reducible refine rd_next ?_ | with_reducible refine rd_seq ?_ | with_reducible refine rd_drop ?_ | with_reducible refine rd_ret ?_ | with_reducible refine rd_ifS ?_ | with_reducible refine rd_asg ?_ | with_reducible refine rd_name ?_
  | with_reducible refine rd_par ?_ | with_reducible refine rd_two ?_ | with_reducible refine rd_2i ?_ | with_reducible refine rd_nil ?_ | with_reducible refine rd_cons ?_ | with_reducible refine rd_tup ?_ | with_reducible refine rd_lst ?_ | with_reducible refine rd_cb ?_ | with_reducible refine rd_call ?_
  | with_reducible refine rd_ixL (by assumption) rfl ?_ | with_reducible refine rd_ixT (by assumption) rfl ?_ | with_reducible refine rd_ixL upd_same rfl ?_ | with_reducible refine rd_sub ?_ | with_reducible refine rd_sl ?_ | with_reducible refine rd_nopart ?_ | with_reducible refine rd_part ?_ | with_reducible refine rd_int ?_
  | with_reducible refine rd_len (by assumption) ?_ | with_reducible refine rd_bm ?_ | with_reducible refine rd_bm0 ?_ | with_reducible refine rd_gcons ?_ | with_reducible refine rd_gnil ?_
  | ((with_reducible refine rd_I ?ci ?_); (case ci => first | assumption | (show (0 : Int) < _; decide) | exact Or.inl ⟨by decide, by decide⟩ | exact Or.inr ⟨by decide, by decide⟩ | exact ⟨by decide, by decide, (by decide : Int.natAbs 10 < 2 ^ 1000)⟩))
  | with_reducible refine rd_setL (by assumption) rfl ?_ | with_reducible refine rd_setL upd_same rfl ?_ | with_reducible refine rd_len upd_same ?_
  | with_reducible refine rd_2ty ?_ | with_reducible refine rd_NT ?_ | with_reducible refine rd_2s ?_ | with_reducible refine rd_lenS ?_ | with_reducible refine rd_lenT (by assumption) ?_ | ((with_reducible refine rd_typ ?ct ?_); (case ct => rfl))
  | ((with_reducible refine rd_eq ?cs ?_); (case cs => rfl)) | ((with_reducible refine rd_ne ?cs ?_); (case cs => rfl))
  | with_reducible refine rd_qtru ?_ | with_reducible refine rd_lstRg ?_ | with_reducible refine rd_rg1 ?_ | with_reducible refine rd_tyes ?_ | with_reducible refine rd_tyL (by assumption) ?_ | with_reducible refine rd_tyT (by assumption) ?_
  | with_reducible refine iteT ?_ | with_reducible refine iteF ?_ | with_reducible refine rd_nt ?_ | with_reducible refine rd_nf ?_
  | (dsimp only)))

variable {P : Program} {w : World} {K : PySem.W.Frag} {mg : Str → Option Value} {base : Heap} {a : Ad}
def sp__law_cells (K : PySem.W.Frag) : Sp := fun vs H Q _ => ∃ (l : Addr) (ns : List Int) (n : Int), vs = [.ref l, .int n] ∧ Scr K H l ns ∧ ns.length ≤ 63 ∧
  ∀ p H' (cs : List Int), H p = none → Same H H' → H' p = some (.lst (cs.map V.int)) → cs.length ≤ 70 → Q (.ref p) H'
theorem ok__law_cells (T : Txt K mg a) : FnOk P w K mg base CX0 1 a.f__law_cells a.d__law_cells ["script", "count"] (sp__law_cells K) := by
  refine T.F__law_cells.ok sc__law_cells (fun vs H Q E h => ?_) (fun cdv A outer s H vs Q E hr h => ?_)
  · obtain ⟨l, ns, n, rfl, _⟩ := h
    rfl
  · obtain ⟨l, ns, n, rfl, hSc, hz, kq⟩ := h
    have hS := hSc.seq
    have nd := sc__law_cells.nd
    have hu64 := hr.units
    refine ⟨_, (pss_one (ps_ret (pe_op op_cat (pe_slice (ksl_list (K := K)) (pv 0) po_none (po_some (pv 1))) (pe_op op_rep (pe_lst (pa_cons pe_int pa_nil)) (pe_callTy call_int1 (by rfl) T.b_int (by decide +kernel) (pa_cons (pe_cmpR (keqD (K := K) hu64) (pv 0) (pe_lst pa_nil) (nomark _)) pa_nil)))))), ?_⟩
    walk_at "rd"
    refine ⟨l, _, rfl, hS, fun p hp => ?_⟩
    obtain ⟨ms, e1, e2⟩ := cut_ints ns none (some n)
    rw [e1]
    have s1 : Same H (upd H p (.lst (ms.map V.int))) := sNew hp
    walk_at "rd"
    refine ⟨by show 1 ≤ sizeLine; decide, fun b hb => ?_⟩
    have s2 := s1.trans (sNew (o := .lst [V.int 0]) hb)
    walk_at "rd"
    refine ⟨Nat.zero_le _, fun q hq => ?_⟩
    have s3 := s2.trans (sNew (o := .lst []) hq)
    refine rd_eqD2 (d := dI ns) (e := dI []) (.lst (s3.seq hS) (dp_ints ns)) (.lst (SqL.of upd_same) .nil) (shp_ints _) (shp_ints _) (eqv_nil ns) ?_
    walk_at "rd"
    refine Or.inr ⟨_, rfl, ?_⟩
    have hbq : b ≠ q := (ne_of_none (o := .lst [V.int 0]) (by first | exact upd_same) hq)
    have hb3 : (upd (upd (upd H p (.lst (ms.map V.int))) b (.lst [V.int 0])) q (.lst [])) b = some (.lst [V.int 0]) := by
      rw [upd_ne hbq]
      exact upd_same
    have hbp : b ≠ p := (ne_of_none (o := .lst (ms.map V.int)) upd_same hb).symm
    have hpq : p ≠ q := ne_of_none (o := .lst (ms.map V.int)) (by rw [upd_ne hbp.symm]; exact upd_same) hq
    have hk : ∃ k : Nat, k ≤ 1 ∧ (if decide (ns = []) = true then (1 : Int) else 0) = (k : Int) := by
      by_cases c : ns = []
      · exact ⟨1, Nat.le_refl _, by rw [if_pos (decide_eq_true c)]; rfl⟩
      · exact ⟨0, by decide, by rw [if_neg (by rw [decide_eq_false c]; decide)]; rfl⟩
    obtain ⟨k, hk1, hk2⟩ := hk
    rw [hk2]
    refine ⟨b, _, _, rfl, rfl, hb3, by omega, by omega, ?_, fun c hc => ?_⟩
    · show 1 * (k : Int).toNat ≤ sizeLine
      exact sz60 (by omega)
    rw [Int.toNat_natCast, flat_rep]
    have hcp : p ≠ c := ne_of_none (o := .lst (ms.map V.int)) (by rw [upd_ne hpq, upd_ne hbp.symm]; exact upd_same) hc
    have hl : (List.replicate k (V.int 0)) = (List.replicate k (0 : Int)).map V.int := by rw [List.map_replicate]
    refine rd_cat (by rw [upd_ne hcp, upd_ne hpq, upd_ne hbp.symm]; exact upd_same) upd_same ?_ fun d hd => ?_
    · rw [List.length_map, List.length_replicate]
      exact sz60' (by omega)
    · have s4 := s3.trans (sNew (o := .lst (List.replicate k (V.int 0))) hc)
      rw [hl, ← List.map_append]
      rw [hl] at hd s4
      refine kq d _ _ (s4.free hd) (s4.trans (sNew hd)) upd_same ?_
      rw [List.length_append, List.length_replicate]
      omega
def sp__law_row (K : PySem.W.Frag) : Sp := fun vs H Q _ => ∃ (p l : Addr) (ns : List Int), vs = [.ref p, .ref l, .int 60] ∧ Src H p ∧ Scr K H l ns ∧ ns.length ≤ 63 ∧
  ∀ L H' r, H L = none → Same' p H H' → Src H' p → RowAt H' L r → Vr r → Q (.ref L) H'
theorem ok__law_row (T : Txt K mg a) : FnOk P w K mg base CX0 2 a.f__law_row a.d__law_row ["source", "script", "limit"] (sp__law_row K) := by
  refine T.F__law_row.ok sc__law_row (fun vs H Q E h => ?_) (fun cdv A outer s H vs Q E hr h => ?_)
  · obtain ⟨p, l, ns, rfl, _⟩ := h
    rfl
  · obtain ⟨p, l, ns, rfl, S, hS, hz, kq⟩ := h
    have nd := sc__law_row.nd
    have hu64 := hr.units
    refine ⟨_, (pss_cons (ps_set (i := 3) nd rfl (Or.inr rfl) pe_str)
      (pss_cons (ps_asg (pe_tup (pa_cons (pe_op op_add pe_int (pe_call (ok__law_draw T) (hr.mono (by decide)) rfl T.g__law_draw T.k__law_draw T.n__law_draw .nil pass0 (pa_cons (pv 0) (pa_cons pe_int pa_nil)))) (pa_cons (pe_op op_add pe_int (pe_call (ok__law_draw T) (hr.mono (by decide)) rfl T.g__law_draw T.k__law_draw T.n__law_draw .nil pass0 (pa_cons (pv 0) (pa_cons pe_int pa_nil)))) pa_nil))) (kpg_tup (K := K) rfl (pgs_cons (pg_name (i := 4) nd rfl (Or.inl rfl)) (pgs_cons (pg_name (i := 5) nd rfl (Or.inr rfl)) pgs_nil))))
      (Evl.pss_cut (ps_if (pt_cmpR (kneD (K := K) hu64) (pv 1) (pe_lst pa_nil) (nomark _)) (pss_cons (ps_set (i := 6) nd rfl (Or.inl rfl) (pe_lst (pa_cons pe_int (pa_cons (pe_op op_add pe_int (pe_call (ok__law_draw T) (hr.mono (by decide)) rfl T.g__law_draw T.k__law_draw T.n__law_draw .nil pass0 (pa_cons (pv 0) (pa_cons pe_int pa_nil)))) (pa_cons (pe_op op_add pe_int (pe_call (ok__law_draw T) (hr.mono (by decide)) rfl T.g__law_draw T.k__law_draw T.n__law_draw .nil pass0 (pa_cons (pv 0) (pa_cons pe_int pa_nil)))) (pa_cons (pv 2) pa_nil))))))
      (pss_one (ps_asg (pe_tup (pa_cons (pe_callB (call_min2 rfl) (by rfl) T.b_min (by decide +kernel) (pa_cons (pv 2) (pa_cons (pe_ix (kix_list (K := K)) (pv 6) (pe_call (ok__law_draw T) (hr.mono (by decide)) rfl T.g__law_draw T.k__law_draw T.n__law_draw .nil pass0 (pa_cons (pv 0) (pa_cons pe_int pa_nil))) (fun _ _ => rfl)) pa_nil))) (pa_cons (pe_ix (kix_list (K := K)) (pe_lst (pa_cons pe_int (pa_cons pe_int (pa_cons pe_int (pa_cons pe_int pa_nil))))) (pe_call (ok__law_draw T) (hr.mono (by decide)) rfl T.g__law_draw T.k__law_draw T.n__law_draw .nil pass0 (pa_cons (pv 0) (pa_cons pe_int pa_nil))) (fun _ _ => rfl)) pa_nil))) (kpg_tup (K := K) rfl (pgs_cons (pg_name (i := 4) nd rfl (Or.inl rfl)) (pgs_cons (pg_name (i := 5) nd rfl (Or.inr rfl)) pgs_nil)))))) pss_nil)
      (pss_cons (ps_set (i := 7) nd rfl (Or.inr rfl) (pe_call (ok__law_draw T) (hr.mono (by decide)) rfl T.g__law_draw T.k__law_draw T.n__law_draw .nil pass0 (pa_cons (pv 0) (pa_cons (pe_op op_sub pe_int (pv 5)) pa_nil))))
      (pss_cons (ps_set (i := 8) nd rfl (Or.inr rfl) (pe_listRg rfl rfl T.b_list (prg_1 rfl T.b_range (pv 4))))
      (pss_one (ps_ret (pe_lc (own := [("k", 9)]) (g := gName 9) (tt := tYes) rfl nd (pi_range1 rfl T.b_range (pa_cons (pv 4) pa_nil)) (blkOk_by (own := [("k", 9)]) (N := ["source", "script", "limit", "letters", "size", "width", "sizes", "start", "left", "k"]) (sc := defScope s__law_row) (by decide +kernel)) (fun _ _ _ _ _ => (pg_name (i := 9) nd rfl (Or.inl rfl))) (fun _ _ _ _ _ => pts_nil) (fun _ _ _ _ _ => (pe_tup (pa_cons (kbm (K := K) PySem.F.plainAttrs_list PySem.F.slot_list_pop PySem.F.type_list_pop mt_popAt (pv 8) (pa_cons (pe_call (ok__law_draw T) (hr.mono (by decide)) rfl T.g__law_draw T.k__law_draw T.n__law_draw .nil pass0 (pa_cons (pv 0) (pa_cons (pe_callB (klen (K := K)) (by rfl) T.b_len (by decide +kernel) (pa_cons (pv 8) pa_nil)) pa_nil))) pa_nil)) (pa_cons (pe_ix ix_str (pv 3) (pe_op op_add (pv 7) (pe_call (ok__law_draw T) (hr.mono (by decide)) rfl T.g__law_draw T.k__law_draw T.n__law_draw .nil pass0 (pa_cons (pv 0) (pa_cons (pv 5) pa_nil)))) (fun _ _ => rfl)) pa_nil)))))))))))), ?_⟩
    walk_at "rd"
    refine ⟨p, 2, rfl, S, by decide, by decide, fun r1 H1 r10 r11 S1 f1 => ?_⟩
    walk_at "rd"
    refine ⟨p, 2, rfl, S1, by decide, by decide, fun r2 H2 r20 r21 S2 f2 => ?_⟩
    walk_at "rd"
    refine ⟨by show 2 ≤ sizeLine; decide, fun t ht => ?_⟩
    have s2 : Same' p H H2 := (Same'.of f1).trans (Same'.of f2)
    have s3 : Same' p H (upd H2 t (.tup [.int (2 + r1), .int (2 + r2)])) := s2.trans (sTo p (sNew ht))
    have S3 : Src (upd H2 t (.tup [.int (2 + r1), .int (2 + r2)])) p := S2.same (sNew ht)
    refine rd_gtup upd_same rfl ?_
    walk_at "rd"
    refine rd_cut (fun σ' H' => ∃ (sz wd : Int) (x6 : Option V), σ' = [some (.ref p), some (.ref l), some (.int 60), some (.str (Str.ofString "abcdefghijklmnopqrstuvwxyz")), some (.int sz), some (.int wd), x6, none, none, none] ∧ 1 ≤ sz ∧ sz ≤ 60 ∧ 1 ≤ wd ∧ wd ≤ 26 ∧ Same' p H H' ∧ Src H' p) ?_ ?_
    · walk_at "rd"
      refine ⟨Nat.zero_le _, fun q hq => ?_⟩
      have s4 := s3.trans (sTo p (sNew (o := .lst []) hq))
      have S4 := S3.same (sNew (o := .lst []) hq)
      refine rd_neD2 (d := dI ns) (e := dI []) (.lst (hS.same' s4 S.lst).seq (dp_ints ns)) (.lst (SqL.of upd_same) .nil) (shp_ints _) (shp_ints _) (eqv_nil ns) ?_
      walk_at "rd"
      refine rd_ndec (fun _ => ?_) fun _ => ?_
      · walk_at "rd"
        refine ⟨p, 5, rfl, S4, by decide, by decide, fun a1 H3 a10 a11 S5 f5 => ?_⟩
        walk_at "rd"
        refine ⟨p, 20, rfl, S5, by decide, by decide, fun a2 H4 a20 a21 S6 f6 => ?_⟩
        walk_at "rd"
        refine ⟨by show 4 ≤ sizeLine; decide, fun b hb => ?_⟩
        have s6 := s4.trans ((Same'.of f5).trans (Same'.of f6))
        have s7 := s6.trans (sTo p (sNew (o := .lst [.int 1, .int (1 + a1), .int (1 + a2), .int 60]) hb))
        have S7 := S6.same (sNew (o := .lst [.int 1, .int (1 + a1), .int (1 + a2), .int 60]) hb)
        have hbp : b ≠ p := S6.not_none hb
        walk_at "rd"
        refine ⟨p, 4, rfl, S7, by decide, by decide, fun a3 H5 a30 a31 S8 f8 => ?_⟩
        have s8 := s7.trans (Same'.of f8)
        obtain ⟨x, hx, hx2⟩ := pick4 1 (1 + a1) (1 + a2) 60 a30 a31
        refine rd_ixL (by rw [f8 b hbp]; exact upd_same) hx ?_
        walk_at "rd"
        refine ⟨by show 4 ≤ sizeLine; decide, fun b2 hb2 => ?_⟩
        have s9 := s8.trans (sTo p (sNew (o := .lst [.int 1, .int 2, .int 3, .int 26]) hb2))
        have S9 := S8.same (sNew (o := .lst [.int 1, .int 2, .int 3, .int 26]) hb2)
        have hbp2 : b2 ≠ p := S8.not_none hb2
        walk_at "rd"
        refine ⟨p, 4, rfl, S9, by decide, by decide, fun a4 H6 a40 a41 S10 f10 => ?_⟩
        have s10 := s9.trans (Same'.of f10)
        obtain ⟨y, hy, hy2⟩ := pick4 1 2 3 26 a40 a41
        refine rd_ixL (by rw [f10 b2 hbp2]; exact upd_same) hy ?_
        walk_at "rd"
        refine ⟨by show 2 ≤ sizeLine; decide, fun t2 ht2 => ?_⟩
        refine rd_gtup upd_same rfl ?_
        walk_at "rd"
        refine ⟨_, y, _, rfl, ?_, ?_, by omega, by omega, s10.trans (sTo p (sNew ht2)), S10.same (sNew ht2)⟩
        · split <;> omega
        · split <;> omega
      · walk_at "rd"
        exact ⟨2 + r1, 2 + r2, none, rfl, by omega, by omega, by omega, by omega, s4, S4⟩
    · rintro σ' H' ⟨sz, wd, x6, rfl, z1, z2, w1, w2, s5, S5⟩
      walk_at "rd"
      refine ⟨p, 27 - wd, rfl, S5, by omega, by omega, fun st H6 st0 st1 S6 f6 => ?_⟩
      walk_at "rd"
      refine ⟨RgOk.of_le (by omega) (by omega) (by omega) (by omega), fun q hq => ?_⟩
      have s6 := s5.trans (Same'.of f6)
      have hqp : q ≠ p := S6.not_none hq
      have s7 := s6.trans (sTo p (sNew (o := .lst (rgV 0 sz)) hq))
      have S7 := S6.same (sNew (o := .lst (rgV 0 sz)) hq)
      walk_at "rd"
      refine ⟨_, rfl, sz, rfl, by omega, by omega, fun D hD => lc_range (lo := 0) (n := sz.toNat) (fun i H8 => Drw H8 D q p sz.toNat i H) ?_ ?_ ?_⟩
      · have hDq : D ≠ q := (ne_of_none (o := .lst (rgV 0 sz)) upd_same hD).symm
        refine ⟨⟨[], [], List.range sz.toNat, upd_same, ?_, True.intro, rfl, List.Perm.refl _, fun e he => by cases he⟩, S7.same (sNew hD), s7.trans (sTo p (sNew hD))⟩
        rw [upd_ne hDq.symm, upd_same, rgV_nat (by omega)]
      · rintro i H8 hi ⟨⟨us, rr, ls, hD8, hq8, ht8, hl8, hp8, hc8⟩, S8, s8⟩
        have hlen := hp8.length_eq
        rw [List.length_append, List.length_map, List.length_range] at hlen
        have hls : 0 < ls.length := by omega
        have hlm : ((ls.map vN).length : Int) = (ls.length : Int) := by rw [List.length_map]
        walk_at "rd"
        refine ⟨rfl, ?_⟩
        walk_at "rd"
        refine ⟨Or.inl ⟨rfl, _, SqL.of hq8⟩, ?_⟩
        walk_at "rd"
        refine ⟨p, _, rfl, S8, by omega, by omega, fun j H9 j0 j1 S9 f9 => ?_⟩
        obtain ⟨j, rfl⟩ : ∃ j' : Nat, j = (j' : Int) := ⟨j.toNat, by omega⟩
        have hj : j < ls.length := by omega
        have hDp : D ≠ p := S7.not_none hD
        have hDq : D ≠ q := (ne_of_none (o := .lst (rgV 0 sz)) upd_same hD).symm
        obtain ⟨per, hper⟩ : ∃ x, ls[j]? = some x := ⟨ls[j], List.getElem?_eq_getElem hj⟩
        have hq9 : H9 q = some (.lst (ls.map vN)) := by rw [f9 q hqp]; exact hq8
        have hD9 : H9 D = some (.lst (us.map V.ref)) := by rw [f9 D hDp]; exact hD8
        refine ⟨q, _, _, j, vN per, rfl, rfl, hq9, by omega, by omega, seqIx (by rw [List.length_map]; exact hj), by rw [List.getElem?_map, hper]; rfl, ?_⟩
        rw [erase_map]
        walk_at "rd"
        have S10 : Src (upd H9 q (.lst ((ls.eraseIdx j).map vN))) p := by
          obtain ⟨s0, s1, s2, e1, e2⟩ := S9.ex
          exact ⟨s0, s1, s2, by rw [upd_ne hqp.symm]; exact e1, e2⟩
        refine ⟨p, wd, rfl, S10, by omega, by omega, fun m H11 m0 m1 S11 f11 => ?_⟩
        walk_at "rd"
        obtain ⟨m', em⟩ : ∃ m' : Nat, st + m = (m' : Int) := ⟨(st + m).toNat, by omega⟩
        have hm' : m' < 26 := by omega
        rw [em]
        refine ⟨_, _, 97 + m', rfl, rfl, abc_len, abc_at m' hm', ?_⟩
        walk_at "rd"
        refine ⟨by show 2 ≤ sizeLine; decide, fun tt htt => ?_⟩
        have hq11 : H11 q = some (.lst ((ls.eraseIdx j).map vN)) := by rw [f11 q hqp]; exact upd_same
        have hD11 : H11 D = some (.lst (us.map V.ref)) := by rw [f11 D hDp, upd_ne hDq]; exact hD9
        have ht11 : TupsAt H11 us rr := ht8.mono fun b xs e => by
          have hbp : b ≠ p := fun z => by
            obtain ⟨ys, hy⟩ := S8.lst
            rw [z, hy] at e
            cases e
          have hbq : b ≠ q := fun z => by
            rw [z, hq8] at e
            cases e
          rw [f11 b hbp, upd_ne hbq, f9 b hbp]
          exact e
        have new := sNew (o := .tup [vN per, sg (97 + m')]) htt
        refine ⟨_, new _ _ hD11, lt60 (by rw [List.length_map, ht8.len]; omega), ⟨us ++ [tt], rr ++ [(per, 97 + m')], ls.eraseIdx j, ?_, ?_, ?_, ?_, ?_, ?_⟩, ?_, ?_⟩
        · rw [upd_same, List.map_append]
          rfl
        · rw [upd_ne hDq.symm]
          exact new _ _ hq11
        · refine (TupsAt.app (ht11.mono (sTups new)) (TupsAt.one upd_same)).mono fun b xs e => ?_
          rw [upd_ne fun z => by rw [z, new _ _ hD11] at e; cases e]
          exact e
        · rw [List.length_append, hl8]
          rfl
        · rw [List.map_append, List.append_assoc]
          exact ((List.Perm.refl _).append (erase_perm hper)).trans hp8
        · intro e he
          rcases List.mem_append.mp he with z | z
          · exact hc8 e z
          · have : e = (per, 97 + m') := by simpa using z
            rw [this]
            show 97 ≤ 97 + m' ∧ 97 + m' ≤ 122
            omega
        · obtain ⟨s0, s1, s2, e1, e2⟩ := S11.ex
          exact ⟨s0, s1, s2, by rw [upd_ne hDp.symm]; exact new _ _ e1, e2⟩
        · intro b o e n
          have hbD : b ≠ D := ne_of_none e (s7.free hD hDp)
          have hbq : b ≠ q := ne_of_none e (s6.free hq hqp)
          rw [upd_ne hbD]
          refine new _ _ ?_
          rw [f11 b n, upd_ne hbq, f9 b n]
          exact s8 _ _ e n
      · intro H8 hd
        obtain ⟨r, hR, hV⟩ := drw_end hd (by omega) (by omega)
        refine kq D H8 r ?_ hd.same hd.src hR hV
        exact s7.free hD (S7.not_none hD)
end K19


/-! ### runs and shortened lists -/
namespace LX
open PySem L2
def rcons (x : Int) : List (Int × Nat) → List (Int × Nat)
  | [] => [(x, 1)]
  | e :: rs => if e.1 = x then (x, e.2 + 1) :: rs else (x, 1) :: e :: rs
theorem rsnoc_cons (e f : Int × Nat) (rs : List (Int × Nat)) (y : Int) : rsnoc (e :: f :: rs) y = e :: rsnoc (f :: rs) y := by
  unfold rsnoc
  rw [show (e :: f :: rs).getLast? = (f :: rs).getLast? from by simp]
  cases q : (f :: rs).getLast? with
  | none => simp at q
  | some z =>
    show (if z.1 = y then _ else _) = e :: (if z.1 = y then _ else _)
    split
    · simp
    · rfl
theorem rsnoc_eq {e : Int × Nat} {y : Int} (h : e.1 = y) : rsnoc [e] y = [(y, e.2 + 1)] := by
  unfold rsnoc
  show (if e.1 = y then _ else _) = _
  rw [if_pos h]
  rfl
theorem rsnoc_ne {e : Int × Nat} {y : Int} (h : e.1 ≠ y) : rsnoc [e] y = [e, (y, 1)] := by
  unfold rsnoc
  show (if e.1 = y then _ else _) = _
  rw [if_neg h]
  rfl
theorem rcons_eq {e : Int × Nat} {x : Int} {rs : List (Int × Nat)} (h : e.1 = x) : rcons x (e :: rs) = (x, e.2 + 1) :: rs := if_pos h
theorem rcons_ne {e : Int × Nat} {x : Int} {rs : List (Int × Nat)} (h : e.1 ≠ x) : rcons x (e :: rs) = (x, 1) :: e :: rs := if_neg h
theorem rcons_snoc (x y : Int) : ∀ rs : List (Int × Nat), rsnoc (rcons x rs) y = rcons x (rsnoc rs y)
  | [] => by
    show rsnoc [(x, 1)] y = rcons x [(y, 1)]
    by_cases h : x = y
    · rw [rsnoc_eq h, rcons_eq (e := (y, 1)) h.symm, h]
    · rw [rsnoc_ne h, rcons_ne (e := (y, 1)) fun z => h z.symm]
  | [e] => by
    by_cases h : e.1 = x
    · rw [rcons_eq h]
      by_cases k : x = y
      · rw [rsnoc_eq (e := (x, e.2 + 1)) k, rsnoc_eq (h.trans k), rcons_eq (e := (y, e.2 + 1)) k.symm, k]
      · rw [rsnoc_ne (e := (x, e.2 + 1)) k, rsnoc_ne fun z => k (h.symm.trans z), rcons_eq h]
    · rw [rcons_ne h, rsnoc_cons]
      by_cases k : e.1 = y
      · rw [rsnoc_eq k, rcons_ne (e := (y, e.2 + 1)) fun z => h (k.trans z)]
      · rw [rsnoc_ne k, rcons_ne h]
  | e :: f :: rs => by
    rw [rsnoc_cons]
    by_cases h : e.1 = x
    · rw [rcons_eq h, rsnoc_cons, rcons_eq h]
    · rw [rcons_ne h, rsnoc_cons, rsnoc_cons, rcons_ne h]
theorem runs_fold (x : Int) : ∀ (cs : List Int) (rs : List (Int × Nat)), cs.foldl rsnoc (rcons x rs) = rcons x (cs.foldl rsnoc rs)
  | [], _ => rfl
  | y :: cs, rs => by
    show cs.foldl rsnoc (rsnoc (rcons x rs) y) = rcons x (cs.foldl rsnoc (rsnoc rs y))
    rw [rcons_snoc, runs_fold x cs]
theorem runsI_cons (x : Int) (cs : List Int) : runsI (x :: cs) = rcons x (runsI cs) := runs_fold x cs []
theorem rsnoc_rev (x : Int) : ∀ rs : List (Int × Nat), (rsnoc rs.reverse x).reverse = rcons x rs
  | [] => rfl
  | e :: rs => by
    unfold rsnoc
    rw [List.reverse_cons, List.getLast?_concat]
    show (if e.1 = x then _ else _ : List (Int × Nat)).reverse = if e.1 = x then _ else _
    split
    · simp_all
    · simp
theorem runs_rev : ∀ cs : List Int, (runsI cs.reverse).reverse = runsI cs
  | [] => rfl
  | x :: cs => by
    have ih := runs_rev cs
    rw [List.reverse_cons, runsI_snoc, runsI_cons, ← ih, ← rsnoc_rev, List.reverse_reverse]
/-- neighbours differ, counts from 1 -/
def Prp : List (Int × Nat) → Prop
  | [] => True
  | [e] => 1 ≤ e.2
  | e :: f :: rs => 1 ≤ e.2 ∧ e.1 ≠ f.1 ∧ Prp (f :: rs)
theorem Prp.head {e : Int × Nat} {rs : List (Int × Nat)} (h : Prp (e :: rs)) : 1 ≤ e.2 := by
  cases rs with
  | nil => exact h
  | cons f rs => exact h.1
theorem Prp.tail {e : Int × Nat} {rs : List (Int × Nat)} (h : Prp (e :: rs)) : Prp rs := by
  cases rs with
  | nil => trivial
  | cons f rs => exact h.2.2
theorem prp_cons (x : Int) : ∀ {rs : List (Int × Nat)}, Prp rs → Prp (rcons x rs)
  | [], _ => Nat.le_refl 1
  | [e], h => by
    by_cases k : e.1 = x
    · rw [rcons_eq k]
      exact Nat.le_add_left 1 e.2
    · rw [rcons_ne k]
      exact ⟨Nat.le_refl 1, fun z => k z.symm, h⟩
  | e :: f :: rs, h => by
    by_cases k : e.1 = x
    · rw [rcons_eq k]
      exact ⟨Nat.le_add_left 1 e.2, by rw [← k]; exact h.2.1, h.2.2⟩
    · rw [rcons_ne k]
      exact ⟨Nat.le_refl 1, fun z => k z.symm, h⟩
theorem prp_runs : ∀ cs : List Int, Prp (runsI cs)
  | [] => trivial
  | x :: cs => by
    rw [runsI_cons]
    exact prp_cons x (prp_runs cs)
def nrm (e : Int × Nat) : Int × Nat := (e.1, if e.2 % 2 = 1 then 1 else 2)
theorem shortR_cons (e : Int × Nat) (rs : List (Int × Nat)) : shortR (e :: rs) = List.replicate (nrm e).2 e.1 ++ shortR rs := rfl
theorem runs_short : ∀ {rs : List (Int × Nat)}, Prp rs → runsI (shortR rs) = rs.map nrm
  | [], _ => rfl
  | e :: rs, h => by
    have ih := runs_short h.tail
    have one : rcons e.1 (rs.map nrm) = (e.1, 1) :: rs.map nrm := by
      cases rs with
      | nil => rfl
      | cons f rs =>
        show (if (nrm f).1 = e.1 then _ else _) = _
        rw [if_neg fun z => h.2.1 z.symm]
        rfl
    rw [shortR_cons, List.map_cons]
    unfold nrm
    by_cases k : e.2 % 2 = 1
    · rw [if_pos k]
      show runsI (e.1 :: shortR rs) = _
      rw [runsI_cons, ih, one]
      rfl
    · rw [if_neg k]
      show runsI (e.1 :: e.1 :: shortR rs) = _
      rw [runsI_cons, runsI_cons, ih, one]
      show (if e.1 = e.1 then _ else _) = _
      rw [if_pos rfl]
      rfl
theorem shortR_nrm : ∀ rs : List (Int × Nat), shortR (rs.map nrm) = shortR rs
  | [] => rfl
  | e :: rs => by
    rw [List.map_cons, shortR_cons, shortR_cons, shortR_nrm rs]
    have : (nrm (nrm e)).2 = (nrm e).2 := by
      unfold nrm
      dsimp only
      split <;> rfl
    rw [this]
    rfl
theorem short_short (cs : List Int) : short (short cs) = short cs := by
  unfold short
  rw [runs_short (prp_runs cs), shortR_nrm]
/-- the list from its runs -/
def grow (rs : List (Int × Nat)) : List Int := rs.flatMap fun e => List.replicate e.2 e.1
theorem grow_cons (x : Int) : ∀ rs : List (Int × Nat), grow (rcons x rs) = x :: grow rs
  | [] => rfl
  | e :: rs => by
    by_cases k : e.1 = x
    · rw [rcons_eq k]
      show List.replicate (e.2 + 1) x ++ grow rs = x :: (List.replicate e.2 e.1 ++ grow rs)
      rw [k, List.replicate_succ]
      rfl
    · rw [rcons_ne k]
      rfl
theorem grow_runs : ∀ cs : List Int, grow (runsI cs) = cs
  | [] => rfl
  | x :: cs => by
    rw [runsI_cons, grow_cons, grow_runs cs]
theorem short_mem {cs : List Int} {x : Int} (h : x ∈ short cs) : x ∈ cs := by
  obtain ⟨e, he, hx⟩ := List.mem_flatMap.mp h
  have h1 := (List.mem_replicate.mp hx).2
  have pos : ∀ {rs : List (Int × Nat)}, Prp rs → ∀ e ∈ rs, 1 ≤ e.2 := by
    intro rs
    induction rs with
    | nil => intro _ e he; cases he
    | cons f rs ih =>
      intro hp e he
      rcases List.mem_cons.mp he with z | z
      · rw [z]; exact hp.head
      · exact ih hp.tail e z
  have h2 : x ∈ grow (runsI cs) := List.mem_flatMap.mpr ⟨e, he, List.mem_replicate.mpr ⟨by have := pos (prp_runs cs) e he; omega, h1⟩⟩
  rw [grow_runs] at h2
  exact h2
theorem rcons_map {f : Int → Int} (inj : ∀ a b, f a = f b → a = b) (x : Int) (rs : List (Int × Nat)) : rcons (f x) (rs.map fun e => (f e.1, e.2)) = (rcons x rs).map fun e => (f e.1, e.2) := by
  cases rs with
  | nil => rfl
  | cons e rs =>
    show (if f e.1 = f x then _ else _) = List.map _ (if e.1 = x then _ else _)
    by_cases k : e.1 = x
    · rw [if_pos k, if_pos (by rw [k])]
      rfl
    · rw [if_neg k, if_neg fun z => k (inj _ _ z)]
      rfl
theorem runs_map {f : Int → Int} (inj : ∀ a b, f a = f b → a = b) : ∀ cs : List Int, runsI (cs.map f) = (runsI cs).map fun e => (f e.1, e.2)
  | [] => rfl
  | x :: cs => by
    rw [List.map_cons, runsI_cons, runsI_cons, runs_map inj cs, rcons_map inj]
theorem short_map {f : Int → Int} (inj : ∀ a b, f a = f b → a = b) (cs : List Int) : short (cs.map f) = (short cs).map f := by
  unfold short
  rw [runs_map inj]
  generalize runsI cs = rs
  induction rs with
  | nil => rfl
  | cons e rs ih =>
    rw [List.map_cons, shortR_cons, shortR_cons, ih, List.map_append, List.map_replicate]
    rfl
/-! ### the final lineup -/
def nx (o : Row) (c : Nat) : Nat := (fo o c).getD c
theorem nx3 (o : Row) (c : Nat) : nx o (nx o (nx o c)) = nx o c := by
  cases o with
  | nil => rfl
  | cons e o =>
    have yes : ∀ d, e.2 ≠ d → nx (e :: o) d = e.2 := fun d h => by
      unfold nx
      rw [fo_yes h]
      rfl
    have no : nx (e :: o) e.2 = (fo o e.2).getD e.2 := by
      unfold nx
      rw [fo_no rfl]
    by_cases h : e.2 = c
    · rw [← h, no]
      cases q : fo o e.2 with
      | none =>
        show nx (e :: o) (nx (e :: o) e.2) = e.2
        rw [no, q]
        show nx (e :: o) e.2 = e.2
        rw [no, q]
        rfl
      | some d =>
        obtain ⟨_, _, _, ne⟩ := fo_mem q
        show nx (e :: o) (nx (e :: o) d) = d
        rw [yes d fun z => ne z.symm, no, q]
        rfl
    · rw [yes c h, no]
      cases q : fo o e.2 with
      | none =>
        show nx (e :: o) e.2 = e.2
        rw [no, q]
        rfl
      | some d =>
        obtain ⟨_, _, _, ne⟩ := fo_mem q
        exact yes d fun z => ne z.symm
theorem app_front {p c : Nat} {o : Row} (h : ∀ e ∈ o, e.1 ≠ p) : app ((p, c) :: o) p = (p, nx o c) :: o := by
  have hc : colOf ((p, c) :: o) p = c := by
    unfold colOf
    rw [List.find?_cons_of_pos (by simp)]
    rfl
  unfold app nx
  rw [hc, fo_no rfl, List.filter_cons_of_neg (by simp), List.filter_eq_self.mpr fun e he => by simpa using h e he]
theorem fo_out {c p : Nat} : ∀ {r : Row}, (∀ e ∈ r, e.1 = p → e.2 = c) → fo r c = fo (r.filter fun e => e.1 != p) c
  | [], _ => rfl
  | x :: r, hh => by
    have ih := fo_out (r := r) fun e he => hh e (List.mem_cons_of_mem _ he)
    by_cases k : x.1 = p
    · rw [fo_no (hh x List.mem_cons_self k), List.filter_cons_of_neg (by simpa using k)]
      exact ih
    · rw [List.filter_cons_of_pos (by simpa using k)]
      by_cases d : x.2 = c
      · rw [fo_no d, fo_no d, ih]
      · rw [fo_yes d, fo_yes d]
theorem app3 {r : Row} (V0 : Vr r) {p : Nat} (hp : p < r.length) : app (app (app r p) p) p = app r p := by
  have h : ∀ e ∈ r.filter fun e => e.1 != p, e.1 ≠ p := fun e he => by simpa using (List.mem_filter.mp he).2
  have e1 : app r p = (p, nx (r.filter fun e => e.1 != p) (colOf r p)) :: r.filter fun e => e.1 != p := by
    unfold app nx
    rw [fo_out (p := p) fun e he k => by rw [← k, colOf_is V0.nodup he]]
  rw [e1, app_front h, app_front h, nx3]
theorem apps_rep {r : Row} (V0 : Vr r) {p : Nat} (hp : p < r.length) : ∀ n : Nat, 1 ≤ n → apps r (List.replicate n p) = apps r (List.replicate (if n % 2 = 1 then 1 else 2) p)
  | 1, _ => rfl
  | 2, _ => rfl
  | n + 3, _ => by
    have ih := apps_rep V0 hp (n + 1) (Nat.le_add_left 1 n)
    have e : (n + 3) % 2 = (n + 1) % 2 := by omega
    rw [e, ← ih]
    show apps (app (app (app r p) p) p) (List.replicate n p) = apps (app r p) (List.replicate n p)
    rw [app3 V0 hp]
theorem apps_grow : ∀ {rs : List (Int × Nat)} {r : Row}, Prp rs → Vr r → (∀ e ∈ rs, e.1.toNat < r.length) → apps r ((shortR rs).map Int.toNat) = apps r ((grow rs).map Int.toNat)
  | [], _, _, _, _ => rfl
  | e :: rs, r, h, V0, hl => by
    have cat : ∀ (x y : List Nat), apps r (x ++ y) = apps (apps r x) y := fun x y => List.foldl_append ..
    have hp := hl e List.mem_cons_self
    have e1 : shortR (e :: rs) = List.replicate (if e.2 % 2 = 1 then 1 else 2) e.1 ++ shortR rs := rfl
    have e2 : grow (e :: rs) = List.replicate e.2 e.1 ++ grow rs := rfl
    rw [e1, e2, List.map_append, List.map_append, cat, cat, List.map_replicate, List.map_replicate, ← apps_rep V0 hp e.2 h.head]
    have Vn := apps_len V0 (List.replicate e.2 e.1.toNat) fun q hq => by rw [(List.mem_replicate.mp hq).2]; exact hp
    exact apps_grow h.tail Vn.1 fun f hf => by rw [Vn.2]; exact hl f (List.mem_cons_of_mem _ hf)
/-- the lineup after the shortened list is the same -/
theorem apps_short {r : Row} (V0 : Vr r) {cs : List Int} (h : ∀ x ∈ cs, x.toNat < r.length) : apps r ((short cs).map Int.toNat) = apps r (cs.map Int.toNat) := by
  have hl : ∀ e ∈ runsI cs, e.1.toNat < r.length := fun e he => by
    refine h e.1 (short_mem (List.mem_flatMap.mpr ⟨e, he, List.mem_replicate.mpr ⟨?_, rfl⟩⟩))
    split <;> omega
  unfold short
  rw [apps_grow (prp_runs cs) V0 hl, grow_runs]
end LX

/-! ### no three equal; the called people stand in front, latest first -/
namespace LX
open PySem L2
def No3 : List Int → Prop
  | a :: b :: c :: l => ¬ (a = b ∧ b = c) ∧ No3 (b :: c :: l)
  | _ => True
theorem No3.tail {a : Int} {l : List Int} (h : No3 (a :: l)) : No3 l := by
  match l, h with
  | [], _ => trivial
  | [_], _ => trivial
  | _ :: _ :: _, h => exact h.2
theorem no3_at : ∀ {s : List Int} (k : Nat) {x : Int}, No3 s → s[k]? = some x → s[k + 1]? = some x → s[k + 2]? = some x → False
  | a :: b :: c :: l, 0, x, h, h1, h2, h3 => by
    cases h1
    injection (show some b = some a from h2) with h2
    injection (show some c = some a from h3) with h3
    exact h.1 ⟨h2.symm, h2.trans h3.symm⟩
  | [a, b], 0, _, _, _, _, h3 => by cases h3
  | [a], 0, _, _, _, h2, _ => by cases h2
  | [], _, _, _, h1, _, _ => by cases h1
  | a :: l, k + 1, x, h, h1, h2, h3 => no3_at (s := l) k h.tail h1 h2 h3
theorem shortR_head {e : Int × Nat} {rs : List (Int × Nat)} : (shortR (e :: rs)).head? = some e.1 := by
  rw [shortR_cons]
  unfold nrm
  dsimp only
  split <;> rfl
theorem no3_short : ∀ {rs : List (Int × Nat)}, Prp rs → No3 (shortR rs)
  | [], _ => trivial
  | e :: rs, h => by
    have ih := no3_short h.tail
    have hd : ∀ y, (shortR rs).head? = some y → e.1 ≠ y := fun y hy => by
      cases rs with
      | nil => cases hy
      | cons f rs =>
        rw [shortR_head] at hy
        cases hy
        exact h.2.1
    rw [shortR_cons]
    unfold nrm
    dsimp only
    split
    · show No3 (e.1 :: shortR rs)
      match q : shortR rs, ih, hd with
      | [], _, _ => trivial
      | [_], _, _ => trivial
      | y :: z :: l, ih, hd => exact ⟨fun w => hd y rfl w.1, ih⟩
    · show No3 (e.1 :: e.1 :: shortR rs)
      match q : shortR rs, ih, hd with
      | [], _, _ => trivial
      | [y], _, hd => exact ⟨fun w => hd y rfl w.2, trivial⟩
      | y :: z :: l, ih, hd => exact ⟨fun w => hd y rfl w.2, fun w => hd y rfl w.1, ih⟩
theorem no3_runs (cs : List Int) : No3 (short cs) := no3_short (prp_runs cs)
def lfS (acc : List Nat) (x : Nat) : List Nat := if x ∈ acc then acc else acc ++ [x]
def lf (rs : List Nat) : List Nat := rs.foldl lfS []
theorem lf_step (p : Nat) : ∀ (rs acc : List Nat), rs.foldl lfS (p :: acc.filter fun x => x != p) = p :: (rs.foldl lfS acc).filter fun x => x != p
  | [], _ => rfl
  | x :: rs, acc => by
    have e : lfS (p :: acc.filter fun x => x != p) x = p :: (lfS acc x).filter fun x => x != p := by
      unfold lfS
      by_cases hx : x = p
      · rw [if_pos (by rw [hx]; exact List.mem_cons_self)]
        split
        · rfl
        · rw [List.filter_append, List.filter_cons_of_neg (by simpa using hx), List.filter_nil, List.append_nil]
      · have iff : x ∈ (p :: acc.filter fun x => x != p) ↔ x ∈ acc := by
          rw [List.mem_cons, List.mem_filter]
          constructor
          · rintro (z | z)
            · exact absurd z hx
            · exact z.1
          · exact fun z => Or.inr ⟨z, by simpa using hx⟩
        by_cases k : x ∈ acc
        · rw [if_pos (iff.mpr k), if_pos k]
        · rw [if_neg fun z => k (iff.mp z), if_neg k, List.filter_append, List.filter_cons_of_pos (by simpa using hx), List.filter_nil]
          rfl
    show rs.foldl lfS (lfS (p :: acc.filter fun x => x != p) x) = _
    rw [e]
    exact lf_step p rs (lfS acc x)
theorem lf_cons (p : Nat) (rs : List Nat) : lf (p :: rs) = p :: (lf rs).filter fun x => x != p := lf_step p rs []
/-- the called people in front, latest first; behind them the others as they stood -/
theorem apps_split (r : Row) (cs : List Nat) : ∃ X : Row, apps r cs = X ++ r.filter (fun e => !cs.contains e.1) ∧ X.map (·.1) = lf cs.reverse := by
  suffices h : ∀ ds : List Nat, ∃ X : Row, apps r ds.reverse = X ++ r.filter (fun e => !ds.reverse.contains e.1) ∧ X.map (·.1) = lf ds by
    have := h cs.reverse
    rw [List.reverse_reverse] at this
    exact this
  intro ds
  induction ds with
  | nil =>
    refine ⟨[], ?_, rfl⟩
    show r = r.filter _
    exact (List.filter_eq_self.mpr fun e _ => rfl).symm
  | cons p ds ih =>
    obtain ⟨X, h1, h2⟩ := ih
    rw [List.reverse_cons, apps_snoc, h1]
    refine ⟨(p, (fo (X ++ r.filter fun e => !ds.reverse.contains e.1) (colOf (X ++ r.filter fun e => !ds.reverse.contains e.1) p)).getD (colOf (X ++ r.filter fun e => !ds.reverse.contains e.1) p)) :: X.filter fun e => e.1 != p, ?_, ?_⟩
    · unfold app
      rw [List.filter_append, List.filter_filter, List.cons_append]
      congr 2
      apply List.filter_congr
      intro e _
      by_cases k : e.1 = p
      · simp [k]
      · simp [k]
    · rw [List.map_cons, lf_cons, ← h2, List.filter_map]
      rfl
theorem apps_cat (r : Row) (x y : List Nat) : apps r (x ++ y) = apps (apps r x) y := List.foldl_append ..
/-- a call twice before the same call changes nothing -/
theorem apps_twice {r : Row} (V0 : Vr r) {x y : List Nat} {p : Nat} (hx : ∀ q ∈ x, q < r.length) (hp : p < r.length) : apps r (x ++ [p, p] ++ (p :: y)) = apps r (x ++ (p :: y)) := by
  have V1 := apps_len V0 x hx
  rw [apps_cat, apps_cat, apps_cat]
  show apps (app (app (app (apps r x) p) p) p) y = apps (app (apps r x) p) y
  rw [app3 V1.1 (by rw [V1.2]; exact hp)]
end LX

/-! ### renamed rows; one more at the end -/
namespace LX
open PySem L2
section
variable {f g : Nat → Nat} {n : Nat}
def ren (f g : Nat → Nat) (r : Row) : Row := r.map fun e => (f e.1, g e.2)
def Inj1 (f : Nat → Nat) (n : Nat) : Prop := ∀ a b, a < n → b < n → f a = f b → a = b
def InjC (g : Nat → Nat) : Prop := ∀ c d, 97 ≤ c ∧ c ≤ 122 → 97 ≤ d ∧ d ≤ 122 → g c = g d → c = d
theorem fo_ren (hg : InjC g) {c : Nat} (hc : 97 ≤ c ∧ c ≤ 122) : ∀ {r : Row}, Cok r → fo (ren f g r) (g c) = (fo r c).map g
  | [], _ => rfl
  | e :: r, h => by
    have ih := fo_ren hg hc (r := r) fun x hx => h x (List.mem_cons_of_mem _ hx)
    show fo ((f e.1, g e.2) :: ren f g r) (g c) = _
    by_cases k : e.2 = c
    · rw [fo_no k, fo_no (e := (f e.1, g e.2)) (by show g e.2 = g c; rw [k]), ih]
    · rw [fo_yes k, fo_yes (e := (f e.1, g e.2)) fun z => k (hg _ _ (h e List.mem_cons_self) hc z)]
      rfl
theorem colOf_ren (hf : Inj1 f n) {p : Nat} (hp : p < n) : ∀ {r : Row}, (∀ e ∈ r, e.1 < n) → (∃ e ∈ r, e.1 = p) → colOf (ren f g r) (f p) = g (colOf r p)
  | [], _, h => by
    obtain ⟨e, he, _⟩ := h
    cases he
  | e :: r, hl, h => by
    unfold colOf
    show ((List.find? (fun e => e.1 == f p) ((f e.1, g e.2) :: ren f g r)).map (·.2)).getD 0 = _
    by_cases k : e.1 = p
    · rw [List.find?_cons_of_pos (by simp [k]), List.find?_cons_of_pos (by simpa using k)]
      rfl
    · have nk : f e.1 ≠ f p := fun z => k (hf _ _ (hl e List.mem_cons_self) hp z)
      rw [List.find?_cons_of_neg (by simpa using nk), List.find?_cons_of_neg (by simpa using k)]
      refine colOf_ren hf hp (r := r) (fun x hx => hl x (List.mem_cons_of_mem _ hx)) ?_
      obtain ⟨x, hx, hq⟩ := h
      rcases List.mem_cons.mp hx with z | z
      · exact absurd (z ▸ hq) k
      · exact ⟨x, z, hq⟩
theorem filter_ren (hf : Inj1 f n) {p : Nat} (hp : p < n) : ∀ {r : Row}, (∀ e ∈ r, e.1 < n) → (ren f g r).filter (fun e => e.1 != f p) = ren f g (r.filter fun e => e.1 != p)
  | [], _ => rfl
  | e :: r, hl => by
    have ih := filter_ren hf hp (r := r) fun x hx => hl x (List.mem_cons_of_mem _ hx)
    show ((f e.1, g e.2) :: ren f g r).filter _ = _
    by_cases k : e.1 = p
    · rw [List.filter_cons_of_neg (by simp [k]), List.filter_cons_of_neg (by simpa using k), ih]
    · have nk : f e.1 ≠ f p := fun z => k (hf _ _ (hl e List.mem_cons_self) hp z)
      rw [List.filter_cons_of_pos (by simpa using nk), List.filter_cons_of_pos (by simpa using k), ih]
      rfl
theorem take_ren (hf : Inj1 f n) (hg : InjC g) {r : Row} (V0 : Vr r) (hn : r.length = n) {p : Nat} (hp : p < n) : fo (ren f g r) (colOf (ren f g r) (f p)) = (fo r (colOf r p)).map g := by
  have hl : ∀ e ∈ r, e.1 < n := fun e he => hn ▸ V0.lt he
  rw [colOf_ren hf hp hl (V0.has (hn ▸ hp)), fo_ren hg (V0.colOf (hn ▸ hp)) V0.col]
theorem app_ren (hf : Inj1 f n) (hg : InjC g) {r : Row} (V0 : Vr r) (hn : r.length = n) {p : Nat} (hp : p < n) : app (ren f g r) (f p) = ren f g (app r p) := by
  have hl : ∀ e ∈ r, e.1 < n := fun e he => hn ▸ V0.lt he
  unfold app
  rw [take_ren hf hg V0 hn hp, filter_ren hf hp hl, colOf_ren hf hp hl (V0.has (hn ▸ hp))]
  show _ = (f p, g ((fo r (colOf r p)).getD (colOf r p))) :: _
  cases fo r (colOf r p) <;> rfl
theorem apps_ren (hf : Inj1 f n) (hg : InjC g) : ∀ {cs : List Nat} {r : Row}, Vr r → r.length = n → (∀ p ∈ cs, p < n) → apps (ren f g r) (cs.map f) = ren f g (apps r cs) ∧ takens (ren f g r) (cs.map f) = (takens r cs).map (Option.map g)
  | [], _, _, _, _ => ⟨rfl, rfl⟩
  | p :: cs, r, V0, hn, h => by
    have hp := h p List.mem_cons_self
    have hp2 : p < r.length := by rw [hn]; exact hp
    obtain ⟨h1, h2⟩ := apps_ren hf hg (cs := cs) (V0.app hp2) ((app_len V0 hp2).trans hn) fun q hq => h q (List.mem_cons_of_mem _ hq)
    have e := app_ren hf hg V0 hn hp
    constructor
    · show apps (app (ren f g r) (f p)) (cs.map f) = ren f g (apps (app r p) cs)
      rw [e, h1]
    · show fo (ren f g r) (colOf (ren f g r) (f p)) :: takens (app (ren f g r) (f p)) (cs.map f) = ((fo r (colOf r p)) :: takens (app r p) cs).map (Option.map g)
      rw [e, h2, take_ren hf hg V0 hn hp]
      rfl
theorem ren_len (r : Row) : (ren f g r).length = r.length := List.length_map _
theorem vr_ren {r : Row} (V0 : Vr r) (hp : ((List.range r.length).map f).Perm (List.range r.length)) (hc : ∀ c, 97 ≤ c ∧ c ≤ 122 → 97 ≤ g c ∧ g c ≤ 122) : Vr (ren f g r) := by
  refine ⟨by rw [ren_len]; exact V0.n1, by rw [ren_len]; exact V0.n2, fun e he => ?_, ?_⟩
  · obtain ⟨x, hx, rfl⟩ := List.mem_map.mp he
    exact hc _ (V0.col x hx)
  · rw [ren_len]
    have e : (ren f g r).map (·.1) = (r.map (·.1)).map f := by
      unfold ren
      rw [List.map_map, List.map_map]
      rfl
    rw [e]
    exact (V0.perm.map f).trans hp
end
/-! one more at the end -/
theorem fo_more {r : Row} {z : Nat × Nat} {c d : Nat} (h : fo r c = some d) : fo (r ++ [z]) c = some d := by
  unfold fo at h ⊢
  obtain ⟨e, h1, h2⟩ := Option.map_eq_some_iff.mp h
  rw [List.find?_append, h1]
  exact congrArg some h2
theorem colOf_more {r : Row} {z : Nat × Nat} {p : Nat} (h : ∃ e ∈ r, e.1 = p) : colOf (r ++ [z]) p = colOf r p := by
  unfold colOf
  rw [List.find?_append]
  cases q : r.find? fun e => e.1 == p with
  | none =>
    obtain ⟨e, h1, h2⟩ := h
    exact absurd (by simpa using h2) (List.find?_eq_none.mp q e h1)
  | some e => rfl
theorem app_more {r : Row} {z : Nat × Nat} {p d : Nat} (h : ∃ e ∈ r, e.1 = p) (hz : z.1 ≠ p) (hd : fo r (colOf r p) = some d) : app (r ++ [z]) p = app r p ++ [z] ∧ fo (r ++ [z]) (colOf (r ++ [z]) p) = some d := by
  unfold app
  rw [colOf_more h, fo_more hd, hd, List.filter_append, List.filter_cons_of_pos (by simpa using hz), List.filter_nil]
  exact ⟨rfl, rfl⟩
theorem more {z : Nat × Nat} : ∀ {cs : List Nat} {r : Row}, Vr r → (∀ p ∈ cs, p < r.length) → r.length ≤ z.1 → none ∉ takens r cs → apps (r ++ [z]) cs = apps r cs ++ [z] ∧ takens (r ++ [z]) cs = takens r cs
  | [], _, _, _, _, _ => ⟨rfl, rfl⟩
  | p :: cs, r, V0, h, hz, hn => by
    have hp := h p List.mem_cons_self
    have hn' : none ∉ fo r (colOf r p) :: takens (app r p) cs := hn
    cases hd : fo r (colOf r p) with
    | none => rw [hd] at hn'; exact absurd List.mem_cons_self hn'
    | some d =>
      obtain ⟨e1, e2⟩ := app_more (z := z) (V0.has hp) (by omega) hd
      have hl := app_len V0 hp
      obtain ⟨h1, h2⟩ := more (z := z) (cs := cs) (V0.app hp) (fun q hq => by rw [hl]; exact h q (List.mem_cons_of_mem _ hq)) (by rw [hl]; exact hz) fun w => hn' (List.mem_cons_of_mem _ w)
      constructor
      · show apps (app (r ++ [z]) p) cs = apps (app r p) cs ++ [z]
        rw [e1, h1]
      · show fo (r ++ [z]) (colOf (r ++ [z]) p) :: takens (app (r ++ [z]) p) cs = fo r (colOf r p) :: takens (app r p) cs
        rw [e1, e2, h2, hd]
theorem vr_more {r : Row} (V0 : Vr r) (h : r.length < 60) {c : Nat} (c1 : 97 ≤ c) (c2 : c ≤ 122) : Vr (r ++ [(r.length, c)]) := by
  refine ⟨by rw [List.length_append]; exact Nat.le_add_left _ _, by rw [List.length_append]; exact h, fun e he => ?_, ?_⟩
  · rcases List.mem_append.mp he with z | z
    · exact V0.col e z
    · rw [List.mem_singleton.mp z]
      exact ⟨c1, c2⟩
  · rw [List.length_append, List.map_append]
    show (r.map (·.1) ++ [r.length]).Perm (List.range (r.length + 1))
    rw [List.range_succ]
    exact V0.perm.append_right _
end LX
namespace K19
open PySem L2 LX
local macro_rules | `(tactic| walk_at "rd") => `(tactic| repeat (first
  | with_reducible refine rd_var rfl ?_ | with_reducible refine rd_c ?_ | with_reducible refine rd_op ?_ | with_reducible refine rd_un ?_ | with_reducible refine rd_I0 ?_ | with_reducible refine rd_U ?_
  | with_reducible refine rd_test ?_ | with_reducible refine rd_tB ?_ | with_reducible refine rd_bl ?_ | with_reducible refine rd_chain ?_
  | with_reducible refine rd_and ?_ | with_reducible refine rd_or ?_ | with_reducible refine rd_not ?_ | with_reducible refine rd_andV ?_ | with_reducible refine rd_orV ?_ | with_reducible refine rd_notV ?_
  | with_reducible refine rd_next ?_ | with_reducible refine rd_seq ?_ | with_reducible refine rd_drop ?_ | with_reducible refine rd_ret ?_ | with_reducible refine rd_ifS ?_ | with_reducible refine rd_asg ?_ | with_reducible refine rd_name ?_
  | with_reducible refine rd_par ?_ | with_reducible refine rd_two ?_ | with_reducible refine rd_2i ?_ | with_reducible refine rd_nil ?_ | with_reducible refine rd_cons ?_ | with_reducible refine rd_tup ?_ | with_reducible refine rd_lst ?_ | with_reducible refine rd_cb ?_ | with_reducible refine rd_call ?_
  | with_reducible refine rd_ixL (by assumption) rfl ?_ | with_reducible refine rd_ixT (by assumption) rfl ?_ | with_reducible refine rd_ixL upd_same rfl ?_ | with_reducible refine rd_sub ?_ | with_reducible refine rd_sl ?_ | with_reducible refine rd_nopart ?_ | with_reducible refine rd_part ?_ | with_reducible refine rd_int ?_
  | with_reducible refine rd_len (by assumption) ?_ | with_reducible refine rd_bm ?_ | with_reducible refine rd_bm0 ?_ | with_reducible refine rd_gcons ?_ | with_reducible refine rd_gnil ?_
  | ((with_reducible refine rd_I ?ci ?_); (case ci => first | assumption | (show (0 : Int) < _; decide) | exact Or.inl ⟨by decide, by decide⟩ | exact Or.inr ⟨by decide, by decide⟩ | exact ⟨by decide, by decide, (by decide : Int.natAbs 10 < 2 ^ 1000)⟩))
  | with_reducible refine rd_setL (by assumption) rfl ?_ | with_reducible refine rd_setL upd_same rfl ?_ | with_reducible refine rd_len upd_same ?_
  | with_reducible refine rd_2ty ?_ | with_reducible refine rd_NT ?_ | with_reducible refine rd_2s ?_ | with_reducible refine rd_lenS ?_ | with_reducible refine rd_lenT (by assumption) ?_ | ((with_reducible refine rd_typ ?ct ?_); (case ct => rfl))
  | ((with_reducible refine rd_eq ?cs ?_); (case cs => rfl)) | ((with_reducible refine rd_ne ?cs ?_); (case cs => rfl))
  | with_reducible refine rd_qtru ?_ | with_reducible refine rd_lstRg ?_ | with_reducible refine rd_rg1 ?_ | with_reducible refine rd_tyes ?_ | with_reducible refine rd_tyL (by assumption) ?_ | with_reducible refine rd_tyT (by assumption) ?_
  | with_reducible refine iteT ?_ | with_reducible refine iteF ?_ | with_reducible refine rd_nt ?_ | with_reducible refine rd_nf ?_
  | (dsimp only)))

variable {P : Program} {w : World} {K : PySem.W.Frag} {mg : Str → Option Value} {base : Heap} {a : Ad}
/-- drawn so far us, still there ls -/
def Per (H H8 : Hp) (D q p : Addr) (n i : Nat) : Prop := ∃ us ls : List Nat, H8 D = some (.lst (us.map vN)) ∧ H8 q = some (.lst (ls.map vN)) ∧ us.length = i ∧ (us ++ ls).Perm (List.range n) ∧ Src H8 p ∧ Same' p H H8
def sp__law_permutation (K : PySem.W.Frag) : Sp := fun vs H Q _ => ∃ (p : Addr) (n : Nat), vs = [.ref p, vN n] ∧ Src H p ∧ 1 ≤ n ∧ n ≤ 60 ∧
  ∀ L H' (xs : List Nat), H L = none → Same' p H H' → Src H' p → H' L = some (.lst (xs.map vN)) → xs.Perm (List.range n) → Q (.ref L) H'
theorem ok__law_permutation (T : Txt K mg a) : FnOk P w K mg base CX0 2 a.f__law_permutation a.d__law_permutation ["source", "size"] (sp__law_permutation K) := by
  refine T.F__law_permutation.ok sc__law_permutation (fun vs H Q E h => ?_) (fun cdv A outer s H vs Q E hr h => ?_)
  · obtain ⟨p, n, rfl, _⟩ := h
    rfl
  · obtain ⟨p, n, rfl, S, n1, n2, kq⟩ := h
    have nd := sc__law_permutation.nd
    refine ⟨_, (pss_cons (ps_set (i := 2) nd rfl (Or.inr rfl) (pe_listRg rfl rfl T.b_list (prg_1 rfl T.b_range (pv 1))))
      (pss_one (ps_ret (pe_lc (own := [("k", 3)]) (g := gName 3) (tt := tYes) rfl nd (pi_range1 rfl T.b_range (pa_cons (pv 1) pa_nil)) (blkOk_by (own := [("k", 3)]) (N := ["source", "size", "left", "k"]) (sc := defScope s__law_permutation) (by decide +kernel)) (fun _ _ _ _ _ => (pg_name (i := 3) nd rfl (Or.inl rfl))) (fun _ _ _ _ _ => pts_nil) (fun _ _ _ _ _ => (kbm (K := K) PySem.F.plainAttrs_list PySem.F.slot_list_pop PySem.F.type_list_pop mt_popAt (pv 2) (pa_cons (pe_call (ok__law_draw T) (hr.mono (by decide)) rfl T.g__law_draw T.k__law_draw T.n__law_draw .nil pass0 (pa_cons (pv 0) (pa_cons (pe_callB (klen (K := K)) (by rfl) T.b_len (by decide +kernel) (pa_cons (pv 2) pa_nil)) pa_nil))) pa_nil))))))), ?_⟩
    walk_at "rd"
    refine ⟨RgOk.of_le (by omega) (by omega) (by omega) (by omega), fun q hq => ?_⟩
    have hqp : q ≠ p := S.not_none hq
    have s1 : Same' p H (upd H q (.lst (rgV 0 (n : Int)))) := sTo p (sNew hq)
    have S1 := S.same (sNew (o := .lst (rgV 0 (n : Int))) hq)
    walk_at "rd"
    refine ⟨_, rfl, n, rfl, by omega, by omega, fun D hD => lc_range (lo := 0) (n := n) (fun i H8 => Per H H8 D q p n i) ?_ ?_ ?_⟩
    · have hDq : D ≠ q := (ne_of_none (o := .lst (rgV 0 (n : Int))) upd_same hD).symm
      refine ⟨[], List.range n, upd_same, ?_, rfl, List.Perm.refl _, S1.same (sNew hD), s1.trans (sTo p (sNew hD))⟩
      rw [upd_ne hDq.symm, upd_same, rgV_nat (by omega), Int.toNat_natCast]
    · rintro i H8 hi ⟨us, ls, hD8, hq8, hl8, hp8, S8, s8⟩
      have hlen := hp8.length_eq
      rw [List.length_append, List.length_range] at hlen
      have hls : 0 < ls.length := by omega
      have hlm : ((ls.map vN).length : Int) = (ls.length : Int) := by rw [List.length_map]
      have hDp : D ≠ p := S1.not_none hD
      have hDq : D ≠ q := (ne_of_none (o := .lst (rgV 0 (n : Int))) upd_same hD).symm
      walk_at "rd"
      refine ⟨rfl, ?_⟩
      walk_at "rd"
      refine ⟨Or.inl ⟨rfl, _, SqL.of hq8⟩, ?_⟩
      walk_at "rd"
      refine ⟨p, _, rfl, S8, by omega, by omega, fun j H9 j0 j1 S9 f9 => ?_⟩
      obtain ⟨j, rfl⟩ : ∃ j' : Nat, j = (j' : Int) := ⟨j.toNat, by omega⟩
      have hj : j < ls.length := by omega
      obtain ⟨per, hper⟩ : ∃ x, ls[j]? = some x := ⟨ls[j], List.getElem?_eq_getElem hj⟩
      have hq9 : H9 q = some (.lst (ls.map vN)) := by rw [f9 q hqp]; exact hq8
      have hD9 : H9 D = some (.lst (us.map vN)) := by rw [f9 D hDp]; exact hD8
      refine ⟨q, _, _, j, vN per, rfl, rfl, hq9, by omega, by omega, LX.seqIx (by rw [List.length_map]; exact hj), by rw [List.getElem?_map, hper]; rfl, ?_⟩
      rw [erase_map]
      refine ⟨us.map vN, by rw [upd_ne hDq]; exact hD9, lt60 (by rw [List.length_map]; omega), us ++ [per], ls.eraseIdx j, ?_, ?_, ?_, ?_, ?_, ?_⟩
      · rw [upd_same, List.map_append]
        rfl
      · rw [upd_ne hDq.symm, upd_same]
      · rw [List.length_append, hl8]
        rfl
      · rw [List.append_assoc]
        exact ((List.Perm.refl _).append (erase_perm hper)).trans hp8
      · obtain ⟨q0, q1, q2, e1, e2⟩ := S9.ex
        exact ⟨q0, q1, q2, by rw [upd_ne hDp.symm, upd_ne hqp.symm]; exact e1, e2⟩
      · intro b o e nb
        have hbD : b ≠ D := ne_of_none e (s1.free hD hDp)
        have hbq : b ≠ q := ne_of_none e hq
        rw [upd_ne hbD, upd_ne hbq, f9 b nb]
        exact s8 _ _ e nb
    · rintro H8 ⟨us, ls, hD8, hq8, hl8, hp8, S8, s8⟩
      have hlen := hp8.length_eq
      rw [List.length_append, List.length_range] at hlen
      have e : ls = [] := List.length_eq_zero_iff.mp (by omega)
      rw [e, List.append_nil] at hp8
      exact kq D H8 us (s1.free hD (S1.not_none hD)) s8 S8 hD8 hp8
theorem occ_at : ∀ m : Nat, m < 26 → PySem.Builtin.Str.occurrences (Str.ofString "abcdefghijklmnopqrstuvwxyz") ⟨#[97 + m]⟩ 0 (Str.ofString "abcdefghijklmnopqrstuvwxyz").length 1 = [m] := by
  decide +kernel
abbrev ltr (ks : List Nat) (c : Nat) : Nat := ks.getD (c - 97) 0
def sp__law_letter (K : PySem.W.Frag) : Sp := fun vs H Q _ => ∃ (B : Addr) (ks : List Nat) (o : Option Nat), vs = [.ref B, oV o] ∧ H B = some (.lst (ks.map sg)) ∧ ks.length = 26 ∧ (∀ c, o = some c → 97 ≤ c ∧ c ≤ 122) ∧ Q (oV (o.map (ltr ks))) H
theorem ok__law_letter (T : Txt K mg a) : FnOk P w K mg base CX0 1 a.f__law_letter a.d__law_letter ["letters", "color"] (sp__law_letter K) := by
  refine T.F__law_letter.ok sc__law_letter (fun vs H Q E h => ?_) (fun cdv A outer s H vs Q E hr h => ?_)
  · obtain ⟨B, ks, o, rfl, _⟩ := h
    rfl
  · obtain ⟨B, ks, o, rfl, hB, hk, ho, kq⟩ := h
    have nd := sc__law_letter.nd
    refine ⟨_, (pss_one (ps_ret (pe_ifExp (pt_cmpR op_isN (pv 1) pe_non (nomark _)) pe_non (pe_ix (kix_list (K := K)) (pv 0) (kbm (K := K) PySem.F.plainAttrs_str PySem.F.slot_str_index PySem.F.type_str_index mt_sindex pe_str (pa_cons (pv 1) pa_nil)) (fun _ _ => rfl))))), ?_⟩
    walk_at "rd"
    refine rd_ifE ?_
    walk_at "rd"
    refine ⟨rfl, ?_⟩
    walk_at "rd"
    cases o with
    | none =>
      refine rd_yes rfl ?_
      walk_at "rd"
      exact kq
    | some c =>
      have hc := ho c rfl
      obtain ⟨m, hm, rfl⟩ : ∃ m, m < 26 ∧ c = 97 + m := ⟨c - 97, by omega, by omega⟩
      refine rd_no (fun z => by cases z) ?_
      walk_at "rd"
      refine ⟨rfl, ?_⟩
      walk_at "rd"
      refine ⟨_, _, m, [], rfl, rfl, occ_at m hm, ?_⟩
      have hg : ks[m]? = some (ltr ks (97 + m)) := by
        show ks[m]? = some (ks.getD (97 + m - 97) 0)
        rw [show 97 + m - 97 = m by omega, List.getD_eq_getElem?_getD, List.getElem?_eq_getElem (by omega)]
        rfl
      exact rd_ixL hB (atI_nat (by rw [List.getElem?_map, hg]; rfl)) kq
def sp__law_renamed (K : PySem.W.Frag) : Sp := fun vs H Q _ => ∃ (l A B : Addr) (r : Row) (ns ks : List Nat), vs = [.ref l, .ref A, .ref B] ∧ RowAt H l r ∧ Vr r ∧ H A = some (.lst (ns.map vN)) ∧ ns.length = r.length ∧ H B = some (.lst (ks.map sg)) ∧ ks.length = 26 ∧
  ∀ L H', H L = none → Same H H' → RowAt H' L (ren (fun q => ns.getD q 0) (ltr ks) r) → Q (.ref L) H'
theorem getD_at {ns : List Nat} {q : Nat} (h : q < ns.length) : ns[q]? = some (ns.getD q 0) := by
  rw [List.getD_eq_getElem?_getD, List.getElem?_eq_getElem h]
  rfl
theorem ok__law_renamed (T : Txt K mg a) : FnOk P w K mg base CX0 2 a.f__law_renamed a.d__law_renamed ["row", "numbers", "letters"] (sp__law_renamed K) := by
  refine T.F__law_renamed.ok sc__law_renamed (fun vs H Q E h => ?_) (fun cdv A outer s H vs Q E hr h => ?_)
  · obtain ⟨l, A, B, r, ns, ks, rfl, _⟩ := h
    rfl
  · obtain ⟨l, A, B, r, ns, ks, rfl, hR, V0, hA, hn, hB, hk, kq⟩ := h
    have nd := sc__law_renamed.nd
    obtain ⟨ts, hl, ht⟩ := hR
    have n60 := V0.n2
    refine ⟨_, (pss_one (ps_ret (pe_lc (own := [("one", 3), ("color", 4)]) (g := gTup K 2 (gCons (gName 3) (gCons (gName 4) gNil))) (tt := tYes) rfl nd (kpi_list (K := K) (pv 0)) (blkOk_by (own := [("one", 3), ("color", 4)]) (N := ["row", "numbers", "letters", "one", "color"]) (sc := defScope s__law_renamed) (by decide +kernel)) (fun _ _ _ _ _ => (kpg_tup (K := K) rfl (pgs_cons (pg_name (i := 3) nd rfl (Or.inl rfl)) (pgs_cons (pg_name (i := 4) nd rfl (Or.inl rfl)) pgs_nil)))) (fun _ _ _ _ _ => pts_nil) (fun _ _ _ _ _ => (pe_tup (pa_cons (pe_ix (kix_list (K := K)) (pv 1) (pv 3) (fun _ _ => rfl)) (pa_cons (pe_call (ok__law_letter T) (hr.mono (by decide)) rfl T.g__law_letter T.k__law_letter T.n__law_letter .nil pass0 (pa_cons (pv 2) (pa_cons (pv 4) pa_nil))) pa_nil))))))), ?_⟩
    walk_at "rd"
    refine ⟨_, rfl, l, rfl, ⟨_, SqL.of hl⟩, fun D hD => lc_list (K := K) (a := l) (xs := ts.map V.ref) (fun i H3 => Same H H3 ∧ ∃ us, H3 D = some (.lst (us.map V.ref)) ∧ TupsAt H3 us (ren (fun q => ns.getD q 0) (ltr ks) (r.take i))) ⟨sNew hD, [], upd_same, True.intro⟩
      (fun i H3 _ h => SqL.of (h.1 _ _ hl)) ?_ ?_⟩
    · rintro i v H3 hi ⟨s3, us, gD, hU⟩
      rw [List.getElem?_map] at hi
      obtain ⟨t, h1, rfl⟩ := Option.map_eq_some_iff.mp hi
      obtain ⟨e, h2, h3⟩ := ht.get h1
      have he := List.mem_of_getElem? h2
      have hz := hU.len
      rw [ren_len, List.length_take] at hz
      refine rd_gtup (s3 _ _ h3) rfl ?_
      walk_at "rd"
      refine ⟨rfl, ?_⟩
      walk_at "rd"
      refine rd_ixL (s3 _ _ hA) (atI_nat (by rw [List.getElem?_map, getD_at (by rw [hn]; exact V0.lt he)]; rfl)) ?_
      walk_at "rd"
      refine ⟨B, ks, some e.2, rfl, s3 _ _ hB, hk, fun c hc => by cases hc; exact V0.col e he, ?_⟩
      walk_at "rd"
      refine ⟨by show 2 ≤ sizeLine; decide, fun tt htt => ?_⟩
      have a1 := sNew (o := .tup [vN (ns.getD e.1 0), sg (ltr ks e.2)]) htt
      refine ⟨_, a1 _ _ gD, lt60 (by rw [List.length_map]; omega), sUpd (s3.trans a1) hD, us ++ [tt], ?_, ?_⟩
      · rw [upd_same, List.map_append]
        rfl
      · have er : ren (fun q => ns.getD q 0) (ltr ks) (r.take (i + 1)) = ren (fun q => ns.getD q 0) (ltr ks) (r.take i) ++ [(ns.getD e.1 0, ltr ks e.2)] := by
          rw [take_of h2]
          exact List.map_append
        rw [er]
        refine (TupsAt.app (hU.mono (sTups a1)) (TupsAt.one upd_same)).mono fun b ys eb => ?_
        rw [upd_ne fun z => by rw [z, a1 _ _ gD] at eb; cases eb]
        exact eb
    · rintro H3 ⟨s3, us, gD, hU⟩
      rw [List.length_map, ht.len, List.take_length] at hU
      exact kq D H3 hD s3 ⟨us, gD, hU⟩
end K19

namespace K19
open PySem L2 LX
local macro_rules | `(tactic| walk_at "rd") => `(tactic| repeat (first
  | with_reducible refine rd_var rfl ?_ | with_reducible refine rd_c ?_ | with_reducible refine rd_op ?_ | with_reducible refine rd_un ?_ | with_reducible refine rd_I0 ?_ | with_reducible refine rd_U ?_
  | with_reducible refine rd_test ?_ | with_reducible refine rd_tB ?_ | with_reducible refine rd_bl ?_ | with_reducible refine rd_chain ?_
  | with_reducible refine rd_and ?_ | with_reducible refine rd_or ?_ | with_reducible refine rd_not ?_ | with_reducible refine rd_andV ?_ | with_reducible refine rd_orV ?_ | with_reducible refine rd_notV ?_
  | with_reducible refine rd_next ?_ | with_reducible refine rd_seq ?_ | with_reducible refine rd_drop ?_ | with_reducible refine rd_ret ?_ | with_reducible refine rd_ifS ?_ | with_reducible refine rd_asg ?_ | with_reducible refine rd_name ?_
  | with_reducible refine rd_par ?_ | with_reducible refine rd_two ?_ | with_reducible refine rd_2i ?_ | with_reducible refine rd_nil ?_ | with_reducible refine rd_cons ?_ | with_reducible refine rd_tup ?_ | with_reducible refine rd_lst ?_ | with_reducible refine rd_cb ?_ | with_reducible refine rd_call ?_
  | with_reducible refine rd_ixL (by assumption) rfl ?_ | with_reducible refine rd_ixT (by assumption) rfl ?_ | with_reducible refine rd_ixL upd_same rfl ?_ | with_reducible refine rd_sub ?_ | with_reducible refine rd_sl ?_ | with_reducible refine rd_nopart ?_ | with_reducible refine rd_part ?_ | with_reducible refine rd_int ?_
  | with_reducible refine rd_len (by assumption) ?_ | with_reducible refine rd_bm ?_ | with_reducible refine rd_bm0 ?_ | with_reducible refine rd_gcons ?_ | with_reducible refine rd_gnil ?_
  | ((with_reducible refine rd_I ?ci ?_); (case ci => first | assumption | (show (0 : Int) < _; decide) | exact Or.inl ⟨by decide, by decide⟩ | exact Or.inr ⟨by decide, by decide⟩ | exact ⟨by decide, by decide, (by decide : Int.natAbs 10 < 2 ^ 1000)⟩))
  | with_reducible refine rd_setL (by assumption) rfl ?_ | with_reducible refine rd_setL upd_same rfl ?_ | with_reducible refine rd_len upd_same ?_
  | with_reducible refine rd_2ty ?_ | with_reducible refine rd_NT ?_ | with_reducible refine rd_2s ?_ | with_reducible refine rd_lenS ?_ | with_reducible refine rd_lenT (by assumption) ?_ | ((with_reducible refine rd_typ ?ct ?_); (case ct => rfl))
  | ((with_reducible refine rd_eq ?cs ?_); (case cs => rfl)) | ((with_reducible refine rd_ne ?cs ?_); (case cs => rfl))
  | with_reducible refine rd_qtru ?_ | with_reducible refine rd_lstRg ?_ | with_reducible refine rd_rg1 ?_ | with_reducible refine rd_tyes ?_ | with_reducible refine rd_tyL (by assumption) ?_ | with_reducible refine rd_tyT (by assumption) ?_
  | with_reducible refine iteT ?_ | with_reducible refine iteF ?_ | with_reducible refine rd_nt ?_ | with_reducible refine rd_nf ?_
  | (dsimp only)))

variable {P : Program} {w : World} {K : PySem.W.Frag} {mg : Str → Option Value} {base : Heap} {a : Ad}
theorem getD_range : ∀ xs : List Nat, (List.range xs.length).map (fun q => xs.getD q 0) = xs := fun xs => by
  apply List.ext_getElem?
  intro i
  rw [List.getElem?_map]
  by_cases h : i < xs.length
  · rw [List.getElem?_range h, getD_at h]
    rfl
  · rw [List.getElem?_eq_none (by rw [List.length_range]; omega), List.getElem?_eq_none (by omega)]
    rfl
theorem inj_of {xs : List Nat} (nd : xs.Nodup) {i j : Nat} (hi : i < xs.length) (hj : j < xs.length) (e : xs.getD i 0 = xs.getD j 0) : i = j := by
  have h1 := getD_at hi
  have h2 := getD_at hj
  rw [e] at h1
  have pw := List.pairwise_iff_getElem.mp nd
  rw [List.getElem?_eq_getElem hi] at h1
  rw [List.getElem?_eq_getElem hj] at h2
  have e3 : xs[i] = xs[j] := by
    injection h1 with h1
    injection h2 with h2
    rw [h1, h2]
  rcases Nat.lt_trichotomy i j with k | k | k
  · exact absurd e3 (pw i j hi hj k)
  · exact k
  · exact absurd e3.symm (pw j i hj hi k)
/-- the renaming of persons as one of all ints -/
def ext (f : Nat → Nat) (n : Nat) (x : Int) : Int := if 0 ≤ x ∧ x < n then (f x.toNat : Int) else x
theorem ext_inj {f : Nat → Nat} {n : Nat} (hf : Inj1 f n) (hr : ∀ q, q < n → f q < n) : ∀ x y, ext f n x = ext f n y → x = y := by
  intro x y
  unfold ext
  by_cases hx : 0 ≤ x ∧ x < n
  · rw [if_pos hx]
    by_cases hy : 0 ≤ y ∧ y < n
    · rw [if_pos hy]
      intro e
      have := hf x.toNat y.toNat (by omega) (by omega) (by omega)
      omega
    · rw [if_neg hy]
      intro e
      have := hr x.toNat (by omega)
      omega
  · rw [if_neg hx]
    by_cases hy : 0 ≤ y ∧ y < n
    · rw [if_pos hy]
      intro e
      have := hr y.toNat (by omega)
      omega
    · rw [if_neg hy]
      exact id
abbrev up (cs : List Nat) : List Int := cs.map fun c : Nat => (c : Int)
theorem up_v (cs : List Nat) : (up cs).map V.int = cs.map vN := by
  rw [List.map_map]
  rfl
theorem up_ext {f : Nat → Nat} {n : Nat} : ∀ {cs : List Nat}, (∀ c ∈ cs, c < n) → (up cs).map (ext f n) = up (cs.map f)
  | [], _ => rfl
  | c :: cs, h => by
    have e : ext f n (c : Int) = (f c : Int) := by
      unfold ext
      rw [if_pos ⟨by omega, by have := h c List.mem_cons_self; omega⟩, Int.toNat_natCast]
    have ih := up_ext (f := f) (cs := cs) fun x hx => h x (List.mem_cons_of_mem _ hx)
    show ext f n (c : Int) :: (up cs).map (ext f n) = (f c : Int) :: up (cs.map f)
    rw [e, ih]
theorem short_ren {f : Nat → Nat} {n : Nat} (hf : Inj1 f n) (hr : ∀ q, q < n → f q < n) {cs : List Nat} (h : ∀ c ∈ cs, c < n) : short (up (cs.map f)) = (short (up cs)).map (ext f n) := by
  rw [← up_ext h, short_map (ext_inj hf hr)]
theorem short_len (cs : List Int) : (short cs).length ≤ 2 * cs.length := by
  have a := shortR_len (runsI cs)
  have b := runsI_len cs
  unfold short
  omega
theorem lay_opts : ∀ os : List (Option Nat), (∀ c, some c ∈ os → c ≤ 122) → PyData.canLayAll0 (os.map dO) = true ∧ PyData.depthAll (os.map dO) ≤ 1
  | [], _ => by
    simp only [List.map_nil, PyData.canLayAll0, PyData.depthAll]
    exact ⟨trivial, Nat.zero_le _⟩
  | o :: os, h => by
    obtain ⟨h1, h2⟩ := lay_opts os fun c hc => h c (List.mem_cons_of_mem _ hc)
    have h3 : (dO o).canLay0 = true ∧ (dO o).depth = 0 := by
      cases o with
      | none =>
        unfold dO
        simp only [PyData.canLay0, PyData.depth]
        exact ⟨trivial, trivial⟩
      | some c =>
        unfold dO
        simp only [PyData.canLay0, PyData.depth]
        exact ⟨str_ok (h c List.mem_cons_self), trivial⟩
    simp only [List.map_cons, PyData.canLayAll0, PyData.depthAll]
    rw [h1, h3.1, h3.2]
    exact ⟨rfl, by omega⟩
theorem shp_opts {os : List (Option Nat)} (h : ∀ c, some c ∈ os → c ≤ 122) : SeqAt.shaped (.list (os.map dO)) = true := by
  obtain ⟨h1, h2⟩ := lay_opts os h
  refine Bool.and_eq_true_iff.mpr ⟨?_, decide_eq_true ?_⟩
  · simp only [PyData.canLay0]
    exact h1
  · simp only [PyData.depth]
    omega
theorem dp_os {H : Hp} {D : Addr} {os : List (Option Nat)} (h : H D = some (.lst (os.map oV))) : Dp K H (.ref D) (.list (os.map dO)) := .lst (SqL.of h) (dp_opts _)
theorem dp_i {H : Hp} {c : Addr} {xs : List Int} (h : H c = some (.lst (xs.map V.int))) : Dp K H (.ref c) (dI xs) := .lst (SqL.of h) (dp_ints xs)
theorem ne_src {H : Hp} {p b : Addr} {xs : List V} (S : Src H p) (h : H b = some (.lst xs)) (n : ∀ i : Int, xs[0]? ≠ some (.int i)) : b ≠ p := fun z => by
  obtain ⟨s0, s1, s2, e, _⟩ := S.ex
  rw [z, e] at h
  injection h with h
  injection h with h
  exact n s0 (by rw [← h]; rfl)
theorem row_ne {H : Hp} {p b : Addr} {r : Row} (S : Src H p) (h : RowAt H b r) : b ≠ p := by
  obtain ⟨ts, h1, _⟩ := h
  refine ne_src S h1 fun i z => ?_
  rw [List.getElem?_map] at z
  cases q : ts[0]? with
  | none => rw [q] at z; cases z
  | some x => rw [q] at z; cases z
theorem rowS {H H' : Hp} {p b : Addr} {r : Row} (h : RowAt H b r) (S : Src H p) (s : Same' p H H') : RowAt H' b r := by
  have n := row_ne S h
  obtain ⟨ts, h1, h2⟩ := h
  exact ⟨ts, s _ _ h1 n, h2.mono (s.tups S.lst.choose_spec)⟩
theorem takens_ok {r : Row} (V0 : Vr r) : ∀ {cs : List Nat}, (∀ p ∈ cs, p < r.length) → ∀ c, some c ∈ takens r cs → 97 ≤ c ∧ c ≤ 122
  | [], _, c, h => by cases h
  | p :: cs, hp, c, h => by
    have h0 := hp p List.mem_cons_self
    rcases List.mem_cons.mp (show some c ∈ fo r (colOf r p) :: takens (app r p) cs from h) with z | z
    · exact V0.fo z.symm
    · exact takens_ok (V0.app h0) (fun q hq => by rw [app_len V0 h0]; exact hp q (List.mem_cons_of_mem _ hq)) c z
theorem cut_last (xs : List V) (x : V) : cutV (xs ++ [x]) (some (-1)) none = [x] := by
  have e1 : HT.sIx (xs ++ [x]).length 0 (some (-1)) = xs.length := by
    unfold HT.sIx
    rw [List.length_append]
    simp
    omega
  have e2 : HT.sIx (xs ++ [x]).length (xs ++ [x]).length none = (xs ++ [x]).length := rfl
  unfold cutV
  rw [e1, e2, List.length_append, List.drop_left]
  show List.take (xs.length + 1 - xs.length) [x] = [x]
  rw [show xs.length + 1 - xs.length = 1 by omega]
  rfl
def sp__law_holds (K : PySem.W.Frag) : Sp := fun vs H Q _ => ∃ (p l c : Addr) (r : Row) (cs : List Nat), vs = [.ref p, .ref l, .ref c] ∧ Src H p ∧ RowAt H l r ∧ Vr r ∧ H c = some (.lst (cs.map vN)) ∧ (∀ q ∈ cs, q < r.length) ∧ cs.length ≤ 200 ∧ c ≠ p ∧
  ∀ H', Same' p H H' → Src H' p → Q (.bl true) H'
theorem ok__law_holds (T : Txt K mg a) : FnOk P w K mg base CX0 6 a.f__law_holds a.d__law_holds ["source", "row", "sequence"] (sp__law_holds K) := by
  refine T.F__law_holds.ok sc__law_holds (fun vs H Q E h => ?_) (fun cdv A outer s H vs Q E hr h => ?_)
  · obtain ⟨p, l, c, r, cs, rfl, _⟩ := h
    rfl
  · obtain ⟨p, l, c, r, cs, rfl, S, hR, V0, hc, hcs, hz, ncp, kq⟩ := h
    have nd := sc__law_holds.nd
    have hu64 := hr.units
    have n60 := V0.n2
    have n1 := V0.n1
    have lp := row_ne S hR
    obtain ⟨ts, hl, ht⟩ := id hR
    have hts : (ts.map V.ref).length = r.length := by rw [List.length_map, ht.len]
    refine ⟨_, (pss_cons (ps_set (i := 3) nd rfl (Or.inr rfl) (pe_call (ok__law_permutation T) (hr.mono (by decide)) rfl T.g__law_permutation T.k__law_permutation T.n__law_permutation .nil pass0 (pa_cons (pv 0) (pa_cons (pe_callB (klen (K := K)) (by rfl) T.b_len (by decide +kernel) (pa_cons (pv 1) pa_nil)) pa_nil))))
      (pss_cons (ps_set (i := 4) nd rfl (Or.inr rfl) (pe_lc (own := [("k", 12)]) (g := gName 12) (tt := tYes) rfl nd (kpi_list (K := K) (pe_call (ok__law_permutation T) (hr.mono (by decide)) rfl T.g__law_permutation T.k__law_permutation T.n__law_permutation .nil pass0 (pa_cons (pv 0) (pa_cons pe_int pa_nil)))) (blkOk_by (own := [("k", 12)]) (N := ["source", "row", "sequence", "numbers", "letters", "other", "other_sequence", "colors", "later", "each", "other_each", "longer", "k", "who", "color"]) (sc := defScope s__law_holds) (by decide +kernel)) (fun _ _ _ _ _ => (pg_name (i := 12) nd rfl (Or.inl rfl))) (fun _ _ _ _ _ => pts_nil) (fun _ _ _ _ _ => (pe_ix ix_str pe_str (pv 12) (fun _ _ => rfl)))))
      (pss_cons (ps_par (i := 5) (j := 6) (by rfl) nd rfl rfl (by decide) rfl rfl (pa_cons (pe_call (ok__law_renamed T) (hr.mono (by decide)) rfl T.g__law_renamed T.k__law_renamed T.n__law_renamed .nil pass0 (pa_cons (pv 1) (pa_cons (pv 3) (pa_cons (pv 4) pa_nil)))) (pa_cons (pe_lc (own := [("who", 13)]) (g := gName 13) (tt := tYes) rfl nd (kpi_list (K := K) (pv 2)) (blkOk_by (own := [("who", 13)]) (N := ["source", "row", "sequence", "numbers", "letters", "other", "other_sequence", "colors", "later", "each", "other_each", "longer", "k", "who", "color"]) (sc := defScope s__law_holds) (by decide +kernel)) (fun _ _ _ _ _ => (pg_name (i := 13) nd rfl (Or.inl rfl))) (fun _ _ _ _ _ => pts_nil) (fun _ _ _ _ _ => (pe_ix (kix_list (K := K)) (pv 3) (pv 13) (fun _ _ => rfl)))) pa_nil)) (by rfl))
      (pss_cons (ps_set (i := 7) nd rfl (Or.inl rfl) (pe_call (ok_colors_taken T) (hr.mono (by decide)) rfl T.g_colors_taken T.k_colors_taken T.n_colors_taken .nil pass0 (pa_cons (pv 1) (pa_cons (pv 2) pa_nil))))
      (pss_cons (ps_if (pt_cmpR (kneD (K := K) hu64) (pe_call (ok_colors_taken T) (hr.mono (by decide)) rfl T.g_colors_taken T.k_colors_taken T.n_colors_taken .nil pass0 (pa_cons (pv 5) (pa_cons (pv 6) pa_nil))) (pe_lc (own := [("color", 14)]) (g := gName 14) (tt := tYes) rfl nd (kpi_list (K := K) (pv 7)) (blkOk_by (own := [("color", 14)]) (N := ["source", "row", "sequence", "numbers", "letters", "other", "other_sequence", "colors", "later", "each", "other_each", "longer", "k", "who", "color"]) (sc := defScope s__law_holds) (by decide +kernel)) (fun _ _ _ _ _ => (pg_name (i := 14) nd rfl (Or.inl rfl))) (fun _ _ _ _ _ => pts_nil) (fun _ _ _ _ _ => (pe_call (ok__law_letter T) (hr.mono (by decide)) rfl T.g__law_letter T.k__law_letter T.n__law_letter .nil pass0 (pa_cons (pv 4) (pa_cons (pv 14) pa_nil))))) (nomark _)) (pss_one (ps_ret pe_bl)) pss_nil)
      (pss_cons (ps_set (i := 8) nd rfl (Or.inl rfl) (pe_call (ok_lineup_after T) (hr.mono (by decide)) rfl T.g_lineup_after T.k_lineup_after T.n_lineup_after .nil pass0 (pa_cons (pv 1) (pa_cons (pv 2) pa_nil))))
      (pss_cons (ps_if (pt_cmpR (kneD (K := K) hu64) (pe_call (ok_lineup_after T) (hr.mono (by decide)) rfl T.g_lineup_after T.k_lineup_after T.n_lineup_after .nil pass0 (pa_cons (pv 5) (pa_cons (pv 6) pa_nil))) (pe_call (ok__law_renamed T) (hr.mono (by decide)) rfl T.g__law_renamed T.k__law_renamed T.n__law_renamed .nil pass0 (pa_cons (pv 8) (pa_cons (pv 3) (pa_cons (pv 4) pa_nil)))) (nomark _)) (pss_one (ps_ret pe_bl)) pss_nil)
      (pss_cons (ps_if (pt_cmpR (kneD (K := K) hu64) (pe_call (ok_shorten_calls T) (hr.mono (by decide)) rfl T.g_shorten_calls T.k_shorten_calls T.n_shorten_calls .nil pass0 (pa_cons (pv 6) pa_nil)) (pe_lc (own := [("who", 13)]) (g := gName 13) (tt := tYes) rfl nd (kpi_list (K := K) (pe_call (ok_shorten_calls T) (hr.mono (by decide)) rfl T.g_shorten_calls T.k_shorten_calls T.n_shorten_calls .nil pass0 (pa_cons (pv 2) pa_nil))) (blkOk_by (own := [("who", 13)]) (N := ["source", "row", "sequence", "numbers", "letters", "other", "other_sequence", "colors", "later", "each", "other_each", "longer", "k", "who", "color"]) (sc := defScope s__law_holds) (by decide +kernel)) (fun _ _ _ _ _ => (pg_name (i := 13) nd rfl (Or.inl rfl))) (fun _ _ _ _ _ => pts_nil) (fun _ _ _ _ _ => (pe_ix (kix_list (K := K)) (pv 3) (pv 13) (fun _ _ => rfl)))) (nomark _)) (pss_one (ps_ret pe_bl)) pss_nil)
      (pss_cons (ps_asg (pe_tup (pa_cons (pe_call (ok_colors_taken_by_each T) (hr.mono (by decide)) rfl T.g_colors_taken_by_each T.k_colors_taken_by_each T.n_colors_taken_by_each .nil pass0 (pa_cons (pv 1) pa_nil)) (pa_cons (pe_call (ok_colors_taken_by_each T) (hr.mono (by decide)) rfl T.g_colors_taken_by_each T.k_colors_taken_by_each T.n_colors_taken_by_each .nil pass0 (pa_cons (pv 5) pa_nil)) pa_nil))) (kpg_tup (K := K) rfl (pgs_cons (pg_name (i := 9) nd rfl (Or.inl rfl)) (pgs_cons (pg_name (i := 10) nd rfl (Or.inr rfl)) pgs_nil))))
      (pss_cons (ps_if (pt_cmpR (kneD (K := K) hu64) (pe_lc (own := [("who", 13)]) (g := gName 13) (tt := tYes) rfl nd (pi_range1 rfl T.b_range (pa_cons (pe_callB (klen (K := K)) (by rfl) T.b_len (by decide +kernel) (pa_cons (pv 1) pa_nil)) pa_nil)) (blkOk_by (own := [("who", 13)]) (N := ["source", "row", "sequence", "numbers", "letters", "other", "other_sequence", "colors", "later", "each", "other_each", "longer", "k", "who", "color"]) (sc := defScope s__law_holds) (by decide +kernel)) (fun _ _ _ _ _ => (pg_name (i := 13) nd rfl (Or.inl rfl))) (fun _ _ _ _ _ => pts_nil) (fun _ _ _ _ _ => (pe_ix (kix_list (K := K)) (pv 10) (pe_ix (kix_list (K := K)) (pv 3) (pv 13) (fun _ _ => rfl)) (fun _ _ => rfl)))) (pe_lc (own := [("color", 14)]) (g := gName 14) (tt := tYes) rfl nd (kpi_list (K := K) (pv 9)) (blkOk_by (own := [("color", 14)]) (N := ["source", "row", "sequence", "numbers", "letters", "other", "other_sequence", "colors", "later", "each", "other_each", "longer", "k", "who", "color"]) (sc := defScope s__law_holds) (by decide +kernel)) (fun _ _ _ _ _ => (pg_name (i := 14) nd rfl (Or.inl rfl))) (fun _ _ _ _ _ => pts_nil) (fun _ _ _ _ _ => (pe_call (ok__law_letter T) (hr.mono (by decide)) rfl T.g__law_letter T.k__law_letter T.n__law_letter .nil pass0 (pa_cons (pv 4) (pa_cons (pv 14) pa_nil))))) (nomark _)) (pss_one (ps_ret pe_bl)) pss_nil)
      (pss_cons (ps_if (PW.pt (pw_or (pt_cmpR op_eq (pe_callB (klen (K := K)) (by rfl) T.b_len (by decide +kernel) (pa_cons (pv 1) pa_nil)) pe_int (nomark _)) (pw_or1 (pt_cmpR (kin (K := K)) pe_non (pv 7) rfl)))) (pss_one (ps_ret pe_bl)) pss_nil)
      (pss_cons (ps_set (i := 11) nd rfl (Or.inl rfl) (pe_op op_cat (pv 1) (pe_lst (pa_cons (pe_tup (pa_cons (pe_callB (klen (K := K)) (by rfl) T.b_len (by decide +kernel) (pa_cons (pv 1) pa_nil)) (pa_cons (pe_ix (kix_tup (K := K)) (pe_ix (kix_list (K := K)) (pv 1) (pe_un un_neg pe_int) (fun _ _ => rfl)) pe_int (fun _ _ => rfl)) pa_nil))) pa_nil))))
      (pss_cons (ps_if (pt_cmpR (kneD (K := K) hu64) (pe_call (ok_colors_taken T) (hr.mono (by decide)) rfl T.g_colors_taken T.k_colors_taken T.n_colors_taken .nil pass0 (pa_cons (pv 11) (pa_cons (pv 2) pa_nil))) (pv 7) (nomark _)) (pss_one (ps_ret pe_bl)) pss_nil)
      (pss_one (ps_ret (pe_cmpR (keqD (K := K) hu64) (pe_call (ok_lineup_after T) (hr.mono (by decide)) rfl T.g_lineup_after T.k_lineup_after T.n_lineup_after .nil pass0 (pa_cons (pv 11) (pa_cons (pv 2) pa_nil))) (pe_op op_cat (pv 8) (pe_slice (ksl_list (K := K)) (pv 11) (po_some (pe_un un_neg pe_int)) po_none)) (nomark _))))))))))))))))), ?_⟩
    walk_at "rd"
    rw [hts]
    refine ⟨p, r.length, rfl, S, n1, n60, fun A H1 xs hA s1 S1 gA hxs => ?_⟩
    have xl : xs.length = r.length := by rw [hxs.length_eq, List.length_range]
    have nAp := S.not_none hA
    walk_at "rd"
    refine rd_lc (rd_iList ?_)
    walk_at "rd"
    refine ⟨p, 26, rfl, S1, by decide, by decide, fun A2 H2 ys hA2 s2 S2 gA2 hys => ?_⟩
    have yl : ys.length = 26 := by rw [hys.length_eq, List.length_range]
    have s02 := s1.trans s2
    refine ⟨A2, rfl, ⟨_, SqL.of gA2⟩, fun B hB => lc_vals (K := K) (zs := ys) (v := vN) (fun k => some (sg (97 + k))) hB gA2 (by omega) (fun k hk H' s T F hT hF => ?_) fun H3 s3 gB => ?_⟩
    · have hk26 : k < 26 := List.mem_range.mp (hys.mem_iff.mp hk)
      walk_at "rd"
      refine ⟨rfl, ?_⟩
      walk_at "rd"
      refine ⟨_, _, 97 + k, rfl, rfl, abc_len, abc_at k hk26, ?_⟩
      exact hT _ _ rfl (Same.refl _)
    rw [fm_all (v := fun k : Nat => sg (97 + k))] at gB
    have eB : ys.map (fun k : Nat => sg (97 + k)) = (ys.map fun k => 97 + k).map sg := by
      rw [List.map_map]
      rfl
    rw [eB] at gB
    have kl : (ys.map fun k => 97 + k).length = 26 := by rw [List.length_map]; exact yl
    have ltrk : ∀ c, 97 ≤ c ∧ c ≤ 122 → ltr (ys.map fun k => 97 + k) c = 97 + ys.getD (c - 97) 0 := fun c hc => by
      have q : c - 97 < ys.length := by omega
      show (ys.map fun k => 97 + k).getD (c - 97) 0 = _
      rw [List.getD_eq_getElem?_getD, List.getElem?_map, getD_at q]
      rfl
    have hg : InjC (ltr (ys.map fun k => 97 + k)) := fun c d hc hd e => by
      rw [ltrk c hc, ltrk d hd] at e
      have := inj_of (hys.nodup_iff.mpr List.nodup_range) (i := c - 97) (j := d - 97) (by omega) (by omega) (by omega)
      omega
    have hgc : ∀ c, 97 ≤ c ∧ c ≤ 122 → 97 ≤ ltr (ys.map fun k => 97 + k) c ∧ ltr (ys.map fun k => 97 + k) c ≤ 122 := fun c hc => by
      rw [ltrk c hc]
      have q : c - 97 < ys.length := by omega
      have := List.mem_range.mp (hys.mem_iff.mp (List.mem_of_getElem? (getD_at q)))
      omega
    have hf : Inj1 (fun q => xs.getD q 0) r.length := fun i j hi hj e => inj_of (hxs.nodup_iff.mpr List.nodup_range) (by omega) (by omega) e
    have hfr : ∀ q, q < r.length → xs.getD q 0 < r.length := fun q hq => List.mem_range.mp (hxs.mem_iff.mp (List.mem_of_getElem? (getD_at (by omega))))
    have hpm : ((List.range r.length).map fun q => xs.getD q 0).Perm (List.range r.length) := by
      have e := getD_range xs
      rw [xl] at e
      rw [e]
      exact hxs
    generalize ys.map (fun k => 97 + k) = ks at gB kl ltrk hg hgc
    have S3 := S2.same s3
    have s03 := s02.trans (sTo p s3)
    have hR3 := rowS hR S s03
    have hc3 := s03 _ _ hc ncp
    have gA3 := s3 _ _ (s2 _ _ gA nAp)
    walk_at "rd"
    refine ⟨l, A, B, r, xs, ks, rfl, hR3, V0, gA3, xl, gB, kl, fun O H4 hO s4 hRO => ?_⟩
    walk_at "rd"
    refine rd_lc (rd_iList ?_)
    walk_at "rd"
    have hc4 := s4 _ _ hc3
    have gA4 := s4 _ _ gA3
    refine ⟨c, rfl, ⟨_, SqL.of hc4⟩, fun D hD => lc_vals (K := K) (zs := cs) (v := vN) (fun q => some (vN (xs.getD q 0))) hD hc4 (by omega) (fun q hq H' s T F hT hF => ?_) fun H5 s5 gD => ?_⟩
    · walk_at "rd"
      refine ⟨rfl, ?_⟩
      walk_at "rd"
      refine rd_ixL (s _ _ gA4) (atI_nat (by rw [List.getElem?_map, getD_at (by have := hcs q hq; omega)]; rfl)) ?_
      exact hT _ _ rfl (Same.refl _)
    rw [fm_all (v := fun q : Nat => vN (xs.getD q 0))] at gD
    have eD : cs.map (fun q : Nat => vN (xs.getD q 0)) = (cs.map fun q => xs.getD q 0).map vN := by
      rw [List.map_map]
      rfl
    rw [eD] at gD
    have s35 := s4.trans s5
    have Vo : Vr (ren (fun q => xs.getD q 0) (ltr ks) r) := vr_ren V0 hpm hgc
    have ol : (ren (fun q => xs.getD q 0) (ltr ks) r).length = r.length := ren_len r
    have hR5 := hR3.same s35
    have hc5 := s35 _ _ hc3
    have gA5 := s35 _ _ gA3
    have gB5 := s35 _ _ gB
    have hRO5 := hRO.same s5
    have ocs : ∀ q ∈ cs.map (fun q => xs.getD q 0), q < (ren (fun q => xs.getD q 0) (ltr ks) r).length := fun q hq => by
      obtain ⟨z, hz, rfl⟩ := List.mem_map.mp hq
      rw [ol]
      exact hfr z (hcs z hz)
    obtain ⟨ar1, ar2⟩ := apps_ren hf hg V0 rfl hcs
    have Va := apps_len V0 cs hcs
    have k5 : Same' p H H5 := s03.trans (sTo p s35)
    generalize hfd : (fun q => xs.getD q 0) = f at *
    walk_at "rd"
    refine ⟨l, c, r, cs, rfl, hR5, V0, hc5, hcs, by omega, fun C H6 hC s6 gC => ?_⟩
    walk_at "rd"
    refine ⟨O, D, _, cs.map f, rfl, hRO5.same s6, Vo, s6 _ _ gD, ocs, by rw [List.length_map]; omega, fun C2 H7 hC2 s7 gC2 => ?_⟩
    rw [ar2] at gC2
    have s57 := s6.trans s7
    walk_at "rd"
    refine ⟨_, rfl, C, rfl, ⟨_, SqL.of (s7 _ _ gC)⟩, fun E' hE => lc_vals (K := K) (zs := takens r cs) (v := oV) (fun o => some (oV (o.map (ltr ks)))) hE (s7 _ _ gC) (by rw [takens_len]; omega) (fun o ho H' s T F hT hF => ?_) fun H8 s8 gE => ?_⟩
    · walk_at "rd"
      refine ⟨rfl, ?_⟩
      walk_at "rd"
      exact ⟨B, ks, o, rfl, s _ _ (s57 _ _ gB5), kl, fun c e => takens_ok V0 hcs c (by rw [← e]; exact ho), hT _ _ rfl (Same.refl _)⟩
    rw [fm_all (v := fun o : Option Nat => oV (o.map (ltr ks)))] at gE
    have eE : ∀ os : List (Option Nat), os.map (fun o : Option Nat => oV (o.map (ltr ks))) = (os.map (Option.map (ltr ks))).map oV := fun os => by
      rw [List.map_map]
      rfl
    rw [eE] at gE
    have tok : ∀ c, some c ∈ (takens r cs).map (Option.map (ltr ks)) → c ≤ 122 := fun c hc => by
      obtain ⟨o, ho, e⟩ := List.mem_map.mp hc
      cases o with
      | none => cases e
      | some d =>
        cases e
        exact (hgc d (takens_ok V0 hcs d ho)).2
    refine rd_neD (d := .list (((takens r cs).map (Option.map (ltr ks))).map dO)) (dp_os (s8 _ _ gC2)) (dp_os gE) (shp_opts tok) ?_
    have s58 := s57.trans s8
    walk_at "rd"
    refine ⟨l, c, r, cs, rfl, hR5.same s58, V0, s58 _ _ hc5, hcs, fun L H9 hL s9 gL => ?_⟩
    have s59 := s58.trans s9
    walk_at "rd"
    refine ⟨O, D, _, cs.map f, rfl, hRO5.same s59, Vo, s59 _ _ gD, ocs, fun L2 H10 hL2 s10 gL2 => ?_⟩
    rw [ar1] at gL2
    have s510 := s59.trans s10
    walk_at "rd"
    subst hfd
    refine ⟨L, A, B, apps r cs, xs, ks, rfl, gL.same s10, Va.1, s510 _ _ gA5, by rw [xl, Va.2], s510 _ _ gB5, kl, fun L3 H11 hL3 s11 gL3 => ?_⟩
    have Var := vr_ren (f := fun q => xs.getD q 0) (g := ltr ks) Va.1 (by rw [Va.2]; exact hpm) hgc
    refine rd_neD (d := dR (ren (fun q => xs.getD q 0) (ltr ks) (apps r cs))) (gL2.same s11).dp gL3.dp (shp_row _ Var.col) ?_
    have s511 := s510.trans s11
    walk_at "rd"
    have gDu : H11 D = some (.lst ((up (cs.map fun q => xs.getD q 0)).map V.int)) := by rw [up_v]; exact s511 _ _ gD
    have upl : ∀ zs : List Nat, (up zs).length = zs.length := fun zs => List.length_map _
    have unn : ∀ zs : List Nat, ∀ x ∈ up zs, 0 ≤ x := fun zs x hx => by
      obtain ⟨c, _, rfl⟩ := List.mem_map.mp hx
      omega
    refine ⟨D, up (cs.map fun q => xs.getD q 0), rfl, gDu, unn _, by rw [upl, List.length_map]; omega, fun M H12 hM s12 gM => ?_⟩
    rw [short_ren hf hfr hcs] at gM
    have s512 := s511.trans s12
    have gcu : H12 c = some (.lst ((up cs).map V.int)) := by rw [up_v]; exact s512 _ _ hc5
    walk_at "rd"
    refine rd_lc (rd_iList ?_)
    walk_at "rd"
    refine ⟨c, up cs, rfl, gcu, unn _, by rw [upl]; omega, fun M2 H13 hM2 s13 gM2 => ?_⟩
    have s513 := s512.trans s13
    have sl := short_len (up cs)
    rw [upl] at sl
    refine ⟨M2, rfl, ⟨_, SqL.of gM2⟩, fun E2 hE2 => lc_vals (K := K) (zs := short (up cs)) (v := V.int) (fun x => some (.int (ext (fun q => xs.getD q 0) r.length x))) hE2 gM2 (by omega) (fun x hx H' s T F hT hF => ?_) fun H14 s14 g14 => ?_⟩
    · obtain ⟨q, hq, rfl⟩ := List.mem_map.mp (short_mem hx)
      have e : ext (fun q => xs.getD q 0) r.length ((q : Nat) : Int) = (xs.getD q 0 : Nat) := by
        unfold ext
        rw [if_pos ⟨by omega, by have := hcs q hq; omega⟩, Int.toNat_natCast]
      walk_at "rd"
      refine ⟨rfl, ?_⟩
      walk_at "rd"
      refine rd_ixL (s _ _ (s513 _ _ gA5)) (atI_nat (by rw [List.getElem?_map, getD_at (by have := hcs q hq; omega)]; rfl)) ?_
      exact hT _ _ (by rw [e]) (Same.refl _)
    rw [fm_all (v := fun x : Int => V.int (ext (fun q => xs.getD q 0) r.length x))] at g14
    have e14 : (short (up cs)).map (fun x : Int => V.int (ext (fun q => xs.getD q 0) r.length x)) = ((short (up cs)).map (ext (fun q => xs.getD q 0) r.length)).map V.int := by
      rw [List.map_map]
      rfl
    rw [e14] at g14
    refine rd_neD (d := dI ((short (up cs)).map (ext (fun q => xs.getD q 0) r.length))) (dp_i (s14 _ _ (s13 _ _ gM))) (dp_i g14) (shp_ints _) ?_
    have s514 := s513.trans s14
    walk_at "rd"
    have hR14 := hR5.same s514
    refine ⟨l, r, rfl, hR14, V0, fun E3 H15 hE3 s15 g15 => ?_⟩
    walk_at "rd"
    refine ⟨O, _, rfl, (hRO5.same s514).same s15, Vo, fun E4 H16 hE4 s16 g16 => ?_⟩
    obtain ⟨ts5, hl5, ht5⟩ := id hR5
    walk_at "rd"
    refine ⟨by show 2 ≤ sizeLine; decide, fun tq htq => ?_⟩
    refine rd_gtup upd_same rfl ?_
    have nT := sNew (o := .tup [.ref E3, .ref E4]) htq
    have s16 := s16.trans nT
    have g16 := nT _ _ g16
    generalize upd H16 tq (.tup [.ref E3, .ref E4]) = H16 at s16 g16
    have s516 := (s514.trans s15).trans s16
    walk_at "rd"
    refine rd_lc (rd_iR ?_)
    walk_at "rd"
    refine rd_len (s516 _ _ hl5) ?_
    rw [List.length_map, ht5.len]
    walk_at "rd"
    refine ⟨_, rfl, by omega, by omega, fun F1 hF1 => lc_rng (n := r.length) (fun i => some (oV ((fo r (colOf r i)).map (ltr ks)))) hF1 (by omega) (fun i hi H' s T F hT hF => ?_) fun H17 s17 g17 => ?_⟩
    · walk_at "rd"
      refine ⟨rfl, ?_⟩
      walk_at "rd"
      refine rd_ixL (s _ _ (s516 _ _ gA5)) (atI_nat (by rw [List.getElem?_map, getD_at (by omega)]; rfl)) ?_
      refine rd_ixL (s _ _ g16) (atI_nat (takenEach_at (by rw [ol]; exact hfr i hi))) ?_
      have e : fo (ren (fun q => xs.getD q 0) (ltr ks) r) (colOf (ren (fun q => xs.getD q 0) (ltr ks) r) (xs.getD i 0)) = (fo r (colOf r i)).map (ltr ks) := take_ren hf hg V0 rfl hi
      rw [e]
      exact hT _ _ rfl (Same.refl _)
    rw [fm_all (v := fun i : Nat => oV ((fo r (colOf r i)).map (ltr ks)))] at g17
    have e17 : (List.range r.length).map (fun i : Nat => oV ((fo r (colOf r i)).map (ltr ks))) = (((List.range r.length).map fun i => fo r (colOf r i)).map (Option.map (ltr ks))).map oV := by
      rw [List.map_map, List.map_map]
      rfl
    rw [e17] at g17
    have e15 : takenEach r = ((List.range r.length).map fun i => fo r (colOf r i)).map oV := by
      unfold takenEach
      rw [List.map_map]
      rfl
    rw [e15] at g15
    have osl : ((List.range r.length).map fun i => fo r (colOf r i)).length = r.length := by rw [List.length_map, List.length_range]
    have osk : ∀ c, some c ∈ ((List.range r.length).map fun i => fo r (colOf r i)) → 97 ≤ c ∧ c ≤ 122 := fun c hc => by
      obtain ⟨q, _, e⟩ := List.mem_map.mp hc
      exact V0.fo e
    generalize (List.range r.length).map (fun i => fo r (colOf r i)) = os at g17 g15 osl osk
    have g15b := s17 _ _ (s16 _ _ g15)
    have s517 := s516.trans s17
    walk_at "rd"
    refine ⟨_, rfl, E3, rfl, ⟨_, SqL.of g15b⟩, fun F2 hF2 => lc_vals (K := K) (zs := os) (v := oV) (fun o => some (oV (o.map (ltr ks)))) hF2 g15b (by omega) (fun o ho H' s T F hT hF => ?_) fun H18 s18 g18 => ?_⟩
    · walk_at "rd"
      refine ⟨rfl, ?_⟩
      walk_at "rd"
      exact ⟨B, ks, o, rfl, s _ _ (s517 _ _ gB5), kl, fun c e => osk c (by rw [← e]; exact ho), hT _ _ rfl (Same.refl _)⟩
    rw [fm_all (v := fun o : Option Nat => oV (o.map (ltr ks))), eE] at g18
    have tok2 : ∀ c, some c ∈ os.map (Option.map (ltr ks)) → c ≤ 122 := fun c hc => by
      obtain ⟨o, ho, e⟩ := List.mem_map.mp hc
      cases o with
      | none => cases e
      | some d =>
        cases e
        exact (hgc d (osk d ho)).2
    refine rd_neD (d := .list ((os.map (Option.map (ltr ks))).map dO)) (dp_os (s18 _ _ g17)) (dp_os g18) (shp_opts tok2) ?_
    have s518 := s517.trans s18
    have hl18 := s518 _ _ hl5
    have s618 := ((((((((s7.trans s8).trans s9).trans s10).trans s11).trans s12).trans s13).trans s14).trans (s15.trans s16)).trans (s17.trans s18)
    have gC18 := s618 _ _ gC
    have k18 : Same' p H H18 := k5.trans (sTo p s518)
    walk_at "rd"
    rw [List.length_map, ht5.len]
    refine rd_dec (fun _ => ?_) fun n60' => ?_
    · walk_at "rd"
      exact kq _ k18 (S3.same (s35.trans s518))
    walk_at "rd"
    have flat : ((takens r cs).map oV).all flatV = true := by
      rw [List.all_eq_true]
      intro v hv
      obtain ⟨o, _, rfl⟩ := List.mem_map.mp hv
      cases o <;> rfl
    refine rd_isin gC18 rfl flat rfl ?_
    walk_at "rd"
    cases hin : inV .non ((takens r cs).map oV) with
    | true =>
      walk_at "rd"
      exact kq _ k18 (S3.same (s35.trans s518))
    | false =>
      have hnn : none ∉ takens r cs := fun hm => by
        have : inV .non ((takens r cs).map oV) = true := List.any_eq_true.mpr ⟨oV none, List.mem_map.mpr ⟨none, hm, rfl⟩, rfl⟩
        rw [this] at hin
        cases hin
      walk_at "rd"
      have hlt : r.length - 1 < ts5.length := by rw [ht5.len]; omega
      obtain ⟨tl, htl⟩ : ∃ x, ts5[r.length - 1]? = some x := ⟨_, List.getElem?_eq_getElem hlt⟩
      obtain ⟨el, hel, htl2⟩ := ht5.get htl
      have hat : atI (ts5.map V.ref) (-1) = some (.ref tl) := at_neg1 (by rw [List.length_map, List.getElem?_map, ht5.len, htl]; rfl)
      refine rd_ixL hl18 hat ?_
      walk_at "rd"
      refine rd_ixT (s518 _ _ htl2) rfl ?_
      walk_at "rd"
      rw [List.length_map, ht5.len]
      refine ⟨by show 2 ≤ sizeLine; decide, fun tz htz => ?_⟩
      have m1 := sNew (o := .tup (pr (r.length, el.2))) htz
      walk_at "rd"
      refine ⟨by show 1 ≤ sizeLine; decide, fun lz hlz => ?_⟩
      have m2 := m1.trans (sNew (o := .lst [.ref tz]) hlz)
      refine rd_cat (m2 _ _ hl18) upd_same (sz60' (by show (ts5.map V.ref).length + 1 ≤ 100; rw [List.length_map, ht5.len]; omega)) fun Lg hLg => ?_
      have n3 := sNew (o := .lst (ts5.map V.ref ++ [.ref tz])) hLg
      have m3 := m2.trans n3
      have gtz := n3 _ _ ((sNew (o := .lst [.ref tz]) hlz) _ _ (upd_same (H := H18) (a := tz) (o := .tup (pr (r.length, el.2)))))
      have gLg := upd_same (H := upd (upd H18 tz (.tup (pr (r.length, el.2)))) lz (.lst [.ref tz])) (a := Lg) (o := .lst (ts5.map V.ref ++ [.ref tz]))
      generalize upd (upd (upd H18 tz (.tup (pr (r.length, el.2)))) lz (.lst [.ref tz])) Lg (.lst (ts5.map V.ref ++ [.ref tz])) = H19 at m3 gtz gLg
      have hRg : RowAt H19 Lg (r ++ [(r.length, el.2)]) := ⟨ts5 ++ [tz], by rw [gLg, List.map_append]; rfl, (ht5.mono (sTups (s518.trans m3))).app (TupsAt.one gtz)⟩
      have r60 : r.length < 60 := by
        have : r.length ≠ 60 := fun e => n60' (by rw [e]; rfl)
        omega
      have cel := V0.col el (List.mem_of_getElem? hel)
      have Vz := vr_more V0 r60 cel.1 cel.2
      have mo := more (z := (r.length, el.2)) V0 hcs (Nat.le_refl _) hnn
      have zcs : ∀ q ∈ cs, q < (r ++ [(r.length, el.2)]).length := fun q hq => by
        have := hcs q hq
        rw [List.length_append]
        exact Nat.lt_of_lt_of_le this (Nat.le_add_right _ _)
      have hc19 := (s518.trans m3) _ _ hc5
      walk_at "rd"
      refine ⟨Lg, c, _, cs, rfl, hRg, Vz, hc19, zcs, by omega, fun C9 H20 hC9 s20 g20 => ?_⟩
      rw [mo.2] at g20
      have tok3 : ∀ c, some c ∈ takens r cs → c ≤ 122 := fun c hc => (takens_ok V0 hcs c hc).2
      walk_at "rd"
      refine rd_neD (d := .list ((takens r cs).map dO)) (dp_os g20) (dp_os (s20 _ _ (m3 _ _ gC18))) (shp_opts tok3) ?_
      walk_at "rd"
      refine ⟨Lg, c, _, cs, rfl, hRg.same s20, Vz, s20 _ _ hc19, zcs, fun L9 H21 hL9 s21 g21 => ?_⟩
      rw [mo.1] at g21
      have s21b := s20.trans s21
      have s921 := ((((((((s10.trans s11).trans s12).trans s13).trans s14).trans (s15.trans s16)).trans (s17.trans s18)).trans m3).trans s21b)
      obtain ⟨us, gL1, gL2'⟩ := gL.same s921
      walk_at "rd"
      refine rd_slL (s21b _ _ gLg) fun b hb => ?_
      rw [cut_last]
      have n4 := sNew (o := .lst [V.ref tz]) hb
      have ul : us.length ≤ 60 := by
        rw [gL2'.len, Va.2]
        exact n60
      refine rd_cat (n4 _ _ gL1) upd_same (sz60' (by show (us.map V.ref).length + 1 ≤ 100; rw [List.length_map]; omega)) fun G9 hG9 => ?_
      have n5 := sNew (o := .lst (us.map V.ref ++ [V.ref tz])) hG9
      have n45 := n4.trans n5
      have hRz : RowAt (upd (upd H21 b (.lst [V.ref tz])) G9 (.lst (us.map V.ref ++ [V.ref tz]))) G9 (apps r cs ++ [(r.length, el.2)]) :=
        ⟨us ++ [tz], by rw [upd_same, List.map_append]; rfl, (gL2'.mono (sTups n45)).app (TupsAt.one (n45 _ _ (s21b _ _ gtz)))⟩
      have cz : Cok (apps r cs ++ [(r.length, el.2)]) := fun e he => by
        rcases List.mem_append.mp he with z | z
        · exact Va.1.col e z
        · rw [List.mem_singleton.mp z]
          exact cel
      refine rd_eqD (d := dR (apps r cs ++ [(r.length, el.2)])) (g21.same n45).dp hRz.dp (shp_row _ cz) ?_
      exact kq _ (k18.trans (sTo p ((m3.trans s21b).trans n45))) (S3.same ((s35.trans s518).trans ((m3.trans s21b).trans n45)))
end K19

namespace K19
open PySem L2 LX
local macro_rules | `(tactic| walk_at "rd") => `(tactic| repeat (first
  | with_reducible refine rd_var rfl ?_ | with_reducible refine rd_c ?_ | with_reducible refine rd_op ?_ | with_reducible refine rd_un ?_ | with_reducible refine rd_I0 ?_ | with_reducible refine rd_U ?_
  | with_reducible refine rd_test ?_ | with_reducible refine rd_tB ?_ | with_reducible refine rd_bl ?_ | with_reducible refine rd_chain ?_
  | with_reducible refine rd_and ?_ | with_reducible refine rd_or ?_ | with_reducible refine rd_not ?_ | with_reducible refine rd_andV ?_ | with_reducible refine rd_orV ?_ | with_reducible refine rd_notV ?_
  | with_reducible refine rd_next ?_ | with_reducible refine rd_seq ?_ | with_reducible refine rd_drop ?_ | with_reducible refine rd_ret ?_ | with_reducible refine rd_ifS ?_ | with_reducible refine rd_asg ?_ | with_reducible refine rd_name ?_
  | with_reducible refine rd_par ?_ | with_reducible refine rd_two ?_ | with_reducible refine rd_2i ?_ | with_reducible refine rd_nil ?_ | with_reducible refine rd_cons ?_ | with_reducible refine rd_tup ?_ | with_reducible refine rd_lst ?_ | with_reducible refine rd_cb ?_ | with_reducible refine rd_call ?_
  | with_reducible refine rd_ixL (by assumption) rfl ?_ | with_reducible refine rd_ixT (by assumption) rfl ?_ | with_reducible refine rd_ixL upd_same rfl ?_ | with_reducible refine rd_sub ?_ | with_reducible refine rd_sl ?_ | with_reducible refine rd_nopart ?_ | with_reducible refine rd_part ?_ | with_reducible refine rd_int ?_
  | with_reducible refine rd_len (by assumption) ?_ | with_reducible refine rd_bm ?_ | with_reducible refine rd_bm0 ?_ | with_reducible refine rd_gcons ?_ | with_reducible refine rd_gnil ?_
  | ((with_reducible refine rd_I ?ci ?_); (case ci => first | assumption | (show (0 : Int) < _; decide) | exact Or.inl ⟨by decide, by decide⟩ | exact Or.inr ⟨by decide, by decide⟩ | exact ⟨by decide, by decide, (by decide : Int.natAbs 10 < 2 ^ 1000)⟩))
  | with_reducible refine rd_setL (by assumption) rfl ?_ | with_reducible refine rd_setL upd_same rfl ?_ | with_reducible refine rd_len upd_same ?_
  | with_reducible refine rd_2ty ?_ | with_reducible refine rd_NT ?_ | with_reducible refine rd_2s ?_ | with_reducible refine rd_lenS ?_ | with_reducible refine rd_lenT (by assumption) ?_ | ((with_reducible refine rd_typ ?ct ?_); (case ct => rfl))
  | ((with_reducible refine rd_eq ?cs ?_); (case cs => rfl)) | ((with_reducible refine rd_ne ?cs ?_); (case cs => rfl))
  | with_reducible refine rd_qtru ?_ | with_reducible refine rd_lstRg ?_ | with_reducible refine rd_rg1 ?_ | with_reducible refine rd_tyes ?_ | with_reducible refine rd_tyL (by assumption) ?_ | with_reducible refine rd_tyT (by assumption) ?_
  | with_reducible refine iteT ?_ | with_reducible refine iteF ?_ | with_reducible refine rd_nt ?_ | with_reducible refine rd_nf ?_
  | (dsimp only)))

section
variable {P : Program} {w : World} {K : PySem.W.Frag} {mg : Str → Option Value} {base : Heap} {a : Ad}
theorem rd_teM {te : TE} {σ : L2.St} {H : Hp} {Q : VK} (M : VK) (h1 : ∀ R : VK, (∀ x H1, M x H1 → R x H1) → te σ H R) (h2 : ∀ x H1, M x H1 → Q x H1) : te σ H Q := h1 _ h2
def sp_law (K : PySem.W.Frag) : Sp := fun vs H Q _ => ∃ (l : Addr) (ns : List Int), vs = [.ref l] ∧ Scr K H l ns ∧ ns.length ≤ 63 ∧ ∀ H', Q (.bl true) H'
theorem ok_law (T : Txt K mg a) : FnOk P w K mg base CX0 7 a.f_law a.d_law ["script"] (sp_law K) := by
  refine T.F_law.ok sc_law (fun vs H Q E h => ?_) (fun cdv A outer s H vs Q E hr h => ?_)
  · obtain ⟨l, ns, rfl, _⟩ := h
    rfl
  · obtain ⟨l, ns, rfl, hS, hz, kq⟩ := h
    have nd := sc_law.nd
    have hu64 := hr.units
    refine ⟨_, (pss_cons (ps_set (i := 1) nd rfl (Or.inl rfl) (pe_call (ok__law_cells T) (hr.mono (by decide)) rfl T.g__law_cells T.k__law_cells T.n__law_cells .nil pass0 (pa_cons (pv 0) (pa_cons pe_int pa_nil))))
      (pss_cons (ps_for PassesOwn.never rfl (pi_range1 rfl T.b_range (pa_cons (pe_callB (klen (K := K)) (by rfl) T.b_len (by decide +kernel) (pa_cons (pv 1) pa_nil)) pa_nil)) (pg_name (i := 2) nd rfl (Or.inl rfl)) (pss_cons (ps_set (i := 3) nd rfl (Or.inl rfl) (pe_call (ok__law_source T) (hr.mono (by decide)) rfl T.g__law_source T.k__law_source T.n__law_source .nil pass0 (pa_cons (pe_ix (kix_list (K := K)) (pv 1) (pv 2) (fun _ _ => rfl)) (pa_cons (pv 2) pa_nil))))
      (pss_one (ps_for PassesOwn.never rfl (pi_range1 rfl T.b_range (pa_cons (pe_ifExp (pt_cmpR (keqD (K := K) hu64) (pv 0) (pe_lst pa_nil) (nomark _)) pe_int pe_int) pa_nil)) (pg_name (i := 4) nd rfl (Or.inl rfl)) (pss_cons (ps_set (i := 5) nd rfl (Or.inl rfl) (pe_call (ok__law_row T) (hr.mono (by decide)) rfl T.g__law_row T.k__law_row T.n__law_row .nil pass0 (pa_cons (pv 3) (pa_cons (pv 0) (pa_cons pe_int pa_nil)))))
      (pss_one (ps_if (pt_not (pt_val (pe_call (ok__law_holds T) (hr.mono (by decide)) rfl T.g__law_holds T.k__law_holds T.n__law_holds .nil pass0 (pa_cons (pv 3) (pa_cons (pv 5) (pa_cons (pe_call (ok__law_sequence T) (hr.mono (by decide)) rfl T.g__law_sequence T.k__law_sequence T.n__law_sequence .nil pass0 (pa_cons (pv 3) (pa_cons (pe_callB (klen (K := K)) (by rfl) T.b_len (by decide +kernel) (pa_cons (pv 5) pa_nil)) (pa_cons (pe_ifExp (pt_cmpR (keqD (K := K) hu64) (pv 0) (pe_lst pa_nil) (nomark _)) pe_int pe_int) pa_nil)))) pa_nil)))))) (pss_one (ps_ret pe_bl)) pss_nil)))))))
      (pss_one (ps_ret pe_bl)))), ?_⟩
    walk_at "rd"
    refine ⟨l, ns, 5, rfl, hS, hz, fun C H1 cs hC s1 gC cz => ?_⟩
    walk_at "rd"
    refine rd_forR (n := ((cs.length : Nat) : Int)) (fun H2 => H2 = H1) (fun R q => ?_) (by omega) (by omega) ?_
    · walk_at "rd"
      rw [List.length_map]
      exact q _ rfl
    rintro _ rfl
    refine for_range (lo := 0) (n := ((cs.length : Nat) : Int).toNat) (fun i σ H' => ∃ x2 x3 x4 x5, σ = [some (.ref l), some (.ref C), x2, x3, x4, x5] ∧ Same H H' ∧ H' C = some (.lst (cs.map V.int))) ⟨none, none, none, none, rfl, s1, gC⟩ ?_ ?_
    · rintro i σ H' hi ⟨x2, x3, x4, x5, rfl, s2, gC2⟩
      have hi2 : i < cs.length := by omega
      have e0 : (0 : Int) + (i : Int) = (i : Int) := Int.zero_add _
      rw [e0]
      walk_at "rd"
      refine rd_ixL gC2 (atI_nat (by rw [List.getElem?_map, List.getElem?_eq_getElem hi2]; rfl)) ?_
      walk_at "rd"
      refine ⟨_, _, rfl, by omega, by omega, fun p H3 hp S3 f3 => ?_⟩
      have s3 : Same H' H3 := fun b o e => by rw [f3 b (ne_of_none e hp)]; exact e
      have hCp : C ≠ p := ne_of_none gC2 hp
      have hp0 := s2.free hp
      walk_at "rd"
      refine rd_forRn (fun z H4 => 0 ≤ z ∧ z ≤ 2 ∧ Same H3 H4) (fun R q => ?_) ?_
      · walk_at "rd"
        refine rd_ifE ?_
        walk_at "rd"
        refine ⟨Nat.zero_le _, fun q1 hq1 => ?_⟩
        have n1 := sNew (o := .lst []) hq1
        refine rd_eqD2 (d := dI ns) (e := dI []) (.lst ((hS.same (s2.trans s3)).same n1).seq (dp_ints ns)) (.lst (SqL.of upd_same) .nil) (shp_ints _) (shp_ints _) (eqv_nil ns) ?_
        walk_at "rd"
        refine rd_dec (fun _ => ?_) fun _ => ?_
        · walk_at "rd"
          exact q _ _ ⟨by decide, by decide, n1⟩
        · walk_at "rd"
          exact q _ _ ⟨by decide, by decide, n1⟩
      rintro z H4 ⟨z0, z2, s4⟩
      refine ⟨z0, by omega, for_range (lo := 0) (n := z.toNat) (fun j σ H4 => ∃ x4 x5, σ = [some (.ref l), some (.ref C), some (.int (i : Int)), some (.ref p), x4, x5] ∧ Same H H4 ∧ H4 C = some (.lst (cs.map V.int)) ∧ Src H4 p) ⟨x4, x5, rfl, (s2.trans s3).trans s4, s4 _ _ (s3 _ _ gC2), S3.same s4⟩ ?_ ?_⟩
      · rintro j σ H5 hj ⟨y4, y5, rfl, s5, gC5, S5⟩
        walk_at "rd"
        refine ⟨p, l, ns, rfl, S5, hS.same s5, hz, fun L H6 r hL s6 S6 hR hV => ?_⟩
        have s06 : Same H H6 := fun b o e => s6 _ _ (s5 _ _ e) (ne_of_none e hp0)
        have gC6 := s6 _ _ gC5 hCp
        obtain ⟨ts, hl6, ht6⟩ := id hR
        walk_at "rd"
        rw [List.length_map, ht6.len]
        refine rd_teM (fun x H7 => ∃ m : Nat, x = vN m ∧ m ≤ 200 ∧ Same H6 H7) (fun R q => ?_) ?_
        · refine rd_ifE ?_
          walk_at "rd"
          refine ⟨Nat.zero_le _, fun q1 hq1 => ?_⟩
          have n1 := sNew (o := .lst []) hq1
          refine rd_eqD2 (d := dI ns) (e := dI []) (.lst ((hS.same s06).same n1).seq (dp_ints ns)) (.lst (SqL.of upd_same) .nil) (shp_ints _) (shp_ints _) (eqv_nil ns) ?_
          walk_at "rd"
          refine rd_dec (fun _ => ?_) fun _ => ?_
          · walk_at "rd"
            exact q _ _ ⟨4, rfl, by decide, n1⟩
          · walk_at "rd"
            exact q _ _ ⟨30, rfl, by decide, n1⟩
        rintro _ H7 ⟨m, rfl, hm, s7⟩
        walk_at "rd"
        have S7 := S6.same s7
        refine ⟨p, r.length, m, rfl, S7, hV.n1, hV.n2, by omega, fun Sq H8 ks hSq s8 S8 gSq hlt hlen => ?_⟩
        walk_at "rd"
        refine ⟨p, L, Sq, r, ks, rfl, S8, rowS (hR.same s7) S7 s8, hV, gSq, hlt, by omega, S7.not_none hSq, fun H9 k9 S9 => ?_⟩
        walk_at "rd"
        refine ⟨_, _, rfl, fun b o e => ?_, ?_, S9⟩
        · have nb := ne_of_none e hp0
          exact k9 _ _ (s8 _ _ (s7 _ _ (s06 _ _ e)) nb) nb
        · exact k9 _ _ (s8 _ _ (s7 _ _ gC6) hCp) hCp
      · rintro σ H5 ⟨y4, y5, rfl, s5, gC5, S5⟩
        walk_at "rd"
        exact ⟨_, _, _, _, rfl, s5, gC5⟩
    · rintro σ H' ⟨x2, x3, x4, x5, rfl, s2, gC2⟩
      walk_at "rd"
      exact kq _
end
theorem all_mk {l : PySem.W.OpenLaw} {w : World} {K : PySem.W.Frag} {h : Heap} {mg : Str → Option Value} {fa : Addr} (X : K.In h) (G : h.Ns mainGlobals mg) (hfa : mg "law" = some (.ref fa))
    {f__law_cells : Addr} {od__law_cells an__law_cells : Option Addr} {sl__law_cells : Array (Option Value)} {oc__law_cells kV__law_cells dc__law_cells pm__law_cells cd__law_cells ct__law_cells : Value}
    {f__law_source : Addr} {od__law_source an__law_source : Option Addr} {sl__law_source : Array (Option Value)} {oc__law_source kV__law_source dc__law_source pm__law_source cd__law_source ct__law_source : Value}
    {f__law_draw : Addr} {od__law_draw an__law_draw : Option Addr} {sl__law_draw : Array (Option Value)} {oc__law_draw kV__law_draw dc__law_draw pm__law_draw cd__law_draw ct__law_draw : Value}
    {f__law_row : Addr} {od__law_row an__law_row : Option Addr} {sl__law_row : Array (Option Value)} {oc__law_row kV__law_row dc__law_row pm__law_row cd__law_row ct__law_row : Value}
    {f__law_permutation : Addr} {od__law_permutation an__law_permutation : Option Addr} {sl__law_permutation : Array (Option Value)} {oc__law_permutation kV__law_permutation dc__law_permutation pm__law_permutation cd__law_permutation ct__law_permutation : Value}
    {f_is_integer : Addr} {od_is_integer an_is_integer : Option Addr} {sl_is_integer : Array (Option Value)} {oc_is_integer kV_is_integer dc_is_integer pm_is_integer cd_is_integer ct_is_integer : Value}
    {f_is_color : Addr} {od_is_color an_is_color : Option Addr} {sl_is_color : Array (Option Value)} {oc_is_color kV_is_color dc_is_color pm_is_color cd_is_color ct_is_color : Value}
    {f_is_colored_integer : Addr} {od_is_colored_integer an_is_colored_integer : Option Addr} {sl_is_colored_integer : Array (Option Value)} {oc_is_colored_integer kV_is_colored_integer dc_is_colored_integer pm_is_colored_integer cd_is_colored_integer ct_is_colored_integer : Value}
    {f_is_lineup : Addr} {od_is_lineup an_is_lineup : Option Addr} {sl_is_lineup : Array (Option Value)} {oc_is_lineup kV_is_lineup dc_is_lineup pm_is_lineup cd_is_lineup ct_is_lineup : Value}
    {f_check_lineup : Addr} {od_check_lineup an_check_lineup : Option Addr} {sl_check_lineup : Array (Option Value)} {oc_check_lineup kV_check_lineup dc_check_lineup pm_check_lineup cd_check_lineup ct_check_lineup : Value}
    {f_is_person : Addr} {od_is_person an_is_person : Option Addr} {sl_is_person : Array (Option Value)} {oc_is_person kV_is_person dc_is_person pm_is_person cd_is_person ct_is_person : Value}
    {f_check_calls : Addr} {od_check_calls an_check_calls : Option Addr} {sl_check_calls : Array (Option Value)} {oc_check_calls kV_check_calls dc_check_calls pm_check_calls cd_check_calls ct_check_calls : Value}
    {f_first_other_color : Addr} {od_first_other_color an_first_other_color : Option Addr} {sl_first_other_color : Array (Option Value)} {oc_first_other_color kV_first_other_color dc_first_other_color pm_first_other_color cd_first_other_color ct_first_other_color : Value}
    {f_colors_by_person : Addr} {od_colors_by_person an_colors_by_person : Option Addr} {sl_colors_by_person : Array (Option Value)} {oc_colors_by_person kV_colors_by_person dc_colors_by_person pm_colors_by_person cd_colors_by_person ct_colors_by_person : Value}
    {f_apply_call : Addr} {od_apply_call an_apply_call : Option Addr} {sl_apply_call : Array (Option Value)} {oc_apply_call kV_apply_call dc_apply_call pm_apply_call cd_apply_call ct_apply_call : Value}
    {f_colors_taken : Addr} {od_colors_taken an_colors_taken : Option Addr} {sl_colors_taken : Array (Option Value)} {oc_colors_taken kV_colors_taken dc_colors_taken pm_colors_taken cd_colors_taken ct_colors_taken : Value}
    {f_lineup_after : Addr} {od_lineup_after an_lineup_after : Option Addr} {sl_lineup_after : Array (Option Value)} {oc_lineup_after kV_lineup_after dc_lineup_after pm_lineup_after cd_lineup_after ct_lineup_after : Value}
    {f__law_letter : Addr} {od__law_letter an__law_letter : Option Addr} {sl__law_letter : Array (Option Value)} {oc__law_letter kV__law_letter dc__law_letter pm__law_letter cd__law_letter ct__law_letter : Value}
    {f__law_renamed : Addr} {od__law_renamed an__law_renamed : Option Addr} {sl__law_renamed : Array (Option Value)} {oc__law_renamed kV__law_renamed dc__law_renamed pm__law_renamed cd__law_renamed ct__law_renamed : Value}
    {f_check_numbers : Addr} {od_check_numbers an_check_numbers : Option Addr} {sl_check_numbers : Array (Option Value)} {oc_check_numbers kV_check_numbers dc_check_numbers pm_check_numbers cd_check_numbers ct_check_numbers : Value}
    {f_runs_of : Addr} {od_runs_of an_runs_of : Option Addr} {sl_runs_of : Array (Option Value)} {oc_runs_of kV_runs_of dc_runs_of pm_runs_of cd_runs_of ct_runs_of : Value}
    {f_shorten_calls : Addr} {od_shorten_calls an_shorten_calls : Option Addr} {sl_shorten_calls : Array (Option Value)} {oc_shorten_calls kV_shorten_calls dc_shorten_calls pm_shorten_calls cd_shorten_calls ct_shorten_calls : Value}
    {f_colors_taken_by_each : Addr} {od_colors_taken_by_each an_colors_taken_by_each : Option Addr} {sl_colors_taken_by_each : Array (Option Value)} {oc_colors_taken_by_each kV_colors_taken_by_each dc_colors_taken_by_each pm_colors_taken_by_each cd_colors_taken_by_each ct_colors_taken_by_each : Value}
    {f__law_holds : Addr} {od__law_holds an__law_holds : Option Addr} {sl__law_holds : Array (Option Value)} {oc__law_holds kV__law_holds dc__law_holds pm__law_holds cd__law_holds ct__law_holds : Value}
    {f__law_sequence : Addr} {od__law_sequence an__law_sequence : Option Addr} {sl__law_sequence : Array (Option Value)} {oc__law_sequence kV__law_sequence dc__law_sequence pm__law_sequence cd__law_sequence ct__law_sequence : Value}
    {f_law : Addr} {od_law an_law : Option Addr} {sl_law : Array (Option Value)} {oc_law kV_law dc_law pm_law cd_law ct_law : Value}
    {t_MOST_PEOPLE : Tok}
    (a__law_cells : PySem.W.nsIn K mainGlobals "_law_cells" = some (some (.ref f__law_cells)))
    (l__law_cells : K.lookup f__law_cells = some ⟨oc__law_cells, od__law_cells, .func (PySem.W.fnOf "_law_cells" "_law_cells" (defArgs s__law_cells) (defBody s__law_cells) (defScope s__law_cells) .none kV__law_cells dc__law_cells pm__law_cells an__law_cells cd__law_cells ct__law_cells), sl__law_cells⟩)
    (c__law_cells : PySem.W.codeIn K cd__law_cells "_law_cells" = true) (k__law_cells : PySem.W.keepIn K (.ref f__law_cells) = true)
    (a__law_source : PySem.W.nsIn K mainGlobals "_law_source" = some (some (.ref f__law_source)))
    (l__law_source : K.lookup f__law_source = some ⟨oc__law_source, od__law_source, .func (PySem.W.fnOf "_law_source" "_law_source" (defArgs s__law_source) (defBody s__law_source) (defScope s__law_source) .none kV__law_source dc__law_source pm__law_source an__law_source cd__law_source ct__law_source), sl__law_source⟩)
    (c__law_source : PySem.W.codeIn K cd__law_source "_law_source" = true) (k__law_source : PySem.W.keepIn K (.ref f__law_source) = true)
    (a__law_draw : PySem.W.nsIn K mainGlobals "_law_draw" = some (some (.ref f__law_draw)))
    (l__law_draw : K.lookup f__law_draw = some ⟨oc__law_draw, od__law_draw, .func (PySem.W.fnOf "_law_draw" "_law_draw" (defArgs s__law_draw) (defBody s__law_draw) (defScope s__law_draw) .none kV__law_draw dc__law_draw pm__law_draw an__law_draw cd__law_draw ct__law_draw), sl__law_draw⟩)
    (c__law_draw : PySem.W.codeIn K cd__law_draw "_law_draw" = true) (k__law_draw : PySem.W.keepIn K (.ref f__law_draw) = true)
    (a__law_row : PySem.W.nsIn K mainGlobals "_law_row" = some (some (.ref f__law_row)))
    (l__law_row : K.lookup f__law_row = some ⟨oc__law_row, od__law_row, .func (PySem.W.fnOf "_law_row" "_law_row" (defArgs s__law_row) (defBody s__law_row) (defScope s__law_row) .none kV__law_row dc__law_row pm__law_row an__law_row cd__law_row ct__law_row), sl__law_row⟩)
    (c__law_row : PySem.W.codeIn K cd__law_row "_law_row" = true) (k__law_row : PySem.W.keepIn K (.ref f__law_row) = true)
    (a__law_permutation : PySem.W.nsIn K mainGlobals "_law_permutation" = some (some (.ref f__law_permutation)))
    (l__law_permutation : K.lookup f__law_permutation = some ⟨oc__law_permutation, od__law_permutation, .func (PySem.W.fnOf "_law_permutation" "_law_permutation" (defArgs s__law_permutation) (defBody s__law_permutation) (defScope s__law_permutation) .none kV__law_permutation dc__law_permutation pm__law_permutation an__law_permutation cd__law_permutation ct__law_permutation), sl__law_permutation⟩)
    (c__law_permutation : PySem.W.codeIn K cd__law_permutation "_law_permutation" = true) (k__law_permutation : PySem.W.keepIn K (.ref f__law_permutation) = true)
    (a_is_integer : PySem.W.nsIn K mainGlobals "is_integer" = some (some (.ref f_is_integer)))
    (l_is_integer : K.lookup f_is_integer = some ⟨oc_is_integer, od_is_integer, .func (PySem.W.fnOf "is_integer" "is_integer" (defArgs s_is_integer) (defBody s_is_integer) (defScope s_is_integer) .none kV_is_integer dc_is_integer pm_is_integer an_is_integer cd_is_integer ct_is_integer), sl_is_integer⟩)
    (c_is_integer : PySem.W.codeIn K cd_is_integer "is_integer" = true) (k_is_integer : PySem.W.keepIn K (.ref f_is_integer) = true)
    (a_is_color : PySem.W.nsIn K mainGlobals "is_color" = some (some (.ref f_is_color)))
    (l_is_color : K.lookup f_is_color = some ⟨oc_is_color, od_is_color, .func (PySem.W.fnOf "is_color" "is_color" (defArgs s_is_color) (defBody s_is_color) (defScope s_is_color) .none kV_is_color dc_is_color pm_is_color an_is_color cd_is_color ct_is_color), sl_is_color⟩)
    (c_is_color : PySem.W.codeIn K cd_is_color "is_color" = true) (k_is_color : PySem.W.keepIn K (.ref f_is_color) = true)
    (a_is_colored_integer : PySem.W.nsIn K mainGlobals "is_colored_integer" = some (some (.ref f_is_colored_integer)))
    (l_is_colored_integer : K.lookup f_is_colored_integer = some ⟨oc_is_colored_integer, od_is_colored_integer, .func (PySem.W.fnOf "is_colored_integer" "is_colored_integer" (defArgs s_is_colored_integer) (defBody s_is_colored_integer) (defScope s_is_colored_integer) .none kV_is_colored_integer dc_is_colored_integer pm_is_colored_integer an_is_colored_integer cd_is_colored_integer ct_is_colored_integer), sl_is_colored_integer⟩)
    (c_is_colored_integer : PySem.W.codeIn K cd_is_colored_integer "is_colored_integer" = true) (k_is_colored_integer : PySem.W.keepIn K (.ref f_is_colored_integer) = true)
    (a_is_lineup : PySem.W.nsIn K mainGlobals "is_lineup" = some (some (.ref f_is_lineup)))
    (l_is_lineup : K.lookup f_is_lineup = some ⟨oc_is_lineup, od_is_lineup, .func (PySem.W.fnOf "is_lineup" "is_lineup" (defArgs s_is_lineup) (defBody s_is_lineup) (defScope s_is_lineup) .none kV_is_lineup dc_is_lineup pm_is_lineup an_is_lineup cd_is_lineup ct_is_lineup), sl_is_lineup⟩)
    (c_is_lineup : PySem.W.codeIn K cd_is_lineup "is_lineup" = true) (k_is_lineup : PySem.W.keepIn K (.ref f_is_lineup) = true)
    (a_check_lineup : PySem.W.nsIn K mainGlobals "check_lineup" = some (some (.ref f_check_lineup)))
    (l_check_lineup : K.lookup f_check_lineup = some ⟨oc_check_lineup, od_check_lineup, .func (PySem.W.fnOf "check_lineup" "check_lineup" (defArgs s_check_lineup) (defBody s_check_lineup) (defScope s_check_lineup) .none kV_check_lineup dc_check_lineup pm_check_lineup an_check_lineup cd_check_lineup ct_check_lineup), sl_check_lineup⟩)
    (c_check_lineup : PySem.W.codeIn K cd_check_lineup "check_lineup" = true) (k_check_lineup : PySem.W.keepIn K (.ref f_check_lineup) = true)
    (a_is_person : PySem.W.nsIn K mainGlobals "is_person" = some (some (.ref f_is_person)))
    (l_is_person : K.lookup f_is_person = some ⟨oc_is_person, od_is_person, .func (PySem.W.fnOf "is_person" "is_person" (defArgs s_is_person) (defBody s_is_person) (defScope s_is_person) .none kV_is_person dc_is_person pm_is_person an_is_person cd_is_person ct_is_person), sl_is_person⟩)
    (c_is_person : PySem.W.codeIn K cd_is_person "is_person" = true) (k_is_person : PySem.W.keepIn K (.ref f_is_person) = true)
    (a_check_calls : PySem.W.nsIn K mainGlobals "check_calls" = some (some (.ref f_check_calls)))
    (l_check_calls : K.lookup f_check_calls = some ⟨oc_check_calls, od_check_calls, .func (PySem.W.fnOf "check_calls" "check_calls" (defArgs s_check_calls) (defBody s_check_calls) (defScope s_check_calls) .none kV_check_calls dc_check_calls pm_check_calls an_check_calls cd_check_calls ct_check_calls), sl_check_calls⟩)
    (c_check_calls : PySem.W.codeIn K cd_check_calls "check_calls" = true) (k_check_calls : PySem.W.keepIn K (.ref f_check_calls) = true)
    (a_first_other_color : PySem.W.nsIn K mainGlobals "first_other_color" = some (some (.ref f_first_other_color)))
    (l_first_other_color : K.lookup f_first_other_color = some ⟨oc_first_other_color, od_first_other_color, .func (PySem.W.fnOf "first_other_color" "first_other_color" (defArgs s_first_other_color) (defBody s_first_other_color) (defScope s_first_other_color) .none kV_first_other_color dc_first_other_color pm_first_other_color an_first_other_color cd_first_other_color ct_first_other_color), sl_first_other_color⟩)
    (c_first_other_color : PySem.W.codeIn K cd_first_other_color "first_other_color" = true) (k_first_other_color : PySem.W.keepIn K (.ref f_first_other_color) = true)
    (a_colors_by_person : PySem.W.nsIn K mainGlobals "colors_by_person" = some (some (.ref f_colors_by_person)))
    (l_colors_by_person : K.lookup f_colors_by_person = some ⟨oc_colors_by_person, od_colors_by_person, .func (PySem.W.fnOf "colors_by_person" "colors_by_person" (defArgs s_colors_by_person) (defBody s_colors_by_person) (defScope s_colors_by_person) .none kV_colors_by_person dc_colors_by_person pm_colors_by_person an_colors_by_person cd_colors_by_person ct_colors_by_person), sl_colors_by_person⟩)
    (c_colors_by_person : PySem.W.codeIn K cd_colors_by_person "colors_by_person" = true) (k_colors_by_person : PySem.W.keepIn K (.ref f_colors_by_person) = true)
    (a_apply_call : PySem.W.nsIn K mainGlobals "apply_call" = some (some (.ref f_apply_call)))
    (l_apply_call : K.lookup f_apply_call = some ⟨oc_apply_call, od_apply_call, .func (PySem.W.fnOf "apply_call" "apply_call" (defArgs s_apply_call) (defBody s_apply_call) (defScope s_apply_call) .none kV_apply_call dc_apply_call pm_apply_call an_apply_call cd_apply_call ct_apply_call), sl_apply_call⟩)
    (c_apply_call : PySem.W.codeIn K cd_apply_call "apply_call" = true) (k_apply_call : PySem.W.keepIn K (.ref f_apply_call) = true)
    (a_colors_taken : PySem.W.nsIn K mainGlobals "colors_taken" = some (some (.ref f_colors_taken)))
    (l_colors_taken : K.lookup f_colors_taken = some ⟨oc_colors_taken, od_colors_taken, .func (PySem.W.fnOf "colors_taken" "colors_taken" (defArgs s_colors_taken) (defBody s_colors_taken) (defScope s_colors_taken) .none kV_colors_taken dc_colors_taken pm_colors_taken an_colors_taken cd_colors_taken ct_colors_taken), sl_colors_taken⟩)
    (c_colors_taken : PySem.W.codeIn K cd_colors_taken "colors_taken" = true) (k_colors_taken : PySem.W.keepIn K (.ref f_colors_taken) = true)
    (a_lineup_after : PySem.W.nsIn K mainGlobals "lineup_after" = some (some (.ref f_lineup_after)))
    (l_lineup_after : K.lookup f_lineup_after = some ⟨oc_lineup_after, od_lineup_after, .func (PySem.W.fnOf "lineup_after" "lineup_after" (defArgs s_lineup_after) (defBody s_lineup_after) (defScope s_lineup_after) .none kV_lineup_after dc_lineup_after pm_lineup_after an_lineup_after cd_lineup_after ct_lineup_after), sl_lineup_after⟩)
    (c_lineup_after : PySem.W.codeIn K cd_lineup_after "lineup_after" = true) (k_lineup_after : PySem.W.keepIn K (.ref f_lineup_after) = true)
    (a__law_letter : PySem.W.nsIn K mainGlobals "_law_letter" = some (some (.ref f__law_letter)))
    (l__law_letter : K.lookup f__law_letter = some ⟨oc__law_letter, od__law_letter, .func (PySem.W.fnOf "_law_letter" "_law_letter" (defArgs s__law_letter) (defBody s__law_letter) (defScope s__law_letter) .none kV__law_letter dc__law_letter pm__law_letter an__law_letter cd__law_letter ct__law_letter), sl__law_letter⟩)
    (c__law_letter : PySem.W.codeIn K cd__law_letter "_law_letter" = true) (k__law_letter : PySem.W.keepIn K (.ref f__law_letter) = true)
    (a__law_renamed : PySem.W.nsIn K mainGlobals "_law_renamed" = some (some (.ref f__law_renamed)))
    (l__law_renamed : K.lookup f__law_renamed = some ⟨oc__law_renamed, od__law_renamed, .func (PySem.W.fnOf "_law_renamed" "_law_renamed" (defArgs s__law_renamed) (defBody s__law_renamed) (defScope s__law_renamed) .none kV__law_renamed dc__law_renamed pm__law_renamed an__law_renamed cd__law_renamed ct__law_renamed), sl__law_renamed⟩)
    (c__law_renamed : PySem.W.codeIn K cd__law_renamed "_law_renamed" = true) (k__law_renamed : PySem.W.keepIn K (.ref f__law_renamed) = true)
    (a_check_numbers : PySem.W.nsIn K mainGlobals "check_numbers" = some (some (.ref f_check_numbers)))
    (l_check_numbers : K.lookup f_check_numbers = some ⟨oc_check_numbers, od_check_numbers, .func (PySem.W.fnOf "check_numbers" "check_numbers" (defArgs s_check_numbers) (defBody s_check_numbers) (defScope s_check_numbers) .none kV_check_numbers dc_check_numbers pm_check_numbers an_check_numbers cd_check_numbers ct_check_numbers), sl_check_numbers⟩)
    (c_check_numbers : PySem.W.codeIn K cd_check_numbers "check_numbers" = true) (k_check_numbers : PySem.W.keepIn K (.ref f_check_numbers) = true)
    (a_runs_of : PySem.W.nsIn K mainGlobals "runs_of" = some (some (.ref f_runs_of)))
    (l_runs_of : K.lookup f_runs_of = some ⟨oc_runs_of, od_runs_of, .func (PySem.W.fnOf "runs_of" "runs_of" (defArgs s_runs_of) (defBody s_runs_of) (defScope s_runs_of) .none kV_runs_of dc_runs_of pm_runs_of an_runs_of cd_runs_of ct_runs_of), sl_runs_of⟩)
    (c_runs_of : PySem.W.codeIn K cd_runs_of "runs_of" = true) (k_runs_of : PySem.W.keepIn K (.ref f_runs_of) = true)
    (a_shorten_calls : PySem.W.nsIn K mainGlobals "shorten_calls" = some (some (.ref f_shorten_calls)))
    (l_shorten_calls : K.lookup f_shorten_calls = some ⟨oc_shorten_calls, od_shorten_calls, .func (PySem.W.fnOf "shorten_calls" "shorten_calls" (defArgs s_shorten_calls) (defBody s_shorten_calls) (defScope s_shorten_calls) .none kV_shorten_calls dc_shorten_calls pm_shorten_calls an_shorten_calls cd_shorten_calls ct_shorten_calls), sl_shorten_calls⟩)
    (c_shorten_calls : PySem.W.codeIn K cd_shorten_calls "shorten_calls" = true) (k_shorten_calls : PySem.W.keepIn K (.ref f_shorten_calls) = true)
    (a_colors_taken_by_each : PySem.W.nsIn K mainGlobals "colors_taken_by_each" = some (some (.ref f_colors_taken_by_each)))
    (l_colors_taken_by_each : K.lookup f_colors_taken_by_each = some ⟨oc_colors_taken_by_each, od_colors_taken_by_each, .func (PySem.W.fnOf "colors_taken_by_each" "colors_taken_by_each" (defArgs s_colors_taken_by_each) (defBody s_colors_taken_by_each) (defScope s_colors_taken_by_each) .none kV_colors_taken_by_each dc_colors_taken_by_each pm_colors_taken_by_each an_colors_taken_by_each cd_colors_taken_by_each ct_colors_taken_by_each), sl_colors_taken_by_each⟩)
    (c_colors_taken_by_each : PySem.W.codeIn K cd_colors_taken_by_each "colors_taken_by_each" = true) (k_colors_taken_by_each : PySem.W.keepIn K (.ref f_colors_taken_by_each) = true)
    (a__law_holds : PySem.W.nsIn K mainGlobals "_law_holds" = some (some (.ref f__law_holds)))
    (l__law_holds : K.lookup f__law_holds = some ⟨oc__law_holds, od__law_holds, .func (PySem.W.fnOf "_law_holds" "_law_holds" (defArgs s__law_holds) (defBody s__law_holds) (defScope s__law_holds) .none kV__law_holds dc__law_holds pm__law_holds an__law_holds cd__law_holds ct__law_holds), sl__law_holds⟩)
    (c__law_holds : PySem.W.codeIn K cd__law_holds "_law_holds" = true) (k__law_holds : PySem.W.keepIn K (.ref f__law_holds) = true)
    (a__law_sequence : PySem.W.nsIn K mainGlobals "_law_sequence" = some (some (.ref f__law_sequence)))
    (l__law_sequence : K.lookup f__law_sequence = some ⟨oc__law_sequence, od__law_sequence, .func (PySem.W.fnOf "_law_sequence" "_law_sequence" (defArgs s__law_sequence) (defBody s__law_sequence) (defScope s__law_sequence) .none kV__law_sequence dc__law_sequence pm__law_sequence an__law_sequence cd__law_sequence ct__law_sequence), sl__law_sequence⟩)
    (c__law_sequence : PySem.W.codeIn K cd__law_sequence "_law_sequence" = true) (k__law_sequence : PySem.W.keepIn K (.ref f__law_sequence) = true)
    (a_law : PySem.W.nsIn K mainGlobals "law" = some (some (.ref f_law)))
    (l_law : K.lookup f_law = some ⟨oc_law, od_law, .func (PySem.W.fnOf "law" "law" (defArgs s_law) (defBody s_law) (defScope s_law) .none kV_law dc_law pm_law an_law cd_law ct_law), sl_law⟩)
    (c_law : PySem.W.codeIn K cd_law "law" = true) (k_law : PySem.W.keepIn K (.ref f_law) = true)
    (a_MOST_PEOPLE : PySem.W.nsIn K mainGlobals "MOST_PEOPLE" = some (some (.int 60 t_MOST_PEOPLE)))
    (z_bool : PySem.W.nsIn K mainGlobals "bool" = some none)
    (z_enumerate : PySem.W.nsIn K mainGlobals "enumerate" = some none)
    (z_int : PySem.W.nsIn K mainGlobals "int" = some none)
    (z_isinstance : PySem.W.nsIn K mainGlobals "isinstance" = some none)
    (z_len : PySem.W.nsIn K mainGlobals "len" = some none)
    (z_list : PySem.W.nsIn K mainGlobals "list" = some none)
    (z_max : PySem.W.nsIn K mainGlobals "max" = some none)
    (z_min : PySem.W.nsIn K mainGlobals "min" = some none)
    (z_range : PySem.W.nsIn K mainGlobals "range" = some none)
    (z_sorted : PySem.W.nsIn K mainGlobals "sorted" = some none)
    (z_str : PySem.W.nsIn K mainGlobals "str" = some none)
    (z_tuple : PySem.W.nsIn K mainGlobals "tuple" = some none)
    (z_type : PySem.W.nsIn K mainGlobals "type" = some none)
    : ∃ fd : FuncData, (∀ (s : Shared) (v : Value), BindsTo s fd ⟨[v], []⟩ [("script", v)]) ∧ ∀ base : Heap, K.In base → base.Ns mainGlobals mg → FnOk l.prog w K mg base CX0 7 fa fd ["script"] (sp_law K) := by
  have e := hfa.symm.trans (PySem.W.mg_of X G a_law)
  cases e
  have F__law_cells := fun_mk (st := s__law_cells) l__law_cells c__law_cells k__law_cells
  have n__law_cells := F__law_cells.binds (ps := ["script", "count"]) fun _ _ _ _ _ _ us hl => match us, hl with | [_, _], _ => rfl
  have F__law_source := fun_mk (st := s__law_source) l__law_source c__law_source k__law_source
  have n__law_source := F__law_source.binds (ps := ["cell", "index"]) fun _ _ _ _ _ _ us hl => match us, hl with | [_, _], _ => rfl
  have F__law_draw := fun_mk (st := s__law_draw) l__law_draw c__law_draw k__law_draw
  have n__law_draw := F__law_draw.binds (ps := ["source", "count"]) fun _ _ _ _ _ _ us hl => match us, hl with | [_, _], _ => rfl
  have F__law_row := fun_mk (st := s__law_row) l__law_row c__law_row k__law_row
  have n__law_row := F__law_row.binds (ps := ["source", "script", "limit"]) fun _ _ _ _ _ _ us hl => match us, hl with | [_, _, _], _ => rfl
  have F__law_permutation := fun_mk (st := s__law_permutation) l__law_permutation c__law_permutation k__law_permutation
  have n__law_permutation := F__law_permutation.binds (ps := ["source", "size"]) fun _ _ _ _ _ _ us hl => match us, hl with | [_, _], _ => rfl
  have F_is_integer := fun_mk (st := s_is_integer) l_is_integer c_is_integer k_is_integer
  have n_is_integer := F_is_integer.binds (ps := ["value"]) fun _ _ _ _ _ _ us hl => match us, hl with | [_], _ => rfl
  have F_is_color := fun_mk (st := s_is_color) l_is_color c_is_color k_is_color
  have n_is_color := F_is_color.binds (ps := ["value"]) fun _ _ _ _ _ _ us hl => match us, hl with | [_], _ => rfl
  have F_is_colored_integer := fun_mk (st := s_is_colored_integer) l_is_colored_integer c_is_colored_integer k_is_colored_integer
  have n_is_colored_integer := F_is_colored_integer.binds (ps := ["value"]) fun _ _ _ _ _ _ us hl => match us, hl with | [_], _ => rfl
  have F_is_lineup := fun_mk (st := s_is_lineup) l_is_lineup c_is_lineup k_is_lineup
  have n_is_lineup := F_is_lineup.binds (ps := ["value"]) fun _ _ _ _ _ _ us hl => match us, hl with | [_], _ => rfl
  have F_check_lineup := fun_mk (st := s_check_lineup) l_check_lineup c_check_lineup k_check_lineup
  have n_check_lineup := F_check_lineup.binds (ps := ["value"]) fun _ _ _ _ _ _ us hl => match us, hl with | [_], _ => rfl
  have F_is_person := fun_mk (st := s_is_person) l_is_person c_is_person k_is_person
  have n_is_person := F_is_person.binds (ps := ["lineup", "value"]) fun _ _ _ _ _ _ us hl => match us, hl with | [_, _], _ => rfl
  have F_check_calls := fun_mk (st := s_check_calls) l_check_calls c_check_calls k_check_calls
  have n_check_calls := F_check_calls.binds (ps := ["lineup", "value"]) fun _ _ _ _ _ _ us hl => match us, hl with | [_, _], _ => rfl
  have F_first_other_color := fun_mk (st := s_first_other_color) l_first_other_color c_first_other_color k_first_other_color
  have n_first_other_color := F_first_other_color.binds (ps := ["lineup", "color"]) fun _ _ _ _ _ _ us hl => match us, hl with | [_, _], _ => rfl
  have F_colors_by_person := fun_mk (st := s_colors_by_person) l_colors_by_person c_colors_by_person k_colors_by_person
  have n_colors_by_person := F_colors_by_person.binds (ps := ["lineup"]) fun _ _ _ _ _ _ us hl => match us, hl with | [_], _ => rfl
  have F_apply_call := fun_mk (st := s_apply_call) l_apply_call c_apply_call k_apply_call
  have n_apply_call := F_apply_call.binds (ps := ["lineup", "person"]) fun _ _ _ _ _ _ us hl => match us, hl with | [_, _], _ => rfl
  have F_colors_taken := fun_mk (st := s_colors_taken) l_colors_taken c_colors_taken k_colors_taken
  have n_colors_taken := F_colors_taken.binds (ps := ["lineup", "calls"]) fun _ _ _ _ _ _ us hl => match us, hl with | [_, _], _ => rfl
  have F_lineup_after := fun_mk (st := s_lineup_after) l_lineup_after c_lineup_after k_lineup_after
  have n_lineup_after := F_lineup_after.binds (ps := ["lineup", "calls"]) fun _ _ _ _ _ _ us hl => match us, hl with | [_, _], _ => rfl
  have F__law_letter := fun_mk (st := s__law_letter) l__law_letter c__law_letter k__law_letter
  have n__law_letter := F__law_letter.binds (ps := ["letters", "color"]) fun _ _ _ _ _ _ us hl => match us, hl with | [_, _], _ => rfl
  have F__law_renamed := fun_mk (st := s__law_renamed) l__law_renamed c__law_renamed k__law_renamed
  have n__law_renamed := F__law_renamed.binds (ps := ["row", "numbers", "letters"]) fun _ _ _ _ _ _ us hl => match us, hl with | [_, _, _], _ => rfl
  have F_check_numbers := fun_mk (st := s_check_numbers) l_check_numbers c_check_numbers k_check_numbers
  have n_check_numbers := F_check_numbers.binds (ps := ["value"]) fun _ _ _ _ _ _ us hl => match us, hl with | [_], _ => rfl
  have F_runs_of := fun_mk (st := s_runs_of) l_runs_of c_runs_of k_runs_of
  have n_runs_of := F_runs_of.binds (ps := ["row"]) fun _ _ _ _ _ _ us hl => match us, hl with | [_], _ => rfl
  have F_shorten_calls := fun_mk (st := s_shorten_calls) l_shorten_calls c_shorten_calls k_shorten_calls
  have n_shorten_calls := F_shorten_calls.binds (ps := ["calls"]) fun _ _ _ _ _ _ us hl => match us, hl with | [_], _ => rfl
  have F_colors_taken_by_each := fun_mk (st := s_colors_taken_by_each) l_colors_taken_by_each c_colors_taken_by_each k_colors_taken_by_each
  have n_colors_taken_by_each := F_colors_taken_by_each.binds (ps := ["lineup"]) fun _ _ _ _ _ _ us hl => match us, hl with | [_], _ => rfl
  have F__law_holds := fun_mk (st := s__law_holds) l__law_holds c__law_holds k__law_holds
  have n__law_holds := F__law_holds.binds (ps := ["source", "row", "sequence"]) fun _ _ _ _ _ _ us hl => match us, hl with | [_, _, _], _ => rfl
  have F__law_sequence := fun_mk (st := s__law_sequence) l__law_sequence c__law_sequence k__law_sequence
  have n__law_sequence := F__law_sequence.binds (ps := ["source", "size", "limit"]) fun _ _ _ _ _ _ us hl => match us, hl with | [_, _, _], _ => rfl
  have F_law := fun_mk (st := s_law) l_law c_law k_law
  have n_law := F_law.binds (ps := ["script"]) fun _ _ _ _ _ _ us hl => match us, hl with | [_], _ => rfl
  have T : Txt K mg { f__law_cells := _, d__law_cells := _, f__law_source := _, d__law_source := _, f__law_draw := _, d__law_draw := _, f__law_row := _, d__law_row := _, f__law_permutation := _, d__law_permutation := _, f_is_integer := _, d_is_integer := _, f_is_color := _, d_is_color := _, f_is_colored_integer := _, d_is_colored_integer := _, f_is_lineup := _, d_is_lineup := _, f_check_lineup := _, d_check_lineup := _, f_is_person := _, d_is_person := _, f_check_calls := _, d_check_calls := _, f_first_other_color := _, d_first_other_color := _, f_colors_by_person := _, d_colors_by_person := _, f_apply_call := _, d_apply_call := _, f_colors_taken := _, d_colors_taken := _, f_lineup_after := _, d_lineup_after := _, f__law_letter := _, d__law_letter := _, f__law_renamed := _, d__law_renamed := _, f_check_numbers := _, d_check_numbers := _, f_runs_of := _, d_runs_of := _, f_shorten_calls := _, d_shorten_calls := _, f_colors_taken_by_each := _, d_colors_taken_by_each := _, f__law_holds := _, d__law_holds := _, f__law_sequence := _, d__law_sequence := _, f_law := _, d_law := _, t_MOST_PEOPLE := t_MOST_PEOPLE } := {
    b_bool := PySem.W.mg_none_of X G z_bool,
    b_enumerate := PySem.W.mg_none_of X G z_enumerate,
    b_int := PySem.W.mg_none_of X G z_int,
    b_isinstance := PySem.W.mg_none_of X G z_isinstance,
    b_len := PySem.W.mg_none_of X G z_len,
    b_list := PySem.W.mg_none_of X G z_list,
    b_max := PySem.W.mg_none_of X G z_max,
    b_min := PySem.W.mg_none_of X G z_min,
    b_range := PySem.W.mg_none_of X G z_range,
    b_sorted := PySem.W.mg_none_of X G z_sorted,
    b_str := PySem.W.mg_none_of X G z_str,
    b_tuple := PySem.W.mg_none_of X G z_tuple,
    b_type := PySem.W.mg_none_of X G z_type,
    c_MOST_PEOPLE := PySem.W.mg_of X G a_MOST_PEOPLE,
    F__law_cells := F__law_cells,
    n__law_cells := n__law_cells,
    g__law_cells := PySem.W.mg_of X G a__law_cells,
    k__law_cells := k__law_cells,
    F__law_source := F__law_source,
    n__law_source := n__law_source,
    g__law_source := PySem.W.mg_of X G a__law_source,
    k__law_source := k__law_source,
    F__law_draw := F__law_draw,
    n__law_draw := n__law_draw,
    g__law_draw := PySem.W.mg_of X G a__law_draw,
    k__law_draw := k__law_draw,
    F__law_row := F__law_row,
    n__law_row := n__law_row,
    g__law_row := PySem.W.mg_of X G a__law_row,
    k__law_row := k__law_row,
    F__law_permutation := F__law_permutation,
    n__law_permutation := n__law_permutation,
    g__law_permutation := PySem.W.mg_of X G a__law_permutation,
    k__law_permutation := k__law_permutation,
    F_is_integer := F_is_integer,
    n_is_integer := n_is_integer,
    g_is_integer := PySem.W.mg_of X G a_is_integer,
    k_is_integer := k_is_integer,
    F_is_color := F_is_color,
    n_is_color := n_is_color,
    g_is_color := PySem.W.mg_of X G a_is_color,
    k_is_color := k_is_color,
    F_is_colored_integer := F_is_colored_integer,
    n_is_colored_integer := n_is_colored_integer,
    g_is_colored_integer := PySem.W.mg_of X G a_is_colored_integer,
    k_is_colored_integer := k_is_colored_integer,
    F_is_lineup := F_is_lineup,
    n_is_lineup := n_is_lineup,
    g_is_lineup := PySem.W.mg_of X G a_is_lineup,
    k_is_lineup := k_is_lineup,
    F_check_lineup := F_check_lineup,
    n_check_lineup := n_check_lineup,
    g_check_lineup := PySem.W.mg_of X G a_check_lineup,
    k_check_lineup := k_check_lineup,
    F_is_person := F_is_person,
    n_is_person := n_is_person,
    g_is_person := PySem.W.mg_of X G a_is_person,
    k_is_person := k_is_person,
    F_check_calls := F_check_calls,
    n_check_calls := n_check_calls,
    g_check_calls := PySem.W.mg_of X G a_check_calls,
    k_check_calls := k_check_calls,
    F_first_other_color := F_first_other_color,
    n_first_other_color := n_first_other_color,
    g_first_other_color := PySem.W.mg_of X G a_first_other_color,
    k_first_other_color := k_first_other_color,
    F_colors_by_person := F_colors_by_person,
    n_colors_by_person := n_colors_by_person,
    g_colors_by_person := PySem.W.mg_of X G a_colors_by_person,
    k_colors_by_person := k_colors_by_person,
    F_apply_call := F_apply_call,
    n_apply_call := n_apply_call,
    g_apply_call := PySem.W.mg_of X G a_apply_call,
    k_apply_call := k_apply_call,
    F_colors_taken := F_colors_taken,
    n_colors_taken := n_colors_taken,
    g_colors_taken := PySem.W.mg_of X G a_colors_taken,
    k_colors_taken := k_colors_taken,
    F_lineup_after := F_lineup_after,
    n_lineup_after := n_lineup_after,
    g_lineup_after := PySem.W.mg_of X G a_lineup_after,
    k_lineup_after := k_lineup_after,
    F__law_letter := F__law_letter,
    n__law_letter := n__law_letter,
    g__law_letter := PySem.W.mg_of X G a__law_letter,
    k__law_letter := k__law_letter,
    F__law_renamed := F__law_renamed,
    n__law_renamed := n__law_renamed,
    g__law_renamed := PySem.W.mg_of X G a__law_renamed,
    k__law_renamed := k__law_renamed,
    F_check_numbers := F_check_numbers,
    n_check_numbers := n_check_numbers,
    g_check_numbers := PySem.W.mg_of X G a_check_numbers,
    k_check_numbers := k_check_numbers,
    F_runs_of := F_runs_of,
    n_runs_of := n_runs_of,
    g_runs_of := PySem.W.mg_of X G a_runs_of,
    k_runs_of := k_runs_of,
    F_shorten_calls := F_shorten_calls,
    n_shorten_calls := n_shorten_calls,
    g_shorten_calls := PySem.W.mg_of X G a_shorten_calls,
    k_shorten_calls := k_shorten_calls,
    F_colors_taken_by_each := F_colors_taken_by_each,
    n_colors_taken_by_each := n_colors_taken_by_each,
    g_colors_taken_by_each := PySem.W.mg_of X G a_colors_taken_by_each,
    k_colors_taken_by_each := k_colors_taken_by_each,
    F__law_holds := F__law_holds,
    n__law_holds := n__law_holds,
    g__law_holds := PySem.W.mg_of X G a__law_holds,
    k__law_holds := k__law_holds,
    F__law_sequence := F__law_sequence,
    n__law_sequence := n__law_sequence,
    g__law_sequence := PySem.W.mg_of X G a__law_sequence,
    k__law_sequence := k__law_sequence,
    F_law := F_law,
    n_law := n_law,
    g_law := PySem.W.mg_of X G a_law,
    k_law := k_law }
  exact ⟨_, fun s v => .of_eq rfl, fun base _ _ => ok_law T⟩
theorem walk {l : PySem.W.OpenLaw} {q : Program} {loose : List Str} {XP : (Str → Option Value) → Heap → Prop} {YP : World → Heap → Prop} {d : DefRec} {K : Params → PySem.W.Frag} (hn : l.most = some 63) (hdf : d.params.defaults = [])
    (hY : ∀ (w : World) (h : Heap), YP w h → (K w.params).In h)
    (F : ∀ (w : World) (mg : Str → Option Value) (fa : Addr) (h : Heap), (K w.params).In h → h.Ns mainGlobals mg → mg d.name = some (.ref fa) →
      ∃ fd : FuncData, (∀ (s : Shared) (u : Value), BindsTo s fd ⟨[u], []⟩ [("script", u)]) ∧ ∀ base : Heap, (K w.params).In base → base.Ns mainGlobals mg → FnOk l.prog w (K w.params) mg base CX0 7 fa fd ["script"] (sp_law (K w.params))) :
    PySem.W.WalkO q loose XP YP l.row.toRowW d [] (fun f vs => PySem.call f vs) :=
  L2.walk_of (n := 63) (k := 7) (x := "script") (CX := fun _ => CX0) (sp := fun w => sp_law (K w.params)) hn (by decide) hdf ⟨rfl, by decide, by decide⟩ hY F (fun _ _ a ns hl hO hS => ⟨a, ns, rfl, Scr.of hO hS, hl, fun _ => rfl⟩) fun _ _ _ _ _ z => z
end K19
open PySem PySem.W PyProof.Rows
set_option maxRecDepth 100000 in
set_option maxHeartbeats 0 in
theorem PySem.Challenge.cw_lastother_k19_whole_renamed_lineups_holds : PySem.Challenge.rw_lastother_k19_whole_renamed_lineups.Holds := by
  w_on; o_law; k_head; (case hw => w_witness2)
  k_fill
  refine K19.walk (l := PySem.Challenge.rw_lastother_k19_whole_renamed_lineups) rfl rfl (fun w h Y => PySem.W.kIn_of Y) ?F
  case F =>
    intro w mg fa h KX G hmg
    refine' K19.all_mk KX G hmg ?a__law_cells ?l__law_cells ?c__law_cells ?k__law_cells ?a__law_source ?l__law_source ?c__law_source ?k__law_source ?a__law_draw ?l__law_draw ?c__law_draw ?k__law_draw ?a__law_row ?l__law_row ?c__law_row ?k__law_row ?a__law_permutation ?l__law_permutation ?c__law_permutation ?k__law_permutation ?a_is_integer ?l_is_integer ?c_is_integer ?k_is_integer ?a_is_color ?l_is_color ?c_is_color ?k_is_color ?a_is_colored_integer ?l_is_colored_integer ?c_is_colored_integer ?k_is_colored_integer ?a_is_lineup ?l_is_lineup ?c_is_lineup ?k_is_lineup ?a_check_lineup ?l_check_lineup ?c_check_lineup ?k_check_lineup ?a_is_person ?l_is_person ?c_is_person ?k_is_person ?a_check_calls ?l_check_calls ?c_check_calls ?k_check_calls ?a_first_other_color ?l_first_other_color ?c_first_other_color ?k_first_other_color ?a_colors_by_person ?l_colors_by_person ?c_colors_by_person ?k_colors_by_person ?a_apply_call ?l_apply_call ?c_apply_call ?k_apply_call ?a_colors_taken ?l_colors_taken ?c_colors_taken ?k_colors_taken ?a_lineup_after ?l_lineup_after ?c_lineup_after ?k_lineup_after ?a__law_letter ?l__law_letter ?c__law_letter ?k__law_letter ?a__law_renamed ?l__law_renamed ?c__law_renamed ?k__law_renamed ?a_check_numbers ?l_check_numbers ?c_check_numbers ?k_check_numbers ?a_runs_of ?l_runs_of ?c_runs_of ?k_runs_of ?a_shorten_calls ?l_shorten_calls ?c_shorten_calls ?k_shorten_calls ?a_colors_taken_by_each ?l_colors_taken_by_each ?c_colors_taken_by_each ?k_colors_taken_by_each ?a__law_holds ?l__law_holds ?c__law_holds ?k__law_holds ?a__law_sequence ?l__law_sequence ?c__law_sequence ?k__law_sequence ?a_law ?l_law ?c_law ?k_law ?a_MOST_PEOPLE ?z_bool ?z_enumerate ?z_int ?z_isinstance ?z_len ?z_list ?z_max ?z_min ?z_range ?z_sorted ?z_str ?z_tuple ?z_type
    (case a__law_cells => k_is)
    (case l__law_cells => k_is)
    (case c__law_cells => k_is)
    (case k__law_cells => k_is)
    (case a__law_source => k_is)
    (case l__law_source => k_is)
    (case c__law_source => k_is)
    (case k__law_source => k_is)
    (case a__law_draw => k_is)
    (case l__law_draw => k_is)
    (case c__law_draw => k_is)
    (case k__law_draw => k_is)
    (case a__law_row => k_is)
    (case l__law_row => k_is)
    (case c__law_row => k_is)
    (case k__law_row => k_is)
    (case a__law_permutation => k_is)
    (case l__law_permutation => k_is)
    (case c__law_permutation => k_is)
    (case k__law_permutation => k_is)
    (case a_is_integer => k_is)
    (case l_is_integer => k_is)
    (case c_is_integer => k_is)
    (case k_is_integer => k_is)
    (case a_is_color => k_is)
    (case l_is_color => k_is)
    (case c_is_color => k_is)
    (case k_is_color => k_is)
    (case a_is_colored_integer => k_is)
    (case l_is_colored_integer => k_is)
    (case c_is_colored_integer => k_is)
    (case k_is_colored_integer => k_is)
    (case a_is_lineup => k_is)
    (case l_is_lineup => k_is)
    (case c_is_lineup => k_is)
    (case k_is_lineup => k_is)
    (case a_check_lineup => k_is)
    (case l_check_lineup => k_is)
    (case c_check_lineup => k_is)
    (case k_check_lineup => k_is)
    (case a_is_person => k_is)
    (case l_is_person => k_is)
    (case c_is_person => k_is)
    (case k_is_person => k_is)
    (case a_check_calls => k_is)
    (case l_check_calls => k_is)
    (case c_check_calls => k_is)
    (case k_check_calls => k_is)
    (case a_first_other_color => k_is)
    (case l_first_other_color => k_is)
    (case c_first_other_color => k_is)
    (case k_first_other_color => k_is)
    (case a_colors_by_person => k_is)
    (case l_colors_by_person => k_is)
    (case c_colors_by_person => k_is)
    (case k_colors_by_person => k_is)
    (case a_apply_call => k_is)
    (case l_apply_call => k_is)
    (case c_apply_call => k_is)
    (case k_apply_call => k_is)
    (case a_colors_taken => k_is)
    (case l_colors_taken => k_is)
    (case c_colors_taken => k_is)
    (case k_colors_taken => k_is)
    (case a_lineup_after => k_is)
    (case l_lineup_after => k_is)
    (case c_lineup_after => k_is)
    (case k_lineup_after => k_is)
    (case a__law_letter => k_is)
    (case l__law_letter => k_is)
    (case c__law_letter => k_is)
    (case k__law_letter => k_is)
    (case a__law_renamed => k_is)
    (case l__law_renamed => k_is)
    (case c__law_renamed => k_is)
    (case k__law_renamed => k_is)
    (case a_check_numbers => k_is)
    (case l_check_numbers => k_is)
    (case c_check_numbers => k_is)
    (case k_check_numbers => k_is)
    (case a_runs_of => k_is)
    (case l_runs_of => k_is)
    (case c_runs_of => k_is)
    (case k_runs_of => k_is)
    (case a_shorten_calls => k_is)
    (case l_shorten_calls => k_is)
    (case c_shorten_calls => k_is)
    (case k_shorten_calls => k_is)
    (case a_colors_taken_by_each => k_is)
    (case l_colors_taken_by_each => k_is)
    (case c_colors_taken_by_each => k_is)
    (case k_colors_taken_by_each => k_is)
    (case a__law_holds => k_is)
    (case l__law_holds => k_is)
    (case c__law_holds => k_is)
    (case k__law_holds => k_is)
    (case a__law_sequence => k_is)
    (case l__law_sequence => k_is)
    (case c__law_sequence => k_is)
    (case k__law_sequence => k_is)
    (case a_law => k_is)
    (case l_law => k_is)
    (case c_law => k_is)
    (case k_law => k_is)
    (case a_MOST_PEOPLE => k_is)
    (case z_bool => k_is)
    (case z_enumerate => k_is)
    (case z_int => k_is)
    (case z_isinstance => k_is)
    (case z_len => k_is)
    (case z_list => k_is)
    (case z_max => k_is)
    (case z_min => k_is)
    (case z_range => k_is)
    (case z_sorted => k_is)
    (case z_str => k_is)
    (case z_tuple => k_is)
    (case z_type => k_is)
