import PyProof.Rows.All
import Wide.All
import OpenK.AllK
import Wide.FinOn
import HandS.Base
import HandS.Call
import HandS.List
import HandS.Comp
import HandS.Ends
import HandS.Dict
import HandS.Iter
import HandS.Text
import HandS.Words
import HandS.WordsList
import HandS.Codes
import PySem.Challenge.RW_aheadbook_k33_whole_a_web_or_a_knot
import HandS.Style
import HandS.TupAny
import KE.SortData
import PyProof.EnumMake
import PyProof.Draws
import KE.GoesMore
import HandS.IsInst
import HandS.DictComp
import HandS.Strs
import HandS.DictSub
import HandS.Deep
import HandS.Flow
import KE.DataCmp
import KE.KDictSum
import HandS.Conv
import PyProof.DictFindH
import PyProof.EqAt
import PyProof.EqKinds
import PyProof.TupleCall
import HandS.Exc
import HandS.ExcOwn
import HandS.WordsExc
import HandS.TryOnly
import HandS.ExcIs
import HandS.RevTup
import KE.DataFind
set_option Elab.async false
set_option linter.all false
set_option maxRecDepth 100000
set_option maxHeartbeats 2000000
namespace Ah
open PySem PySem.Spec PyProof.Rows L2
/-! ### heaps that keep all but one object -/
def Kp (p : Addr) (H H' : Hp) : Prop := ∀ b o, b ≠ p → H b = some o → H' b = some o
theorem Kp.refl (p : Addr) (H : Hp) : Kp p H H := fun _ _ _ h => h
theorem Kp.trans {p : Addr} {H H1 H2 : Hp} (a : Kp p H H1) (b : Kp p H1 H2) : Kp p H H2 := fun c o n h => b c o n (a c o n h)
theorem Kp.same {p : Addr} {H H' : Hp} (a : Same H H') : Kp p H H' := fun c o _ h => a c o h
theorem Kp.new {p q : Addr} {H : Hp} {o : HO} (h : H q = none) : Kp p H (upd H q o) := fun b x _ e => by
  rw [upd_ne (ne_of_none e h)]
  exact e
theorem Kp.put {p : Addr} {H : Hp} {o : HO} : Kp p H (upd H p o) := fun b x n e => by
  rw [upd_ne n]
  exact e
/-- what is not tracked at first may change -/
theorem Kp.mut {p q : Addr} {H H' : Hp} {o : HO} (k : Kp p H H') (h : H q = none) : Kp p H (upd H' q o) := fun b x n e => by
  rw [upd_ne (ne_of_none e h)]
  exact k b x n e
theorem same_new {q : Addr} {H : Hp} {o : HO} (h : H q = none) : Same H (upd H q o) := fun b x e => by
  rw [upd_ne (ne_of_none e h)]
  exact e
theorem same_mut {q : Addr} {H H' : Hp} {o : HO} (k : Same H H') (h : H q = none) : Same H (upd H' q o) := fun b x e => by
  rw [upd_ne (ne_of_none e h)]
  exact k b x e
theorem rd_kp {p a : Addr} {u : HO} {H H' : Hp} (k : Kp p H H') {kvs : List (Key × V)} (hp : H p = some (.dK kvs)) (hu : ∀ kvs, u ≠ .dK kvs) (h : Rd H a u) : Rd H' a u := by
  rcases h with h | ⟨o, h⟩
  · refine .inl (k a _ (fun e => ?_) h)
    rw [e, hp] at h
    exact hu _ (Option.some.inj h).symm
  · refine .inr ⟨o, k a _ (fun e => ?_) h⟩
    rw [e, hp] at h
    cases h
theorem seq_kp {K : PySem.W.Frag} {p a : Addr} {xs : List V} {H H' : Hp} (k : Kp p H H') {kvs : List (Key × V)} (hp : H p = some (.dK kvs)) (h : SqL K H a xs) : SqL K H' a xs := by
  rcases h with h | h
  · exact .inl (rd_kp k hp (fun _ z => by cases z) h)
  · exact .inr h
theorem tup_kp {K : PySem.W.Frag} {p a : Addr} {xs : List V} {H H' : Hp} (k : Kp p H H') {kvs : List (Key × V)} (hp : H p = some (.dK kvs)) (h : SqT K H a xs) : SqT K H' a xs := by
  rcases h with h | h
  · exact .inl (rd_kp k hp (fun _ z => by cases z) h)
  · exact .inr h
theorem tup_same {K : PySem.W.Frag} {a : Addr} {xs : List V} {H H' : Hp} (k : Same H H') (h : SqT K H a xs) : SqT K H' a xs := by
  rcases h with (h | ⟨o, h⟩) | h
  · exact .inl (.inl (k _ _ h))
  · exact .inl (.inr ⟨o, k _ _ h⟩)
  · exact .inr h
/-! ### the pen -/
def penK (c : Addr) (a l : Int) : List (Key × V) := [(.inr "cells", .ref c), (.inr "at", .int a), (.inr "left", .int l)]
def PenAt (H : Hp) (p c : Addr) (n : Nat) : Prop := ∃ (ns : List Int) (a l : Int), H p = some (.dK (penK c a l)) ∧ H c = some (.lst (ns.map V.int)) ∧ 0 ≤ a ∧ a ≤ n ∧ 0 ≤ l
theorem k_ca : ¬ (("cells" : Str) = "at") := by decide +kernel
theorem k_cl : ¬ (("cells" : Str) = "left") := by decide +kernel
theorem k_al : ¬ (("at" : Str) = "left") := by decide +kernel
theorem pen_cells (c : Addr) (a l : Int) : valV (penK c a l) (.inr "cells" : Key) = some (.ref c) := valV_pos rfl
theorem pen_at (c : Addr) (a l : Int) : valV (penK c a l) (.inr "at" : Key) = some (.int a) := (valV_neg fun e => k_ca (Sum.inr.inj e)).trans (valV_pos rfl)
theorem pen_left (c : Addr) (a l : Int) : valV (penK c a l) (.inr "left" : Key) = some (.int l) := (valV_neg fun e => k_cl (Sum.inr.inj e)).trans ((valV_neg fun e => k_al (Sum.inr.inj e)).trans (valV_pos rfl))
theorem pen_putAt (c : Addr) (a l b : Int) : putK (penK c a l) (.inr "at" : Key) (.int b) = penK c b l := by
  have h : ((penK c a l).any fun kv => decide (kv.1 = (.inr "at" : Key))) = true := by rw [valV_any, pen_at]; rfl
  unfold putK
  rw [if_pos h]
  show [if (Sum.inr ("cells" : Str) : Key) = Sum.inr ("at" : Str) then ((Sum.inr ("cells" : Str) : Key), V.int b) else (Sum.inr ("cells" : Str), V.ref c), if (Sum.inr ("at" : Str) : Key) = Sum.inr ("at" : Str) then ((Sum.inr ("at" : Str) : Key), V.int b) else (Sum.inr ("at" : Str), V.int a), if (Sum.inr ("left" : Str) : Key) = Sum.inr ("at" : Str) then ((Sum.inr ("left" : Str) : Key), V.int b) else (Sum.inr ("left" : Str), V.int l)] = penK c b l
  rw [if_neg (fun e => k_ca (Sum.inr.inj e)), if_pos rfl, if_neg (fun e => k_al (Sum.inr.inj e).symm)]
  rfl
theorem pen_putLeft (c : Addr) (a l b : Int) : putK (penK c a l) (.inr "left" : Key) (.int b) = penK c a b := by
  have h : ((penK c a l).any fun kv => decide (kv.1 = (.inr "left" : Key))) = true := by rw [valV_any, pen_left]; rfl
  unfold putK
  rw [if_pos h]
  show [if (Sum.inr ("cells" : Str) : Key) = Sum.inr ("left" : Str) then ((Sum.inr ("cells" : Str) : Key), V.int b) else (Sum.inr ("cells" : Str), V.ref c), if (Sum.inr ("at" : Str) : Key) = Sum.inr ("left" : Str) then ((Sum.inr ("at" : Str) : Key), V.int b) else (Sum.inr ("at" : Str), V.int a), if (Sum.inr ("left" : Str) : Key) = Sum.inr ("left" : Str) then ((Sum.inr ("left" : Str) : Key), V.int b) else (Sum.inr ("left" : Str), V.int l)] = penK c a b
  rw [if_neg (fun e => k_cl (Sum.inr.inj e)), if_neg (fun e => k_al (Sum.inr.inj e)), if_pos rfl]
  rfl
theorem PenAt.mono {H : Hp} {p c : Addr} {n m : Nat} (h : PenAt H p c n) (hm : n ≤ m) : PenAt H p c m := by
  obtain ⟨ns, a, l, h1, h2, h3, h4, h5⟩ := h
  exact ⟨ns, a, l, h1, h2, h3, by omega, h5⟩
theorem PenAt.keep {H H' : Hp} {p c : Addr} {n : Nat} (h : PenAt H p c n) (k : Same H H') : PenAt H' p c n := by
  obtain ⟨ns, a, l, h1, h2, h3, h4, h5⟩ := h
  exact ⟨ns, a, l, k _ _ h1, k _ _ h2, h3, h4, h5⟩
theorem PenAt.dk {H : Hp} {p c : Addr} {n : Nat} (h : PenAt H p c n) : ∃ kvs : List (Key × V), H p = some (.dK kvs) := by
  obtain ⟨ns, a, l, h1, _⟩ := h
  exact ⟨_, h1⟩
/-- an object that was not there when the pen stood is changed -/
theorem PenAt.mut {H H' : Hp} {p c q : Addr} {n m : Nat} {o : HO} (h : PenAt H p c n) (hq : H q = none) (h' : PenAt H' p c m) : PenAt (upd H' q o) p c m := by
  obtain ⟨_, _, _, g1, g2, _⟩ := h
  obtain ⟨ns, a, l, h1, h2, h3, h4, h5⟩ := h'
  exact ⟨ns, a, l, (upd_ne (ne_of_none g1 hq)).trans h1, (upd_ne (ne_of_none g2 hq)).trans h2, h3, h4, h5⟩
theorem Kp.free {H H' : Hp} {p c q : Addr} {n : Nat} (k : Kp p H H') (hp : PenAt H' p c n) (h : H' q = none) : H q = none := by
  obtain ⟨kvs, hk⟩ := hp.dk
  have nq : q ≠ p := fun e => by
    rw [e, hk] at h
    cases h
  cases e : H q with
  | none => rfl
  | some o =>
    rw [k q o nq e] at h
    cases h
/-! ### equal data -/
theorem dp_ints {K : PySem.W.Frag} {H : Hp} : ∀ ns : List Int, DpAll K H (ns.map V.int) (ns.map PyData.int)
  | [] => .nil
  | n :: ns => .cons (.int n) (dp_ints ns)
theorem dp_strs {K : PySem.W.Frag} {H : Hp} : ∀ ns : List Str, DpAll K H (ns.map V.str) (ns.map PyData.str)
  | [] => .nil
  | n :: ns => .cons (.str n) (dp_strs ns)
theorem lay_ints : ∀ ns : List Int, PyData.canLayAll0 (ns.map PyData.int) = true ∧ PyData.depthAll (ns.map PyData.int) ≤ 1
  | [] => ⟨rfl, by simp [PyData.depthAll]⟩
  | n :: ns => by
    obtain ⟨h1, h2⟩ := lay_ints ns
    refine ⟨by simp [PyData.canLayAll0, PyData.canLay0, h1], ?_⟩
    simp only [List.map_cons, PyData.depthAll, PyData.depth]
    omega
theorem lay_strs : ∀ ns : List Str, (∀ x ∈ ns, PyData.strOk x = true) → PyData.canLayAll0 (ns.map PyData.str) = true ∧ PyData.depthAll (ns.map PyData.str) ≤ 1
  | [], _ => ⟨rfl, by simp [PyData.depthAll]⟩
  | n :: ns, h => by
    obtain ⟨h1, h2⟩ := lay_strs ns fun x hx => h x (List.mem_cons_of_mem _ hx)
    refine ⟨by simp [PyData.canLayAll0, PyData.canLay0, h1, h n List.mem_cons_self], ?_⟩
    simp only [List.map_cons, PyData.depthAll, PyData.depth]
    omega
theorem shp_list {ds : List PyData} (h : PyData.canLayAll0 ds = true) (hd : PyData.depthAll ds ≤ 63) : SeqAt.shaped (.list ds) = true := by
  unfold SeqAt.shaped
  simp only [PyData.canLay0, PyData.depth, h, Bool.true_and]
  exact decide_eq_true (by omega)
theorem shp_tup {ds : List PyData} (h : PyData.canLayAll0 ds = true) (hd : PyData.depthAll ds ≤ 63) : SeqAt.shaped (.tuple ds) = true := by
  unfold SeqAt.shaped
  simp only [PyData.canLay0, PyData.depth, h, Bool.true_and]
  exact decide_eq_true (by omega)
theorem shp_ints (ns : List Int) : SeqAt.shaped (.list (ns.map PyData.int)) = true := shp_list (lay_ints ns).1 (Nat.le_trans (lay_ints ns).2 (by decide))
theorem shp_strs {ns : List Str} (h : ∀ x ∈ ns, PyData.strOk x = true) : SeqAt.shaped (.list (ns.map PyData.str)) = true := shp_list (lay_strs ns h).1 (Nat.le_trans (lay_strs ns h).2 (by decide))
theorem shp_strsT {ns : List Str} (h : ∀ x ∈ ns, PyData.strOk x = true) : SeqAt.shaped (.tuple (ns.map PyData.str)) = true := shp_tup (lay_strs ns h).1 (Nat.le_trans (lay_strs ns h).2 (by decide))
theorem shp_nil : SeqAt.shaped (.list []) = true := shp_list rfl (by simp [PyData.depthAll])
theorem eqv_nil {α : Type} (f : α → PyData) (ns : List α) : PyData.eqv (.list (ns.map f)) (.list []) = ns.isEmpty := by
  cases ns with
  | nil => simp [PyData.eqv, PyData.eqvAll]
  | cons n ns => simp [PyData.eqv, PyData.eqvAll]
end Ah
set_option Elab.async false
set_option linter.all false
set_option maxRecDepth 100000
set_option maxHeartbeats 2000000
namespace Ah
open PySem PySem.Spec PyProof.Rows L2
def topS (i : Nat) : Stmt := PySem.Challenge.pw_aheadbook_k33_whole_a_web_or_a_knot.main.body.getD i (.Pass ⟨0, 0, 0, 0⟩)
abbrev sDraw : Stmt := topS 17
/-- the built-in names that the text uses -/
structure Blt (mg : Str → Option Value) : Prop where
  len : mg "len" = none
  abs : mg "abs" = none
  list : mg "list" = none
theorem dg_left {H : Hp} {p c : Addr} {a l : Int} (h : H p = some (.dK (penK c a l))) : DGet H p (.str "left") (some (.int l)) := by
  have q := DGet.k (k := (Sum.inr ("left" : Str) : Key)) h
  rw [pen_left] at q
  exact q
theorem dg_at {H : Hp} {p c : Addr} {a l : Int} (h : H p = some (.dK (penK c a l))) : DGet H p (.str "at") (some (.int a)) := by
  have q := DGet.k (k := (Sum.inr ("at" : Str) : Key)) h
  rw [pen_at] at q
  exact q
theorem dg_cells {H : Hp} {p c : Addr} {a l : Int} (h : H p = some (.dK (penK c a l))) : DGet H p (.str "cells") (some (.ref c)) := by
  have q := DGet.k (k := (Sum.inr ("cells" : Str) : Key)) h
  rw [pen_cells] at q
  exact q
theorem dp_left {H : Hp} {p c : Addr} {a l b : Int} (h : H p = some (.dK (penK c a l))) : DPut H p (.str "left") (.int b) (upd H p (.dK (penK c a b))) := by
  have q := DPut.k (k := (Sum.inr ("left" : Str) : Key)) (v := V.int b) h (by show 3 < sizeLine; decide)
  rw [pen_putLeft] at q
  exact q
theorem dp_at {H : Hp} {p c : Addr} {a l b : Int} (h : H p = some (.dK (penK c a l))) : DPut H p (.str "at") (.int b) (upd H p (.dK (penK c b l))) := by
  have q := DPut.k (k := (Sum.inr ("at" : Str) : Key)) (v := V.int b) h (by show 3 < sizeLine; decide)
  rw [pen_putAt] at q
  exact q
theorem blend_lt {x m : Int} (h : 0 < m) : 0 ≤ x % m ∧ x % m < m := ⟨Int.emod_nonneg _ (by omega), Int.emod_lt_of_pos _ h⟩
section
variable {P : Program} {w : World} {K : PySem.W.Frag} {mg : Str → Option Value} {base : Heap}
theorem scDraw : FnScope ["pen", "many", "digit", "at", "cell", "blend"] ["pen", "many"] (defScope sDraw) := ⟨rfl, rfl, rfl, by decide +kernel, rfl, by decide +kernel, by decide +kernel⟩
def spDraw : Sp := fun vs H Q _ => ∃ (p c : Addr) (m : Int) (n : Nat), vs = [.ref p, .int m] ∧ PenAt H p c n ∧ n < 1000000 ∧ 0 < m ∧ m < 1073741824 ∧
  ∀ (d : Int) (H' : Hp), 0 ≤ d → d < m → PenAt H' p c (n + 1) → Kp p H H' → Q (.int d) H'
theorem ok_draw {f : Addr} {fd : FuncData} (F : Fun K "_law_draw" "_law_draw" sDraw f fd) (B : Blt mg) : FnOk P w K mg base CX0 1 f fd ["pen", "many"] spDraw := by
  refine F.ok scDraw (fun vs H Q E h => ?_) (fun cdv A outer s H vs Q E hr h => ?_)
  · obtain ⟨p, c, m, n, rfl, _⟩ := h
    rfl
  · obtain ⟨p, c, m, n, rfl, ⟨ns, a, l, hp, hc, a0, an, l0⟩, hn, m0, m1, k⟩ := h
    have hu := hu_of hr
    have nd := scDraw.nd
    have ncp : c ≠ p := fun e => by
      rw [e, hp] at hc
      cases hc
    refine ⟨_, pss_cons (ps_if (pt_cmpR op_gt (pe_dget hu (pv 0) pe_str (fun _ _ => rfl)) pe_int (nomark _))
        (pss_cons (ps_set (i := 2) nd rfl (.inl rfl) (pe_op op_mod (pe_dget hu (pv 0) pe_str (fun _ _ => rfl)) (pv 1)))
        (pss_cons (ps_dput hu (pv 0) pe_str (pe_op op_fdiv (pe_dget hu (pv 0) pe_str (fun _ _ => rfl)) (pv 1)) rfl)
        (pss_one (ps_ret (pv 2))))) pss_nil)
      (pss_cons (ps_set (i := 3) nd rfl (.inl rfl) (pe_dget hu (pv 0) pe_str (fun _ _ => rfl)))
      (pss_cons (ps_dput hu (pv 0) pe_str (pe_op op_add (pv 3) pe_int) rfl)
      (pss_cons (ps_set (i := 4) nd rfl (.inl rfl) (pe_op op_add (pe_op op_mul pe_int (pv 3)) pe_int))
      (C8.pss_cut (ps_if (pt_cmpR (op_neD hr.units) (pe_dget hu (pv 0) pe_str (fun _ _ => rfl)) (pe_lst pa_nil) (nomark _))
        (pss_one (ps_set (i := 4) nd rfl (.inl rfl) (pe_ix ix_list (pe_dget hu (pv 0) pe_str (fun _ _ => rfl)) (pe_op op_mod (pv 3) (pe_callB call_len_seq (by rfl) B.len PySem.boot_len (pa_cons (pe_dget hu (pv 0) pe_str (fun _ _ => rfl)) pa_nil))) (fun _ _ => rfl)))) pss_nil)
      (C8.pss_cut (ps_if (PW.pt (pw_and (pt_cmpR op_lt (pv 3) (pe_callB call_len_seq (by rfl) B.len PySem.boot_len (pa_cons (pe_dget hu (pv 0) pe_str (fun _ _ => rfl)) pa_nil)) (nomark _))
            (pw_and1 (pt_cmpR op_ge (pe_callB call_abs (by rfl) B.abs (by decide +kernel) (pa_cons (pv 4) pa_nil)) (pe_op op_pow pe_int pe_int) (nomark _)))))
        (pss_cons (ps_dput hu (pv 0) pe_str (pe_op op_fdiv (pe_op op_sub (pe_callB call_abs (by rfl) B.abs (by decide +kernel) (pa_cons (pv 4) pa_nil)) (pe_op op_pow pe_int pe_int)) (pv 1)) rfl)
        (pss_one (ps_ret (pe_op op_mod (pe_op op_sub (pe_callB call_abs (by rfl) B.abs (by decide +kernel) (pa_cons (pv 4) pa_nil)) (pe_op op_pow pe_int pe_int)) (pv 1))))) pss_nil)
      (pss_cons (ps_set (i := 5) nd rfl (.inl rfl) (pe_op op_mod (pe_op op_add (pe_op op_add (pe_op op_add (pe_op op_mul (pe_op op_mod (pv 4) pe_int) pe_int) (pe_op op_mul (pe_op op_mul pe_int (pv 3)) (pv 3))) (pe_op op_mul pe_int (pv 3))) pe_int) pe_int))
      (pss_cons (ps_set (i := 5) nd rfl (.inl rfl) (pe_op op_mod (pe_op op_add (pe_op op_add (pe_op op_add (pe_op op_mul (pv 5) (pv 5)) (pe_op op_mul pe_int (pv 5))) (pe_op op_mul pe_int (pv 3))) pe_int) pe_int))
      (pss_one (ps_ret (pe_op op_mod (pe_op op_fdiv (pe_op op_mod (pe_op op_mul (pv 5) (pe_op op_add (pv 5) pe_int)) pe_int) pe_int) (pv 1))))))))))), ?_⟩
    -- if pen['left'] > 0
    refine ⟨_, rfl, p, _, rfl, dg_left hp, _, _, rfl, rfl, _, rfl, ?_⟩
    refine ite2 (fun e => ?_) (fun e => ?_)
    · have e : 0 < l := of_decide_eq_true e
      refine ⟨_, rfl, p, _, rfl, dg_left hp, _, rfl, _, _, rfl, rfl, m0, ?_⟩
      refine ⟨_, rfl, p, _, rfl, dg_left hp, _, rfl, _, _, rfl, rfl, ⟨m0, m1⟩, _, rfl, p, _, rfl, dp_left hp, ?_⟩
      refine ⟨_, rfl, k _ _ (blend_lt m0).1 (blend_lt m0).2 ⟨ns, a, l / m, upd_same, (upd_ne ncp).trans hc, a0, by omega, Int.ediv_nonneg l0 (by omega)⟩ Kp.put⟩
    -- at = pen['at']; pen['at'] = at + 1
    refine ⟨_, rfl, p, _, rfl, dg_at hp, ?_⟩
    refine ⟨_, rfl, _, _, rfl, rfl, _, rfl, p, _, rfl, dp_at hp, ?_⟩
    have hp1 : (upd H p (.dK (penK c (a + 1) l))) p = some (.dK (penK c (a + 1) l)) := upd_same
    have hc1 : (upd H p (.dK (penK c (a + 1) l))) c = some (.lst (ns.map V.int)) := (upd_ne ncp).trans hc
    have k1 : Kp p H (upd H p (.dK (penK c (a + 1) l))) := Kp.put
    generalize upd H p (.dK (penK c (a + 1) l)) = H1 at hp1 hc1 k1 ⊢
    -- cell = 17 * at + 3
    refine ⟨_, rfl, _, _, rfl, rfl, .inl (by omega), _, _, rfl, rfl, ?_⟩
    -- if pen['cells'] != []
    refine ⟨fun σ' H' => ∃ cell : Int, σ' = [some (.ref p), some (.int m), none, some (.int a), some (.int cell), none] ∧ H' p = some (.dK (penK c (a + 1) l)) ∧ H' c = some (.lst (ns.map V.int)) ∧ Kp p H H', ?_, ?_⟩
    · refine ⟨_, rfl, p, _, rfl, dg_cells hp1, Nat.zero_le _, fun q hq => ?_⟩
      have hp2 : (upd H1 q (.lst [])) p = some (.dK (penK c (a + 1) l)) := (upd_ne (ne_of_none hp1 hq)).trans hp1
      have hc2 : (upd H1 q (.lst [])) c = some (.lst (ns.map V.int)) := (upd_ne (ne_of_none hc1 hq)).trans hc1
      have hq2 : (upd H1 q (.lst [])) q = some (.lst []) := upd_same
      have k2 : Kp p H (upd H1 q (.lst [])) := k1.trans (Kp.new hq)
      generalize upd H1 q (.lst []) = H2 at hp2 hc2 hq2 k2 ⊢
      refine ⟨.list (ns.map PyData.int), .list [], .lst (SqL.of hc2) (dp_ints ns), .lst (SqL.of hq2) .nil, shp_ints ns, shp_nil, _, rfl, ?_⟩
      rw [eqv_nil]
      refine ite2 (fun e => ?_) (fun e => ⟨_, rfl, hp2, hc2, k2⟩)
      have hne : 0 < ns.length := by
        cases ns with
        | nil => cases e
        | cons x r => exact Nat.succ_pos _
      have hlen : (0 : Int) < ((ns.map V.int).length : Int) := by
        rw [List.length_map]
        omega
      have hm := blend_lt (x := a) hlen
      rw [List.length_map] at hm
      obtain ⟨j, hj⟩ : ∃ j : Nat, (a % (ns.length : Int)) = (j : Int) := ⟨(a % (ns.length : Int)).toNat, by omega⟩
      have hjl : j < ns.length := by omega
      refine ⟨_, rfl, p, _, rfl, dg_cells hp2, _, rfl, _, rfl, p, _, rfl, dg_cells hp2, c, _, rfl, .inl (SqL.of hc2), _, _, rfl, rfl, hlen, c, ns.map V.int, _, .int (ns[j]), rfl, rfl, SqL.of hc2, ?_, ⟨_, rfl, hp2, hc2, k2⟩⟩
      rw [List.length_map, hj]
      refine atI_nat ?_
      rw [List.getElem?_map, List.getElem?_eq_getElem hjl]
      rfl
    rintro σ' H2 ⟨cell, rfl, hp2, hc2, k2⟩
    have fin : ∀ (H' : Hp) (b : Int), 0 ≤ b → H' p = some (.dK (penK c (a + 1) b)) → H' c = some (.lst (ns.map V.int)) → PenAt H' p c (n + 1) := fun H' b hb q1 q2 => ⟨ns, a + 1, b, q1, q2, by omega, by omega, hb⟩
    -- if at < len(pen['cells']) and abs(cell) >= 10 ** 18
    refine ⟨fun σ' H' => σ' = [some (.ref p), some (.int m), none, some (.int a), some (.int cell), none] ∧ H' = H2, ?_, ?_⟩
    · refine ⟨_, rfl, _, rfl, p, _, rfl, dg_cells hp2, c, _, rfl, .inl (SqL.of hc2), _, _, rfl, rfl, _, rfl, ?_⟩
      refine ite2 (fun e1 => ?_) (fun e1 => iteF ⟨rfl, rfl⟩)
      refine ⟨_, rfl, cell, rfl, _, _, rfl, rfl, ⟨by decide, by decide, by decide⟩, _, _, rfl, rfl, _, rfl, ?_⟩
      refine ite2 (fun e2 => ?_) (fun e2 => ⟨rfl, rfl⟩)
      have e2 : (10 : Int) ^ (18 : Int).toNat ≤ (if cell < 0 then -cell else cell) := of_decide_eq_true e2
      refine ⟨_, rfl, cell, rfl, _, _, rfl, rfl, ⟨by decide, by decide, by decide⟩, _, _, rfl, rfl, _, rfl, _, _, rfl, rfl, ⟨m0, m1⟩, _, rfl, p, _, rfl, dp_left hp2, ?_⟩
      refine ⟨_, rfl, cell, rfl, _, _, rfl, rfl, ⟨by decide, by decide, by decide⟩, _, _, rfl, rfl, _, rfl, _, _, rfl, rfl, m0, ?_⟩
      exact k _ _ (blend_lt m0).1 (blend_lt m0).2 (fin _ _ (Int.ediv_nonneg (by omega) (by omega)) upd_same ((upd_ne ncp).trans hc2)) (k2.trans Kp.put)
    rintro σ' H3 ⟨rfl, rfl⟩
    -- the blends
    have b0 := blend_lt (x := cell) (m := 2147483659) (by decide)
    refine ⟨_, rfl, _, _, rfl, rfl, (by show (0 : Int) < 2147483659; decide), _, _, rfl, rfl, .inl (by show -(2 ^ 64) < cell % 2147483659 ∧ cell % 2147483659 < 2 ^ 64; omega), _, rfl, _, _, rfl, rfl, .inl (by decide), _, rfl, _, _, rfl, rfl, .inl (by omega), _, _, rfl, rfl, _, rfl, _, _, rfl, rfl, .inl (by decide), _, _, rfl, rfl, _, _, rfl, rfl, _, _, rfl, rfl, (by show (0 : Int) < 2147483693; decide), ?_⟩
    have b1 := blend_lt (x := cell % 2147483659 * 48271 + 30011 * a * a + 12289 * a + 7) (m := 2147483693) (by decide)
    obtain ⟨x, hx⟩ : ∃ x, x = (cell % 2147483659 * 48271 + 30011 * a * a + 12289 * a + 7) % 2147483693 := ⟨_, rfl⟩
    rw [← hx] at b1
    dsimp only
    rw [← hx]
    refine ⟨_, rfl, _, rfl, _, _, rfl, rfl, .inl (by omega), _, rfl, _, _, rfl, rfl, .inl (by decide), _, _, rfl, rfl, _, rfl, _, _, rfl, rfl, .inl (by decide), _, _, rfl, rfl, _, _, rfl, rfl, _, _, rfl, rfl, (by show (0 : Int) < 2147483713; decide), ?_⟩
    have b2 := blend_lt (x := x * x + 16807 * x + 5 * a + 1) (m := 2147483713) (by decide)
    obtain ⟨y, hy⟩ : ∃ y, y = (x * x + 16807 * x + 5 * a + 1) % 2147483713 := ⟨_, rfl⟩
    rw [← hy] at b2
    dsimp only
    rw [← hy]
    refine ⟨_, rfl, _, rfl, _, _, rfl, rfl, _, _, rfl, rfl, .inl (by omega), _, _, rfl, rfl, (by show (0 : Int) < 2147483743; decide), _, _, rfl, rfl, ⟨by decide, by decide⟩, _, rfl, _, _, rfl, rfl, m0, ?_⟩
    exact k _ _ (blend_lt m0).1 (blend_lt m0).2 (fin _ l l0 hp2 hc2) k2
end
end Ah
set_option Elab.async false
set_option linter.all false
set_option maxRecDepth 100000
set_option maxHeartbeats 2000000
namespace Ah
open PySem PySem.Spec PyProof.Rows L2
/-! ### data over heaps -/
/-- what data lean on: lists and tuples that are to be read -/
def Sq (K : PySem.W.Frag) (H H' : Hp) : Prop := (∀ a xs, SqL K H a xs → SqL K H' a xs) ∧ ∀ a xs, SqT K H a xs → SqT K H' a xs
theorem Sq.kp {K : PySem.W.Frag} {p : Addr} {H H' : Hp} (k : Kp p H H') {kvs : List (Key × V)} (hp : H p = some (.dK kvs)) : Sq K H H' := ⟨fun _ _ h => seq_kp k hp h, fun _ _ h => tup_kp k hp h⟩
theorem Sq.same {K : PySem.W.Frag} {H H' : Hp} (k : Same H H') : Sq K H H' := ⟨fun _ _ h => k.seq h, fun _ _ h => tup_same k h⟩
mutual
theorem dp_sq {K : PySem.W.Frag} {H H' : Hp} (k : Sq K H H') : ∀ (d : PyData) (v : V), Dp K H v d → Dp K H' v d
  | .none, _, h => by
    cases h
    exact .non
  | .bool b, _, h => by
    cases h
    exact .bl b
  | .int i, _, h => by
    cases h
    exact .int i
  | .str x, _, h => by
    cases h
    exact .str x
  | .list ds, _, h => by
    cases h with
    | lst hs ha => exact .lst (k.1 _ _ hs) (dpAll_sq k ds _ ha)
  | .tuple ds, _, h => by
    cases h with
    | tup hs ha => exact .tup (k.2 _ _ hs) (dpAll_sq k ds _ ha)
  | .dict _, _, h => by cases h
theorem dpAll_sq {K : PySem.W.Frag} {H H' : Hp} (k : Sq K H H') : ∀ (ds : List PyData) (vs : List V), DpAll K H vs ds → DpAll K H' vs ds
  | [], _, h => by
    cases h
    exact .nil
  | d :: ds, _, h => by
    cases h with
    | cons h1 h2 => exact .cons (dp_sq k d _ h1) (dpAll_sq k ds _ h2)
end
def Shp (d : PyData) : Prop := d.canLay0 = true ∧ d.depth ≤ 60
theorem shp_all : ∀ {ds : List PyData}, (∀ d ∈ ds, Shp d) → PyData.canLayAll0 ds = true ∧ PyData.depthAll ds ≤ 60
  | [], _ => ⟨rfl, by simp [PyData.depthAll]⟩
  | d :: ds, h => by
    obtain ⟨h1, h2⟩ := shp_all fun x hx => h x (List.mem_cons_of_mem _ hx)
    obtain ⟨h3, h4⟩ := h d List.mem_cons_self
    refine ⟨by simp [PyData.canLayAll0, h1, h3], ?_⟩
    simp only [PyData.depthAll]
    omega
theorem shp_l {ds : List PyData} (h : ∀ d ∈ ds, Shp d) : SeqAt.shaped (.list ds) = true := shp_list (shp_all h).1 (Nat.le_trans (shp_all h).2 (by decide))
theorem shp_t {ds : List PyData} (h : ∀ d ∈ ds, Shp d) : SeqAt.shaped (.tuple ds) = true := shp_tup (shp_all h).1 (Nat.le_trans (shp_all h).2 (by decide))
theorem shp_str {x : Str} (h : PyData.strOk x = true) : Shp (.str x) := ⟨by simp [PyData.canLay0, h], by simp [PyData.depth]⟩
theorem dpAll_len {K : PySem.W.Frag} {H : Hp} : ∀ {vs : List V} {ds : List PyData}, DpAll K H vs ds → vs.length = ds.length
  | _, _, .nil => rfl
  | _, _, .cons _ t => by rw [List.length_cons, List.length_cons, dpAll_len t]
theorem dpAll_erase {K : PySem.W.Frag} {H : Hp} : ∀ {vs : List V} {ds : List PyData} (i : Nat), DpAll K H vs ds → DpAll K H (vs.eraseIdx i) (ds.eraseIdx i)
  | _, _, _, .nil => .nil
  | _, _, 0, .cons _ t => t
  | _, _, i + 1, .cons h t => .cons h (dpAll_erase i t)
theorem eqv_nils {ds : List PyData} : PyData.eqv (.list ds) (.list []) = ds.isEmpty := by
  cases ds with
  | nil => simp [PyData.eqv, PyData.eqvAll]
  | cons n ns => simp [PyData.eqv, PyData.eqvAll]
/-! ### a def, as its callers see it -/
structure Df (P : Program) (w : World) (K : PySem.W.Frag) (mg : Str → Option Value) (base : Heap) (CX : CXT) (x : Str) (k : Nat) (f : Addr) (fd : FuncData) (ps : List Str) (sp : Sp) : Prop where
  ok : FnOk P w K mg base CX k f fd ps sp
  g : mg x = some (.ref f)
  kp : PySem.W.keepIn K (.ref f) = true
  b : Binds K fd ps []
/-- a sequence of values: a list, a tuple, a text's signs -/
def Seqv (K : PySem.W.Frag) (H : Hp) (x : V) (ys : List V) : Prop := (∃ a, x = .ref a ∧ SqL K H a ys) ∨ (∃ a, x = .ref a ∧ SqT K H a ys) ∨ ∃ z : Str, x = .str z ∧ z.length ≤ sizeLine ∧ ys = z.cps.toList.map fun c => V.str ⟨#[c]⟩
theorem Seqv.sq {K : PySem.W.Frag} {H H' : Hp} {x : V} {ys : List V} (k : Sq K H H') (h : Seqv K H x ys) : Seqv K H' x ys := by
  rcases h with ⟨a, e, h⟩ | ⟨a, e, h⟩ | h
  · exact .inl ⟨a, e, k.1 _ _ h⟩
  · exact .inr (.inl ⟨a, e, k.2 _ _ h⟩)
  · exact .inr (.inr h)
theorem Seqv.len {K : PySem.W.Frag} {H : Hp} {x : V} {ys : List V} (h : Seqv K H x ys) : LenV K x H ys.length := by
  rcases h with ⟨a, rfl, h⟩ | ⟨a, rfl, h⟩ | ⟨z, rfl, hz, rfl⟩
  · exact .inl ⟨ys, h, rfl⟩
  · exact .inr ⟨ys, h, rfl⟩
  · exact ⟨hz, by rw [List.length_map, Array.length_toList]; rfl⟩
theorem perm_erase {α : Type} : ∀ {l : List α} {i : Nat} (h : i < l.length), (l[i] :: l.eraseIdx i).Perm l
  | x :: l, 0, _ => List.Perm.refl _
  | x :: l, i + 1, h => by
    have ih := perm_erase (l := l) (i := i) (Nat.lt_of_succ_lt_succ h)
    show (l[i]'(Nat.lt_of_succ_lt_succ h) :: x :: l.eraseIdx i).Perm (x :: l)
    exact (List.Perm.swap _ _ _).trans (ih.cons x)
theorem seqIx {j n : Nat} (h : j < n) : seqIndex? (j : Int) n = some j := by
  unfold seqIndex?
  simp
  omega
abbrev sPick : Stmt := topS 18
abbrev sShuf : Stmt := topS 19
section
variable {P : Program} {w : World} {K : PySem.W.Frag} {mg : Str → Option Value} {base : Heap}
theorem scPick : FnScope ["pen", "some"] ["pen", "some"] (defScope sPick) := ⟨rfl, rfl, rfl, by decide +kernel, rfl, by decide +kernel, by decide +kernel⟩
def spPick (K : PySem.W.Frag) : Sp := fun vs H Q _ => ∃ (p c : Addr) (x : V) (ys : List V) (n : Nat), vs = [.ref p, x] ∧ Seqv K H x ys ∧ PenAt H p c n ∧ n < 1000000 ∧ 0 < ys.length ∧ ys.length < 1000000 ∧
  ∀ (i : Nat) (y : V) (H' : Hp), ys[i]? = some y → PenAt H' p c (n + 1) → Kp p H H' → Q y H'
theorem ok_pick {f f1 : Addr} {fd fd1 : FuncData} (F : Fun K "_law_pick" "_law_pick" sPick f fd) (B : Blt mg) (D : Df P w K mg base CX0 "_law_draw" 1 f1 fd1 ["pen", "many"] spDraw) : FnOk P w K mg base CX0 2 f fd ["pen", "some"] (spPick K) := by
  refine F.ok scPick (fun vs H Q E h => ?_) (fun cdv A outer s H vs Q E hr h => ?_)
  · obtain ⟨p, c, x, ys, n, rfl, _⟩ := h
    rfl
  · obtain ⟨p, c, x, ys, n, rfl, hx, hp, hn, h0, h1, k⟩ := h
    refine ⟨_, pss_one (ps_ret (pe_ix ix_seq (pv 1) (pe_call D.ok hr rfl D.g D.kp D.b .nil pass0 (pa_cons (pv 0) (pa_cons (pe_callB call_len (by rfl) B.len PySem.boot_len (pa_cons (pv 1) pa_nil)) pa_nil))) (fun _ _ => rfl))), ?_⟩
    refine ⟨_, rfl, _, rfl, x, rfl, x, _, rfl, hx.len, p, c, _, n, rfl, hp, hn, by omega, by omega, fun d H' d0 d1 hp' kp => ?_⟩
    obtain ⟨kvs, hk⟩ := hp.dk
    have hx' := hx.sq (Sq.kp kp hk)
    obtain ⟨j, rfl⟩ : ∃ j : Nat, d = j := ⟨d.toNat, by omega⟩
    have hj : j < ys.length := by omega
    have hjj : ys[j]? = some ys[j] := List.getElem?_eq_getElem hj
    rcases hx' with ⟨a, e, h⟩ | ⟨a, e, h⟩ | ⟨z, e, hz, rfl⟩
    · exact .inl ⟨a, ys, _, _, e, rfl, h, atI_nat hjj, k j _ _ hjj hp' kp⟩
    · exact .inr (.inl ⟨a, ys, _, _, e, rfl, h, atI_nat hjj, k j _ _ hjj hp' kp⟩)
    · obtain ⟨b, hc, ec⟩ : ∃ b, z.cps.toList[j]? = some b ∧ V.str ⟨#[b]⟩ = (z.cps.toList.map fun c => V.str ⟨#[c]⟩)[j] := by
        rw [List.length_map] at hj
        refine ⟨z.cps.toList[j], List.getElem?_eq_getElem hj, by rw [List.getElem_map]⟩
      refine .inr (.inr ⟨z, _, b, e, rfl, hz, ?_, ?_⟩)
      · unfold atI
        unfold ixN
        rw [if_pos (by omega)]
        rw [List.length_map] at hj
        rw [if_pos (by omega)]
        exact hc
      · rw [ec]
        exact k j _ _ hjj hp' kp
theorem scShuf : FnScope ["pen", "some", "left", "found"] ["pen", "some"] (defScope sShuf) := ⟨rfl, rfl, rfl, by decide +kernel, rfl, by decide +kernel, by decide +kernel⟩
def spShuf (K : PySem.W.Frag) : Sp := fun vs H Q _ => ∃ (p c a : Addr) (xs : List V) (ds : List PyData) (n : Nat), vs = [.ref p, .ref a] ∧ (SqL K H a xs ∨ SqT K H a xs) ∧ DpAll K H xs ds ∧ (∀ d ∈ ds, Shp d) ∧ xs.length ≤ 1000 ∧ PenAt H p c n ∧ n + xs.length < 1000000 ∧
  ∀ (q : Addr) (ys : List V) (H' : Hp), ys.Perm xs → H q = none → H' q = some (.lst ys) → PenAt H' p c (n + xs.length) → Kp p H H' → Q (.ref q) H'
theorem ok_shuf {f f1 : Addr} {fd fd1 : FuncData} (F : Fun K "_law_shuffled" "_law_shuffled" sShuf f fd) (B : Blt mg) (D : Df P w K mg base CX0 "_law_draw" 1 f1 fd1 ["pen", "many"] spDraw) : FnOk P w K mg base CX0 2 f fd ["pen", "some"] (spShuf K) := by
  refine F.ok scShuf (fun vs H Q E h => ?_) (fun cdv A outer s H vs Q E hr h => ?_)
  · obtain ⟨p, c, a, xs, ds, n, rfl, _⟩ := h
    rfl
  · obtain ⟨p, c, a, xs, ds, n, rfl, hx, hd, hs, h0, hp, hn, k⟩ := h
    have nd := scShuf.nd
    refine ⟨_, pss_cons (ps_par (i := 2) (j := 3) rfl nd rfl rfl (by decide) rfl rfl (pa_cons (pe_callTy call_list_of (by rfl) B.list (by decide +kernel) (pa_cons (pv 1) pa_nil)) (pa_cons (pe_lst pa_nil) pa_nil)) (by rfl))
      (pss_cons (ps_while PassesOwn.never (pt_cmpR (op_neD hr.units) (pv 2) (pe_lst pa_nil) (nomark _))
        (pss_one (ps_expr (pe_bm PySem.F.plainAttrs_list PySem.F.slot_list_append PySem.F.type_list_append mt_append (pv 3) (pa_cons (pe_bm PySem.F.plainAttrs_list PySem.F.slot_list_pop PySem.F.type_list_pop mt_popAt (pv 2)
          (pa_cons (pe_call D.ok hr rfl D.g D.kp D.b .nil pass0 (pa_cons (pv 0) (pa_cons (pe_callB call_len_seq (by rfl) B.len PySem.boot_len (pa_cons (pv 2) pa_nil)) pa_nil))) pa_nil)) pa_nil)))))
      (pss_one (ps_ret (pv 3)))), ?_⟩
    obtain ⟨kvs, hk⟩ := hp.dk
    refine ⟨_, rfl, a, xs, rfl, hx, fun l hl => ?_⟩
    have ha1 : Same H (upd H l (.lst xs)) := same_new hl
    have e1 : (upd H l (.lst xs)) l = some (.lst xs) := upd_same
    generalize upd H l (.lst xs) = H1 at ha1 e1 ⊢
    refine ⟨Nat.zero_le _, fun g hg => ?_⟩
    have ha2 : Same H (upd H1 g (.lst [])) := ha1.trans (same_new hg)
    have e2 : (upd H1 g (.lst [])) l = some (.lst xs) := (upd_ne (ne_of_none e1 hg)).trans e1
    have e3 : (upd H1 g (.lst [])) g = some (.lst []) := upd_same
    have nlg : l ≠ g := ne_of_none e1 hg
    have hg0 : H g = none := ha1.free hg
    generalize upd H1 g (.lst []) = H2 at ha2 e2 e3 ⊢
    refine ⟨_, _, rfl, ?_⟩
    -- the loop
    refine ⟨fun m σ H' => ∃ (us ys : List V) (es : List PyData), m = us.length ∧ σ = [some (.ref p), some (.ref a), some (.ref l), some (.ref g)] ∧ H' l = some (.lst us) ∧ H' g = some (.lst ys) ∧ (ys ++ us).Perm xs ∧ DpAll K H us es ∧ (∀ d ∈ es, Shp d) ∧ PenAt H' p c (n + ys.length) ∧ Kp p H H',
      ⟨_, xs, [], ds, rfl, rfl, e2, e3, List.Perm.refl _, hd, hs, hp.keep ha2, Kp.same ha2⟩, ?_⟩
    rintro m σ H3 ⟨us, ys, es, rfl, rfl, f2, f3, pm, hdu, hsu, hp3, kp3⟩
    have len := pm.length_eq
    rw [List.length_append] at len
    refine ⟨_, rfl, Nat.zero_le _, fun t ht => ?_⟩
    have g2 : (upd H3 t (.lst [])) l = some (.lst us) := (upd_ne (ne_of_none f2 ht)).trans f2
    have g3 : (upd H3 t (.lst [])) g = some (.lst ys) := (upd_ne (ne_of_none f3 ht)).trans f3
    have gt : (upd H3 t (.lst [])) t = some (.lst []) := upd_same
    have hp4 := hp3.keep (same_new (o := .lst []) ht)
    have kp4 : Kp p H (upd H3 t (.lst [])) := kp3.trans (Kp.new ht)
    generalize upd H3 t (.lst []) = H4 at g2 g3 gt hp4 kp4 ⊢
    have hdu4 : DpAll K H4 us es := dpAll_sq (Sq.kp kp4 hk) _ _ hdu
    refine ⟨.list es, .list [], .lst (SqL.of g2) hdu4, .lst (SqL.of gt) .nil, shp_l hsu, shp_nil, _, rfl, ?_⟩
    rw [eqv_nils]
    have eil := dpAll_len hdu
    refine ite2 (fun e => ?_) (fun e => ?_)
    · have hne : 0 < us.length := by
        cases es with
        | nil => cases e
        | cons x r =>
          rw [eil]
          exact Nat.succ_pos _
      refine ⟨fun σ' H' => ∃ (us' ys' : List V) (es' : List PyData), us'.length < us.length ∧ σ' = [some (.ref p), some (.ref a), some (.ref l), some (.ref g)] ∧ H' l = some (.lst us') ∧ H' g = some (.lst ys') ∧ (ys' ++ us').Perm xs ∧ DpAll K H us' es' ∧ (∀ d ∈ es', Shp d) ∧ PenAt H' p c (n + ys'.length) ∧ Kp p H H',
        fun σ' H' ⟨us', ys', es', h1, h2, h3, h4, h5, h6, h7, h8, h9⟩ => ⟨_, h1, us', ys', es', rfl, h2, h3, h4, h5, h6, h7, h8, h9⟩, ?_⟩
      refine ⟨_, rfl, .inl ⟨rfl, _, SqL.of g3⟩, _, rfl, .inl ⟨rfl, _, SqL.of g2⟩, _, rfl, _, rfl, l, us, rfl, .inl (SqL.of g2), p, c, _, _, rfl, hp4, by omega, by omega, by omega, fun d H5 d0 d1 hp5 kp5 => ?_⟩
      obtain ⟨kvs4, hk4⟩ := hp4.dk
      have npl : l ≠ p := fun q => by
        rw [q, hk4] at g2
        cases g2
      have npg : g ≠ p := fun q => by
        rw [q, hk4] at g3
        cases g3
      have i2 : H5 l = some (.lst us) := kp5 _ _ npl g2
      have i3 : H5 g = some (.lst ys) := kp5 _ _ npg g3
      obtain ⟨j, rfl⟩ : ∃ j : Nat, d = j := ⟨d.toNat, by omega⟩
      have hj : j < us.length := by omega
      refine ⟨l, us, j, j, us[j], rfl, rfl, i2, by omega, by omega, ?_, List.getElem?_eq_getElem hj, ?_⟩
      · exact seqIx hj
      refine ⟨g, ys, us[j], rfl, rfl, (upd_ne nlg.symm).trans i3, ?_, ?_⟩
      · exact small1000 (by omega)
      refine ⟨us.eraseIdx j, ys ++ [us[j]], es.eraseIdx j, ?_, rfl, (upd_ne nlg).trans upd_same, upd_same, ?_, dpAll_erase j hdu, fun d hd => hsu d (List.eraseIdx_subset hd), ?_, ?_⟩
      · rw [List.length_eraseIdx, if_pos hj]
        omega
      · rw [List.append_assoc]
        exact (List.Perm.append_left ys (perm_erase hj)).trans pm
      · rw [List.length_append, List.length_singleton]
        exact hp.mut hg0 (hp.mut hl hp5)
      · exact (kp4.trans kp5).mut hl |>.mut hg0
    · have hne : us = [] := by
        cases es with
        | nil => exact List.length_eq_zero_iff.mp eil
        | cons x r => exact absurd rfl e
      subst hne
      rw [List.append_nil] at pm
      have q := hp4
      refine ⟨_, rfl, k g ys H4 pm hg0 g3 ?_ kp4⟩
      have : ys.length = xs.length := pm.length_eq
      rw [← this]
      exact hp4
end
end Ah
set_option Elab.async false
set_option linter.all false
set_option maxRecDepth 100000
set_option maxHeartbeats 2000000
namespace Ah
open PySem PySem.Spec PyProof.Rows L2
/-! ### hands -/
def IsHand (x : Str) : Prop := 1 ≤ x.length ∧ x.length ≤ 8 ∧ ∀ b ∈ x.cps.toList, 97 ≤ b ∧ b ≤ 122
instance (x : Str) : Decidable (IsHand x) := by unfold IsHand; infer_instance
theorem IsHand.ok {x : Str} (h : IsHand x) : PyData.strOk x = true := by
  unfold PyData.strOk
  rw [← Array.all_toList, List.all_eq_true]
  intro b hb
  have := h.2.2 b hb
  exact decide_eq_true (by omega)
def letters : Str := "abcdefghijklmnopqrstuvwxyz"
theorem letters_cs : letters.cps.toList = (List.range 26).map (· + 97) := by decide +kernel
def wordsT : Str := "let hands a ab abc abcd ann anna b ba lets hand z zz zzz le row rows an bar bars c ca"
def wordsL : List Str := ["let", "hands", "a", "ab", "abc", "abcd", "ann", "anna", "b", "ba", "lets", "hand", "z", "zz", "zzz", "le", "row", "rows", "an", "bar", "bars", "c", "ca"]
theorem words_split : Txt.split wordsT " " = wordsL := by decide +kernel
theorem words_nd : wordsL.Nodup := by decide +kernel
theorem words_hand : ∀ x ∈ wordsL, IsHand x := by decide +kernel
def bysL : List Int := [1, 3, 5, 7, 9, 11, 15, 17, 19, 21, 23, 25]
/-- the k-th hand -/
def handAt (B : List Nat) (at' first by' cut k : Nat) : Str := ⟨(B.take at' ++ [(first + by' * k) % 26 + 97] ++ (B.drop (at' + 1)).take (if cut = 0 then 8 else k % 3)).toArray⟩
theorem handAt_cs (B : List Nat) (a f b c k : Nat) : (handAt B a f b c k).cps.toList = B.take a ++ [(f + b * k) % 26 + 97] ++ (B.drop (a + 1)).take (if c = 0 then 8 else k % 3) := rfl
theorem handAt_is {B : List Nat} {a f b c k : Nat} (h1 : B.length ≤ 8) (h2 : ∀ x ∈ B, 97 ≤ x ∧ x ≤ 122) (ha : a < B.length) : IsHand (handAt B a f b c k) := by
  have hl : (handAt B a f b c k).length = (B.take a ++ [(f + b * k) % 26 + 97] ++ (B.drop (a + 1)).take (if c = 0 then 8 else k % 3)).length := by
    show ((B.take a ++ [(f + b * k) % 26 + 97] ++ (B.drop (a + 1)).take (if c = 0 then 8 else k % 3)).toArray).size = _
    rw [List.size_toArray]
  have hl2 : (handAt B a f b c k).length = a + 1 + min (if c = 0 then 8 else k % 3) (B.length - (a + 1)) := by
    rw [hl, List.length_append, List.length_append, List.length_take, List.length_take, List.length_drop, List.length_singleton]
    omega
  refine ⟨by omega, by omega, fun x hx => ?_⟩
  rw [handAt_cs] at hx
  rcases List.mem_append.mp hx with hx | hx
  · rcases List.mem_append.mp hx with hx | hx
    · exact h2 x (List.mem_of_mem_take hx)
    · rw [List.mem_singleton] at hx
      omega
  · exact h2 x (List.mem_of_mem_drop (List.mem_of_mem_take hx))
theorem handAt_inj {B : List Nat} {a f b c k k' : Nat} (ha : a < B.length) (hb : (b : Int) ∈ bysL) (h25 : b ≠ 25) (hk : k < 8) (hk' : k' < 8) (e : handAt B a f b c k = handAt B a f b c k') : k = k' := by
  have q := congrArg (fun x : Str => x.cps.toList[a]?) e
  have lt : (B.take a).length = a := by rw [List.length_take]; omega
  have g : ∀ k, (handAt B a f b c k).cps.toList[a]? = some ((f + b * k) % 26 + 97) := fun k => by
    rw [handAt_cs, List.append_assoc, List.getElem?_append_right (by omega), lt, Nat.sub_self]
    rfl
  have q : (handAt B a f b c k).cps.toList[a]? = (handAt B a f b c k').cps.toList[a]? := q
  rw [g, g] at q
  have q := Option.some.inj q
  have hb' : b = 1 ∨ b = 3 ∨ b = 5 ∨ b = 7 ∨ b = 9 ∨ b = 11 ∨ b = 15 ∨ b = 17 ∨ b = 19 ∨ b = 21 ∨ b = 23 := by
    simp only [bysL, List.mem_cons, List.not_mem_nil, or_false] at hb
    omega
  rcases hb' with h | h | h | h | h | h | h | h | h | h | h <;> subst h <;> omega
theorem handsAt_nd {g : Nat → Str} {m : Nat} (hm : m ≤ 8) (inj : ∀ k k', k < 8 → k' < 8 → g k = g k' → k = k') : ((List.range m).map g).Nodup := by
  unfold List.Nodup
  rw [List.pairwise_map]
  refine List.Pairwise.imp_of_mem (fun {k k'} hk hk' hne e => ?_) (List.nodup_range (n := m))
  rw [List.mem_range] at hk hk'
  exact hne (inj k k' (by omega) (by omega) e)
theorem nd_inj {α : Type} {l : List α} (h : l.Nodup) {i j : Nat} (hi : i < l.length) (hj : j < l.length) (e : l[i] = l[j]) : i = j := by
  rcases Nat.lt_trichotomy i j with c | c | c
  · exact absurd e (List.pairwise_iff_getElem.mp h i j hi hj c)
  · exact c
  · exact absurd e.symm (List.pairwise_iff_getElem.mp h j i hj hi c)
theorem cutS_cs (l : List Nat) (lo hi : Option Int) : cutS ⟨l.toArray⟩ lo hi = ⟨((l.drop (HT.sIx l.length 0 lo)).take (HT.sIx l.length l.length hi - HT.sIx l.length 0 lo)).toArray⟩ := by
  have e : (⟨l.toArray⟩ : Str).length = l.length := by
    show l.toArray.size = _
    rw [List.size_toArray]
  unfold cutS
  rw [e]
theorem str_app (a b : List Nat) : (⟨a.toArray⟩ : Str) ++ ⟨b.toArray⟩ = ⟨(a ++ b).toArray⟩ := SX.S_cat a b
theorem str_len (a : List Nat) : (⟨a.toArray⟩ : Str).length = a.length := SX.S_len a
theorem joinL_ones : ∀ bs : List Nat, TL.joinL [] (bs.map fun b => [b]) = bs
  | [] => rfl
  | [b] => rfl
  | b :: d :: r => by
    show [b] ++ ([] ++ TL.joinL [] ((d :: r).map fun b => [b])) = b :: d :: r
    rw [joinL_ones (d :: r)]
    rfl
theorem join_nil (bs : List Nat) : Txt.join ("" : Str) (bs.map fun b => (⟨#[b]⟩ : Str)) = ⟨bs.toArray⟩ := by
  have e := SX.join_S [] (bs.map fun b => [b])
  rw [joinL_ones, List.map_map] at e
  exact e
end Ah
set_option Elab.async false
set_option linter.all false
set_option maxRecDepth 100000
set_option maxHeartbeats 4000000
namespace Ah
open PySem PySem.Spec PyProof.Rows L2
abbrev sHands : Stmt := topS 20
section
variable {P : Program} {w : World} {K : PySem.W.Frag} {mg : Str → Option Value} {base : Heap}
theorem scHands : FnScope ["pen", "many", "letters", "k", "base", "at", "first", "cut", "by", "found", "some", "tail"] ["pen", "many"] (defScope sHands) := ⟨rfl, rfl, rfl, by decide +kernel, rfl, by decide +kernel, by decide +kernel⟩
def spHands (K : PySem.W.Frag) : Sp := fun vs H Q _ => ∃ (p c : Addr) (m n : Nat), vs = [.ref p, .int (m : Int)] ∧ 1 ≤ m ∧ m ≤ 8 ∧ PenAt H p c n ∧ n + 20 < 1000000 ∧
  ∀ (q : Addr) (hs : List Str) (H' : Hp), hs.length = m → hs.Nodup → (∀ h ∈ hs, IsHand h) → H q = none → H' q = some (.lst (hs.map V.str)) → PenAt H' p c (n + 20) → Kp p H H' → Q (.ref q) H'
theorem ok_hands {f f1 f2 : Addr} {fd fd1 fd2 : FuncData} (F : Fun K "_law_hands" "_law_hands" sHands f fd) (B : Blt mg) (Br : mg "range" = none) (D : Df P w K mg base CX0 "_law_draw" 1 f1 fd1 ["pen", "many"] spDraw) (D2 : Df P w K mg base CX0 "_law_pick" 2 f2 fd2 ["pen", "some"] (spPick K)) : FnOk P w K mg base CX0 3 f fd ["pen", "many"] (spHands K) := by
  refine F.ok scHands (fun vs H Q E h => ?_) (fun cdv A outer s H vs Q E hr h => ?_)
  · obtain ⟨p, c, m, n, rfl, _⟩ := h
    rfl
  · obtain ⟨p, c, m, n, rfl, m1, m8, hp, hn, k⟩ := h
    have nd := scHands.nd
    have hr1 : Room 1 _ := hr.mono (by decide)
    refine ⟨_, pss_cons (ps_set (i := 2) nd rfl (.inr rfl) pe_str)
      (C8.pss_cut (ps_set (i := 4) nd rfl (.inl rfl) (pe_join pe_str (pe_lc (own := [("k", 3)]) (g := gName 3) (tt := tYes) rfl nd (pi_range1 rfl Br (pa_cons (pe_op op_add pe_int (pe_call D.ok hr1 rfl D.g D.kp D.b .nil pass0 (pa_cons (pv 0) (pa_cons pe_int pa_nil)))) pa_nil))
          (blkOk_by (N := ["pen", "many", "letters", "k", "base", "at", "first", "cut", "by", "found", "some", "tail"]) (sc := defScope sHands) (by decide +kernel)) (fun _ _ _ _ _ => pg_name (i := 3) nd rfl (Or.inl rfl)) (fun _ _ _ _ _ => pts_nil)
          (fun _ _ _ _ _ => pe_call D2.ok hr rfl D2.g D2.kp D2.b .nil pass0 (pa_cons (pv 0) (pa_cons (pv 2) pa_nil))))))
      (pss_cons (ps_asg (pe_tup (pa_cons (pe_call D.ok hr1 rfl D.g D.kp D.b .nil pass0 (pa_cons (pv 0) (pa_cons (pe_callB call_len_str (by rfl) B.len PySem.boot_len (pa_cons (pv 4) pa_nil)) pa_nil)))
            (pa_cons (pe_call D.ok hr1 rfl D.g D.kp D.b .nil pass0 (pa_cons (pv 0) (pa_cons pe_int pa_nil))) (pa_cons (pe_call D.ok hr1 rfl D.g D.kp D.b .nil pass0 (pa_cons (pv 0) (pa_cons pe_int pa_nil))) pa_nil))))
          (pg_tup rfl (pgs_cons (pg_name (i := 5) nd rfl (.inl rfl)) (pgs_cons (pg_name (i := 6) nd rfl (.inr rfl)) (pgs_cons (pg_name (i := 7) nd rfl (.inl rfl)) pgs_nil)))))
      (pss_cons (ps_par (i := 8) (j := 9) rfl nd rfl rfl (by decide) rfl rfl (pa_cons (pe_call D2.ok hr rfl D2.g D2.kp D2.b .nil pass0 (pa_cons (pv 0) (pa_cons (pe_lst (pa_cons pe_int (pa_cons pe_int (pa_cons pe_int (pa_cons pe_int (pa_cons pe_int (pa_cons pe_int (pa_cons pe_int (pa_cons pe_int (pa_cons pe_int (pa_cons pe_int (pa_cons pe_int (pa_cons pe_int pa_nil))))))))))))) pa_nil)))
          (pa_cons (pe_lst pa_nil) pa_nil)) (by rfl))
      (pss_cons (ps_if (pt_cmpR op_eq (pv 8) pe_int (nomark _))
        (pss_cons (ps_set (i := 10) nd rfl (.inr rfl) pe_str)
        (pss_one (ps_ret (pe_lc (own := [("k", 3)]) (g := gName 3) (tt := tYes) rfl nd (pi_range1 rfl Br (pa_cons (pv 1) pa_nil))
          (blkOk_by (N := ["pen", "many", "letters", "k", "base", "at", "first", "cut", "by", "found", "some", "tail"]) (sc := defScope sHands) (by decide +kernel)) (fun _ _ _ _ _ => pg_name (i := 3) nd rfl (Or.inl rfl)) (fun _ _ _ _ _ => pts_nil)
          (fun _ _ _ _ _ => pe_ix (r := rIxL K) ix_list (pe_split (pv 10) pe_str) (pe_op op_mod (pe_op op_add (pv 6) (pe_op op_mul pe_int (pv 3))) pe_int) (fun _ _ => rfl)))))) pss_nil)
      (pss_cons (ps_for PassesOwn.never rfl (pi_range1 rfl Br (pa_cons (pv 1) pa_nil)) (pg_name (i := 3) nd rfl (.inl rfl))
        (pss_cons (ps_set (i := 11) nd rfl (.inl rfl) (pe_slice sl_str (pe_slice sl_str (pv 4) (po_some (pe_op op_add (pv 5) pe_int)) po_none) po_none (po_some (pe_ix ix_list (pe_lst (pa_cons pe_int (pa_cons (pe_op op_mod (pv 3) pe_int) pa_nil))) (pv 7) (fun _ _ => rfl)))))
        (pss_one (ps_expr (pe_bm PySem.F.plainAttrs_list PySem.F.slot_list_append PySem.F.type_list_append mt_append (pv 9) (pa_cons (pe_op op_add_str (pe_op op_add_str (pe_slice sl_str (pv 4) po_none (po_some (pv 5))) (pe_ix ix_str (pv 2) (pe_op op_mod (pe_op op_add (pv 6) (pe_op op_mul (pv 8) (pv 3))) pe_int) (fun _ _ => rfl))) (pv 11)) pa_nil))))))
      (pss_one (ps_ret (pv 9)))))))), ?_⟩
    -- base
    obtain ⟨kvs, hk⟩ := hp.dk
    refine ⟨fun σ' H' => ∃ bs : List Nat, 1 ≤ bs.length ∧ bs.length ≤ 8 ∧ (∀ b ∈ bs, 97 ≤ b ∧ b ≤ 122) ∧ σ' = [some (.ref p), some (.int m), some (.str letters), none, some (.str ⟨bs.toArray⟩), none, none, none, none, none, none, none] ∧ PenAt H' p c (n + 9) ∧ Kp p H H', ?_, ?_⟩
    · refine ⟨⟨_, rfl⟩, _, rfl, p, c, 8, n, rfl, hp, by omega, by decide, by decide, fun d H1 d0 d1 hp1 kp1 => ?_⟩
      obtain ⟨j, rfl⟩ : ∃ j : Nat, d = j := ⟨d.toNat, by omega⟩
      refine ⟨_, _, rfl, rfl, _, rfl, by omega, by omega, fun D0 hD => ?_⟩
      have hj : (1 + (j : Int)).toNat = j + 1 := by omega
      rw [hj]
      have hl1 := hp1
      refine lc_range (lo := 0) (n := j + 1) (fun i H2 => ∃ bs : List Nat, bs.length = i ∧ (∀ b ∈ bs, 97 ≤ b ∧ b ≤ 122) ∧ H2 D0 = some (.lst ((bs.map fun b => (⟨#[b]⟩ : Str)).map V.str)) ∧ PenAt H2 p c (n + 1 + i) ∧ Kp p H H2)
        ⟨[], rfl, by simp, upd_same, hp1.keep (same_new hD), kp1.trans (Kp.new hD)⟩ ?_ ?_
      · rintro i H2 hi ⟨bs, rfl, hb, h2, hp2, kp2⟩
        refine ⟨rfl, _, rfl, _, rfl, p, c, .str letters, _, n + 1 + bs.length, rfl, .inr (.inr ⟨letters, rfl, by decide +kernel, rfl⟩), hp2, by omega, ?_, ?_, ?_⟩
        · decide +kernel
        · decide +kernel
        rintro i y H3 hy hp3 kp3
        obtain ⟨b, hb1, rfl⟩ : ∃ b, (97 ≤ b ∧ b ≤ 122) ∧ y = V.str ⟨#[b]⟩ := by
          rw [letters_cs, List.getElem?_map] at hy
          obtain ⟨z, hz, rfl⟩ := Option.map_eq_some_iff.mp hy
          have := List.mem_of_getElem? hz
          rw [List.mem_map] at this
          obtain ⟨u, hu, rfl⟩ := this
          rw [List.mem_range] at hu
          exact ⟨_, by omega, rfl⟩
        obtain ⟨kvs2, hk2⟩ := hp2.dk
        have nD : D0 ≠ p := fun q => by
          rw [q, hk2] at h2
          cases h2
        refine ⟨_, kp3 _ _ nD h2, ?_, bs ++ [b], by simp, ?_, ?_, ?_, ?_⟩
        · rw [List.length_map, List.length_map]
          exact small1000 (by omega)
        · intro x hx
          rcases List.mem_append.mp hx with hx | hx
          · exact hb x hx
          · rw [List.mem_singleton.mp hx]
            exact hb1
        · rw [upd_same, List.map_append, List.map_append]
          rfl
        · exact hp1.mut hD hp3
        · exact (kp2.trans kp3).mut (kp1.free hp1 hD)
      · rintro H2 ⟨bs, hl, hb, h2, hp2, kp2⟩
        refine ⟨_, D0, bs.map fun b => (⟨#[b]⟩ : Str), rfl, rfl, .inl (SqL.of h2), ?_, bs, by omega, by omega, hb, ?_, hp2.mono (by omega), kp2⟩
        · have e1 : ∀ l : List Nat, ((l.map fun b => (⟨#[b]⟩ : Str)).map (·.length)).sum = l.length := fun l => by
            induction l with
            | nil => rfl
            | cons x r ih =>
              rw [List.map_cons, List.map_cons, List.sum_cons, ih, List.length_cons]
              show 1 + r.length = r.length + 1
              omega
          rw [e1, List.length_map]
          have e2 : ("" : Str).length = 0 := by decide +kernel
          rw [e2]
          omega
        · rw [join_nil]
          rfl
    rintro σ' H1 ⟨bs, b1, b8, hb, rfl, hp1, kp1⟩
    -- at, first, cut
    have lb : (⟨bs.toArray⟩ : Str).length = bs.length := by
      show bs.toArray.size = _
      rw [List.size_toArray]
    refine ⟨_, rfl, _, rfl, _, rfl, by rw [lb]; exact Nat.le_trans b8 (by decide), p, c, _, _, rfl, hp1, by omega, by rw [lb]; omega, by rw [lb]; omega, fun at' H2 a0 a1 hp2 kp2 => ?_⟩
    refine ⟨_, rfl, p, c, _, _, rfl, hp2, by omega, by decide, by decide, fun first H3 f0 f1 hp3 kp3 => ?_⟩
    refine ⟨_, rfl, p, c, _, _, rfl, hp3, by omega, by decide, by decide, fun cut H4 c0 c1 hp4 kp4 => ?_⟩
    refine ⟨(by show 3 ≤ sizeLine; decide), fun t ht => ?_⟩
    refine ⟨t, _, rfl, .inl (.inl upd_same), rfl, _, _, rfl, _, _, rfl, _, _, rfl, rfl, ?_⟩
    have kp5 : Kp p H (upd H4 t (.tup [.int at', .int first, .int cut])) := ((kp1.trans kp2).trans (kp3.trans kp4)).trans (Kp.new ht)
    have hp5 := hp4.keep (same_new (o := .tup [.int at', .int first, .int cut]) ht)
    generalize upd H4 t (.tup [.int at', .int first, .int cut]) = H5 at kp5 hp5 ⊢
    rw [lb] at a1
    obtain ⟨a, rfl⟩ : ∃ j : Nat, at' = j := ⟨at'.toNat, by omega⟩
    obtain ⟨fi, rfl⟩ : ∃ j : Nat, first = j := ⟨first.toNat, by omega⟩
    obtain ⟨cu, rfl⟩ : ∃ j : Nat, cut = j := ⟨cut.toNat, by omega⟩
    -- by, found
    refine ⟨_, rfl, (by show 12 ≤ sizeLine; decide), fun t2 ht2 => ?_⟩
    have hp6 := hp5.keep (same_new (o := .lst (bysL.map V.int)) ht2)
    have kp6 := kp5.trans (Kp.new (o := .lst (bysL.map V.int)) ht2)
    refine ⟨p, c, .ref t2, bysL.map V.int, _, rfl, .inl ⟨t2, rfl, SqL.of upd_same⟩, hp6, by omega, (by decide), (by decide), fun i y H7 hy hp7 kp7 => ?_⟩
    obtain ⟨b, hb25, rfl⟩ : ∃ b : Nat, (b : Int) ∈ bysL ∧ y = V.int b := by
      rw [List.getElem?_map] at hy
      obtain ⟨z, hz, rfl⟩ := Option.map_eq_some_iff.mp hy
      have hm := List.mem_of_getElem? hz
      have z0 : 0 ≤ z := by
        have : ∀ z ∈ bysL, (0 : Int) ≤ z := by decide
        exact this z hm
      exact ⟨z.toNat, by rw [Int.toNat_of_nonneg z0]; exact hm, by rw [Int.toNat_of_nonneg z0]⟩
    have b26 : b < 26 := by
      have : ∀ z ∈ bysL, z < (26 : Int) := by decide
      have := this _ hb25
      omega
    refine ⟨Nat.zero_le _, fun g hg => ?_⟩
    have hp8 := hp7.keep (same_new (o := .lst []) hg)
    have kp8 := (kp6.trans kp7).trans (Kp.new (o := .lst []) hg)
    have g0 : H g = none := (kp6.trans kp7).free hp7 hg
    have e8 : (upd H7 g (.lst [])) g = some (.lst []) := upd_same
    generalize upd H7 g (.lst []) = H8 at hp8 kp8 e8 ⊢
    refine ⟨_, _, rfl, ?_⟩
    -- if by == 25
    refine ⟨_, rfl, rfl, _, rfl, ?_⟩
    refine ite2 (fun e => ?_) (fun e => ?_)
    · -- the words
      refine ⟨_, rfl, _, rfl, by omega, by omega, fun D0 hD => ?_⟩
      rw [Int.toNat_natCast]
      have hD0 : H D0 = none := kp8.free hp8 hD
      refine lc_range (lo := 0) (n := m) (fun i H2 => H2 D0 = some (.lst (((List.range i).map fun k => wordsL.getD ((fi + 5 * k) % 23) "").map V.str)) ∧ PenAt H2 p c (n + 20) ∧ Kp p H H2)
        ⟨upd_same, (hp8.keep (same_new hD)).mono (by omega), kp8.trans (Kp.new hD)⟩ ?_ ?_
      · rintro i H2 hi ⟨h2, hp2, kp2⟩
        refine ⟨rfl, _, rfl, ⟨_, rfl⟩, _, _, rfl, rfl, rfl, by decide +kernel, fun t hT => ?_⟩
        have hx : ((fi : Int) + 5 * (0 + (i : Int))) % 23 = (((fi + 5 * i) % 23 : Nat) : Int) := by omega
        have hl : (fi + 5 * i) % 23 < wordsL.length := Nat.mod_lt _ (by decide)
        refine ⟨_, rfl, _, rfl, _, _, rfl, rfl, .inl (by decide), _, _, rfl, rfl, _, _, rfl, rfl, (by show (0 : Int) < 23; decide), t, wordsL.map V.str, _, .str (wordsL.getD ((fi + 5 * i) % 23) ""), rfl, rfl, ?_, ?_, ?_⟩
        · rw [← words_split]
          exact SqL.of upd_same
        · rw [hx]
          refine atI_nat ?_
          rw [List.getElem?_map, List.getElem?_eq_getElem hl, List.getD_eq_getElem?_getD, List.getElem?_eq_getElem hl]
          rfl
        · refine ⟨_, (upd_ne (ne_of_none h2 hT)).trans h2, ?_, ?_, ?_, ?_⟩
          · rw [List.length_map, List.length_map, List.length_range]
            exact small1000 (by omega)
          · rw [upd_same, List.range_succ, List.map_append, List.map_append]
            rfl
          · exact hp.mut hD0 (hp2.keep (same_new hT))
          · exact (kp2.trans (Kp.new hT)).mut hD0
      · rintro H2 ⟨h2, hp2, kp2⟩
        refine k D0 _ H2 (by rw [List.length_map, List.length_range]) (handsAt_nd m8 fun k k' hk hk' e => ?_) (fun h hh => ?_) hD0 h2 hp2 kp2
        · have hl : (fi + 5 * k) % 23 < wordsL.length := Nat.mod_lt _ (by decide)
          have hl' : (fi + 5 * k') % 23 < wordsL.length := Nat.mod_lt _ (by decide)
          rw [List.getD_eq_getElem?_getD, List.getD_eq_getElem?_getD, List.getElem?_eq_getElem hl, List.getElem?_eq_getElem hl'] at e
          have e' : wordsL[(fi + 5 * k) % 23] = wordsL[(fi + 5 * k') % 23] := e
          have := nd_inj words_nd hl hl' e'
          omega
        · rw [List.mem_map] at hh
          obtain ⟨k, _, rfl⟩ := hh
          have hl : (fi + 5 * k) % 23 < wordsL.length := Nat.mod_lt _ (by decide)
          refine words_hand _ ?_
          rw [List.getD_eq_getElem?_getD, List.getElem?_eq_getElem hl]
          exact List.getElem_mem hl
    · -- the letters
      have h25 : b ≠ 25 := fun q => e (by subst q; rfl)
      refine ⟨_, rfl, _, rfl, by omega, by omega, ?_⟩
      rw [Int.toNat_natCast]
      refine for_range (lo := 0) (n := m) (fun i σ H2 => ∃ v3 v11 : Option V, σ = [some (.ref p), some (.int m), some (.str letters), v3, some (.str ⟨bs.toArray⟩), some (.int a), some (.int fi), some (.int cu), some (.int b), some (.ref g), none, v11] ∧ H2 g = some (.lst (((List.range i).map fun k => handAt bs a fi b cu k).map V.str)) ∧ PenAt H2 p c (n + 20) ∧ Kp p H H2)
        ⟨none, none, rfl, e8, hp8.mono (by omega), kp8⟩ ?_ ?_
      · rintro i σ H2 hi ⟨v3, v11, rfl, h2, hp2, kp2⟩
        have lb8 : (⟨bs.toArray⟩ : Str).length ≤ sizeLine := by rw [str_len]; exact Nat.le_trans b8 (by decide)
        refine ⟨_, rfl, _, rfl, _, _, rfl, rfl, _, rfl, _, rfl, lb8, ?_⟩
        rw [cutS_cs]
        have s1 : HT.sIx bs.length 0 (some ((a : Int) + 1)) = a + 1 := by
          rw [show ((a : Int) + 1) = ((a + 1 : Nat) : Int) from rfl, HT.sIx_nat]
          omega
        dsimp only
        rw [s1, HT.sIx_none, show (List.drop (a + 1) bs).take (bs.length - (a + 1)) = List.drop (a + 1) bs from List.take_of_length_le (by rw [List.length_drop]; omega)]
        refine ⟨_, rfl, _, _, rfl, rfl, (by show (0 : Int) < 3; decide), (by show 2 ≤ sizeLine; decide), fun t hT => ?_⟩
        refine ⟨_, rfl, t, _, _, .int (if cu = 0 then 8 else ((i % 3 : Nat) : Int)), rfl, rfl, SqL.of upd_same, ?_, _, rfl, _, rfl, ?_, ?_⟩
        · by_cases hc : cu = 0
          · subst hc
            exact atI_nat (j := 0) rfl
          · have : cu = 1 := by omega
            subst this
            rw [if_neg (by decide)]
            refine atI_nat (j := 1) ?_
            show some (V.int ((0 + (i : Int)) % 3)) = some (V.int ((i % 3 : Nat) : Int))
            rw [Int.zero_add]
            rfl
        · rw [str_len, List.length_drop]
          exact Nat.le_trans (by omega : bs.length - (a + 1) ≤ 8) (by decide)
        rw [cutS_cs]
        have h2t : (upd H2 t (.lst [.int 8, .int ((0 + (i : Int)) % 3)])) g = some (.lst (((List.range i).map fun k => handAt bs a fi b cu k).map V.str)) := (upd_ne (ne_of_none h2 hT)).trans h2
        have hp2t := hp2.keep (same_new (o := .lst [.int 8, .int ((0 + (i : Int)) % 3)]) hT)
        have kp2t := kp2.trans (Kp.new (o := .lst [.int 8, .int ((0 + (i : Int)) % 3)]) hT)
        show tDrop _ _ _ (upd H2 t (.lst [.int 8, .int ((0 + (i : Int)) % 3)]))
        generalize upd H2 t (.lst [.int 8, .int ((0 + (i : Int)) % 3)]) = H3 at h2t hp2t kp2t ⊢
        have s2 : ∀ l : List Nat, HT.sIx l.length l.length (some (if cu = 0 then 8 else ((i % 3 : Nat) : Int))) = min (if cu = 0 then 8 else i % 3) l.length := fun l => by
          by_cases hc : cu = 0
          · rw [if_pos hc, if_pos hc]
            exact HT.sIx_nat _ _ 8
          · rw [if_neg hc, if_neg hc]
            exact HT.sIx_nat _ _ _
        rw [s2, HT.sIx_none, List.drop_zero, Nat.sub_zero]
        have s3 : (List.drop (a + 1) bs).take (min (if cu = 0 then 8 else i % 3) (List.drop (a + 1) bs).length) = (List.drop (a + 1) bs).take (if cu = 0 then 8 else i % 3) := by
          rw [List.take_eq_take_iff]
          omega
        rw [s3]
        -- found.append(base[:at] + letters[..] + tail)
        refine ⟨_, rfl, .inl ⟨rfl, _, SqL.of h2t⟩, _, rfl, _, rfl, _, rfl, _, rfl, lb8, ?_⟩
        rw [cutS_cs]
        rw [HT.sIx_none, HT.sIx_nat, show min a bs.length = a by omega, List.drop_zero, Nat.sub_zero]
        have hx : ((fi : Int) + (b : Int) * (0 + (i : Int))) % 26 = (((fi + b * i) % 26 : Nat) : Int) := by
          rw [Int.zero_add]
          rfl
        have hl : (fi + b * i) % 26 < 26 := Nat.mod_lt _ (by decide)
        refine ⟨_, rfl, _, rfl, _, rfl, _, rfl, _, _, rfl, rfl, .inl (by omega), _, _, rfl, rfl, _, _, rfl, rfl, (by show (0 : Int) < 26; decide), letters, _, (fi + b * i) % 26 + 97, rfl, rfl, by decide +kernel, ?_, ?_⟩
        · rw [hx]
          refine atI_nat ?_
          rw [letters_cs, List.getElem?_map, List.getElem?_range hl]
          rfl
        have l1 : (List.take a bs).length ≤ 8 := by rw [List.length_take]; omega
        have l2 : (List.take (if cu = 0 then 8 else i % 3) (List.drop (a + 1) bs)).length ≤ 8 := by rw [List.length_take, List.length_drop]; omega
        refine ⟨_, _, rfl, rfl, ?_, ?_⟩
        · rw [str_len]
          exact Nat.le_trans (Nat.add_le_add l1 (Nat.le_refl 1)) (by decide)
        refine ⟨_, rfl, _, _, rfl, rfl, ?_, ?_⟩
        · rw [str_app, str_len, str_len, List.length_append]
          exact Nat.le_trans (Nat.add_le_add (Nat.add_le_add l1 (Nat.le_refl 1)) l2) (by decide)
        rw [str_app, str_app]
        refine ⟨g, _, _, rfl, rfl, h2t, ?_, ?_⟩
        · rw [List.length_map, List.length_map, List.length_range]
          exact small1000 (by omega)
        refine ⟨_, _, rfl, ?_, hp.mut g0 hp2t, kp2t.mut g0⟩
        rw [upd_same, List.range_succ, List.map_append, List.map_append]
        rfl
      · rintro σ H2 ⟨v3, v11, rfl, h2, hp2, kp2⟩
        refine ⟨_, rfl, k g _ H2 (by rw [List.length_map, List.length_range]) (handsAt_nd m8 fun k k' hk hk' e => handAt_inj (by omega) hb25 h25 hk hk' e) (fun h hh => ?_) g0 h2 hp2 kp2⟩
        rw [List.mem_map] at hh
        obtain ⟨k, _, rfl⟩ := hh
        exact handAt_is b8 hb (by omega)
end
end Ah
set_option Elab.async false
set_option linter.all false
set_option maxRecDepth 100000
set_option maxHeartbeats 2000000
/-! sorted(xs), xs a list of data that can be compared -/
namespace Ah
open PySem PySem.Spec PyProof.Rows L2
open PySem.W (EachIs AllAlike Sortable dataLe)
def sortD (ds : List PyData) : List PyData := ds.mergeSort (dataLe false (fun d => d))
def rSortedD (K : PySem.W.Frag) : List V → Hp → VK → Prop := fun vs H Q => ∃ (a : Addr) (xs : List V) (ds : List PyData), vs = [V.ref a] ∧ SqL K H a xs ∧ DpAll K H xs ds ∧ AllAlike ds ∧ Sortable ds ∧ (∀ d ∈ ds, d.depth ≤ 60) ∧
  ∀ (ys : List V) (p : Addr), ys.Perm xs → DpAll K H ys (sortD ds) → H p = none → Q (.ref p) (upd H p (.lst ys))
theorem each_of {K : PySem.W.Frag} {H : Hp} : ∀ {xs : List V} {its : List Value} {ds : List PyData}, Vals xs its → DpAll K H xs ds → EachIs (fun (v : Value) (b : V × PyData) => RelV b.1 v ∧ Dp K H b.1 b.2) its (xs.zip ds)
  | _, _, _, .nil, .nil => .nil
  | _, _, _, .cons r t, .cons h t' => .cons ⟨r, h⟩ (each_of t t')
theorem each_vals {K : PySem.W.Frag} {H : Hp} : ∀ {its : List Value} {zs : List (V × PyData)}, EachIs (fun (v : Value) (b : V × PyData) => RelV b.1 v ∧ Dp K H b.1 b.2) its zs → Vals (zs.map (·.1)) its ∧ DpAll K H (zs.map (·.1)) (zs.map (·.2))
  | _, _, .nil => ⟨.nil, .nil⟩
  | _, _, .cons ⟨r, h⟩ t => ⟨.cons r (each_vals t).1, .cons h (each_vals t).2⟩
theorem dpAll_zip2 {K : PySem.W.Frag} {H : Hp} : ∀ {xs : List V} {ds : List PyData}, DpAll K H xs ds → (xs.zip ds).map (·.2) = ds ∧ (xs.zip ds).map (·.1) = xs ∧ (xs.zip ds).length = ds.length
  | _, _, .nil => ⟨rfl, rfl, rfl⟩
  | _, _, .cons _ t => by
    obtain ⟨h1, h2, h3⟩ := dpAll_zip2 t
    exact ⟨by rw [List.zip_cons_cons, List.map_cons, h1], by rw [List.zip_cons_cons, List.map_cons, h2], by rw [List.zip_cons_cons, List.length_cons, List.length_cons, h3]⟩
section
variable {X : Cx}
theorem cr_sortedD (hu : X.A.units + 64 < cLine) : CallR X (.builtin "sorted") (rSortedD X.K) := by
  intro pins s σ H vs us Q I r h
  obtain ⟨a, xs, ds, rfl, hs, hd, hal, hk, hdep, q⟩ := h
  obtain ⟨its, rv, hl, hz⟩ := I.list hs
  rw [Vals.ref1 r]
  obtain ⟨z1, z2, z3⟩ := dpAll_zip2 hd
  have e := each_of rv hd
  have er : EachIs (fun (v : Value) (b : V × PyData) => ∃ as, Reads s.heap v b.2 as) its (xs.zip ds) := e.mono fun v b ⟨r1, r2⟩ => Dp.reads I b.2 b.1 v r2 r1
  have hlen : ds.length = xs.length := by
    have := congrArg List.length z2
    rw [List.length_map, z3] at this
    exact this
  refine PySem.W.sorted_data (enc := fun b : V × PyData => b.2) hl.isList e er (by rw [z1]; exact hal) (by rw [z1]; exact hk) (by rw [z3, hlen]; exact hz) (fun b hb => ?_) fun out ho eo => ?_
  · have hm : b.2 ∈ ds := by
      rw [← z1]
      exact List.mem_map.mpr ⟨b, hb, rfl⟩
    have := hdep _ hm
    omega
  · obtain ⟨ep, he'⟩ := PyProof.Rows.sortedAll_at s.heap its out.toArray
    obtain ⟨v1, v2⟩ := each_vals eo
    have pm : ((xs.zip ds).mergeSort (dataLe false fun b : V × PyData => b.2)).Perm (xs.zip ds) := List.mergeSort_perm _ _
    have p1 : (((xs.zip ds).mergeSort (dataLe false fun b : V × PyData => b.2)).map (·.1)).Perm xs := by
      have := pm.map (·.1)
      rw [z2] at this
      exact this
    have p2 : ((xs.zip ds).mergeSort (dataLe false fun b : V × PyData => b.2)).map (·.2) = sortD ds := by
      have := PySem.W.sort_maps (r := dataLe false fun b : V × PyData => b.2) (s := dataLe false fun d : PyData => d) (fun b : V × PyData => b.2) (l := xs.zip ds) (fun a _ b _ => rfl)
      rw [z1] at this
      exact this
    rw [p2] at v2
    refine ⟨.ref _, upd H (s.heap.objs.size + 1) (.lst _), I.laid (t' := s.toks) (fun _ _ => PyProof.Rows.sortedAll_old) (Nat.le_succ _) ⟨?_, out, ep, v1, he'⟩, rfl, q _ _ p1 v2 (I.hok.fresh (Nat.le_succ _))⟩
    rw [p1.length_eq]
    exact hz
end
end Ah
set_option Elab.async false
set_option linter.all false
set_option maxRecDepth 100000
set_option maxHeartbeats 4000000
/-! enumerate(t), t a tuple, walked by a for or a comprehension -/
namespace Ah
open PySem PySem.Spec PyProof.Rows L2
open AutoSeq1 (wpAny_loadPart')
abbrev tupIt (t : Addr) : Obj := { cls := .type "tuple_iterator", data := .fields #[.ref t, .int 0 0] }
abbrev enumO (it : Addr) : Obj := { cls := .type "enumerate", data := .fields #[.none, .bool false, .ref it, rawInt 0, .none, .none] }
theorem enum_new_tuple (t : Addr) (items : Array Value) (n : Nat) (di : Option Addr) (sl : Array (Option Value)) :
    Meets (Builtin.«enumerate.__new__» ⟨[.type "enumerate", .ref t], []⟩) (fun _ R s => s.heap.get? t = some { cls := .type "tuple", dict := di, data := .seq items n, slots := sl } ∧
      R (.ok (.ret (.ref (s.heap.push (tupIt t)).objs.size))) { s with heap := (s.heap.push (tupIt t)).push (enumO s.heap.objs.size) }) :=
  .of_wp fun prog w A R s h => by
    obtain ⟨hp, g, d, tk, os⟩ := s
    obtain ⟨there, h⟩ := h
    have sube := sub_enumerate
    have isT : Heap.IsTuple (Shared.heap ⟨hp, g, d, tk, os⟩) t items := ⟨_, there, rfl, n, rfl⟩
    wp_walk using wpAny_loadPart' there
    refine wpAny_stack_any fun st => wpAny_pure ?_
    split
    · rename_i c _ _ _ _ _
      cases (c == Value.type "enumerate") <;> (wp_walk using wpAny_loadPart' there, wpAny_pyIter_tuple isT; exact ⟨_, rfl, h⟩)
    · wp_walk using wpAny_loadPart' there, wpAny_pyIter_tuple isT
      exact ⟨_, rfl, h⟩
section
variable {prog : Program} {w : World} {A : Around} {E : Value → Shared → Prop} {s : Shared}
theorem call_enum_tuple {t : Addr} {items : Array Value} {Q : Value → Shared → Prop} (isT : s.heap.IsTuple t items)
    (h : ∀ h', IsEnum h' (s.heap.objs.size + 1) s.heap.objs.size 0 .none → h'.IsTupleIter s.heap.objs.size t 0 → (∀ b o, s.heap.get? b = some o → h'.get? b = some o) → Q (.ref (s.heap.objs.size + 1)) { s with heap := h' }) :
    wpAny (model prog w) A (call (.type "enumerate") [.ref t]) Q E s := by
  obtain ⟨⟨c, di, dt, sl⟩, there, hc, n, hd⟩ := isT
  simp only at hc hd
  subst hc hd
  refine callType_new F.called_enumerate (by decide) (F.typeCall_enumerate_1 _) (F.newCall_enumerate_1 _) (fun ob => F.args_object_init_2 ob _) F.entry_enumerate_new (enum_new_tuple t items n di sl) ⟨there, ?_⟩
  have two : (s.heap.push (tupIt t)).objs.size = s.heap.objs.size + 1 := Heap.size_push ..
  have isE : IsEnum ((s.heap.push (tupIt t)).push (enumO s.heap.objs.size)) (s.heap.objs.size + 1) s.heap.objs.size 0 .none := by
    have q := Heap.get?_push_size (s.heap.push (tupIt t)) (o := enumO s.heap.objs.size) rfl
    rw [two] at q
    exact q
  show _ ∧ _
  rw [two]
  exact ⟨⟨_, isE, rfl⟩, h _ isE ⟨_, Heap.get?_push_of_some _ (Heap.get?_push_size _ rfl), rfl, rfl⟩ fun b o x => Heap.get?_push_of_some _ (Heap.get?_push_of_some _ x)⟩
end
theorem tup_one {X : Cx} {pins : List (Addr × Obj)} {σ : L2.St} {H : Hp} {s : Shared} {a : Addr} {xs ys : List V} (I : Inv X pins σ H s) (h : SqT X.K H a xs) (h' : SqT X.K H a ys) : xs = ys := by
  obtain ⟨us, r, ⟨o, ho, _, _, hd⟩, _⟩ := I.tuple h
  obtain ⟨vs, r', ⟨o', ho', _, _, hd'⟩, _⟩ := I.tuple h'
  rw [ho] at ho'
  cases ho'
  rw [hd] at hd'
  injection hd' with e _
  have e2 : us = vs := by simpa using congrArg Array.toList e
  subst e2
  exact r.inj r'
theorem enum_end_tuple {prog : Program} {w : World} {A : Around} {E : Value → Shared → Prop} {s : Shared} {e it t : Addr} {i : Nat} {k : Int} {old : Value} {items : Array Value} {Q : Option Value → Shared → Prop} (quiet : A.handled = none)
    (isE : IsEnum s.heap e it k old) (isI : s.heap.IsTupleIter it t i) (isT : s.heap.IsTuple t items) (over : items[i]? = none) (h : ∀ h', Heap.ExtBut it s.heap h' → Q none { s with heap := h' }) : wpAny (model prog w) A (pyNext (.ref e)) Q E s := by
  have ty : s.TypeIs (.ref e) "enumerate" := ⟨_, isE, rfl⟩
  unfold pyNext
  refine wpAny_bind (wpAny_attempt (wpAny_callSpecial?_slot (name := Str.ofString "__next__") ty F.slot_enumerate_next (wpAny_call_entry F.slot_enumerate_next ty F.entry_enumerate_next ?_ (F.args_enumerate_next_1 _))))
  show wpAny _ _ (field (.ref e) 2 >>= fun _ => _) _ _ _
  refine wpAny_bind (wpAny_field isE rfl (x := .ref it) rfl (wpAny_bind (wpAny_nextOf_tuple_end quiet isI isT over fun h' x ex hx => ?_)))
  obtain ⟨o, ho, hc⟩ := hx
  exact wpAny_bind (wpAny_isInstance (b := true) (T := "StopIteration") ⟨o, ho, hc⟩ isSubtype_stop (wpAny_pure (h _ ex)))
/-- the tuple at a, each item in a new pair -/
def IteT (K : PySem.W.Frag) (a : Addr) : It :=
  ⟨fun i H => ∃ (xs : List V) (x : V), SqT K H a xs ∧ xs[i]? = some x, fun i H v H' => ∃ T x, v = .ref T ∧ H T = none ∧ H' = upd H T (.tup [.int (i : Nat), x]) ∧ ∀ xs, SqT K H a xs → xs[i]? = some x, fun i H => ∃ xs : List V, SqT K H a xs ∧ xs.length ≤ i⟩
theorem turn_enumT {P : Program} {w : World} {K : PySem.W.Frag} {elts : List Expr} {kk : Nat} {tpos : Pos} (a e it : Addr) :
    Turn P w K (.Tuple elts kk tpos) (IteT K a) [e, it] e (fun i h => (∃ old, IsEnum h e it ((i : Nat) : Int) old) ∧ h.IsTupleIter it a i ∧ e ≠ it ∧ a ≠ it ∧ a ≠ e) where
  mem := by simp
  obj := fun i h st b hb => by
    obtain ⟨⟨old, isE⟩, ⟨o, ho, hc, hd⟩, _⟩ := st
    rcases (show b = e ∨ b = it by simpa using hb) with z | z
    · rw [z]; exact ⟨_, isE, fun v q => nomatch q⟩
    · rw [z]; exact ⟨o, ho, fun v q => by rw [hd] at q; cases q⟩
  keep := fun i h h' st k => ⟨⟨st.1.choose, k e (by simp) _ st.1.choose_spec⟩, st.2.1.at fun o q => k it (by simp) o q, st.2.2⟩
  item := by
    intro X hP hw hK hc i pins s σ H E I hf st hg
    subst hP hw hK
    obtain ⟨⟨old, isE⟩, isI, nei, nai, nae⟩ := st
    obtain ⟨xs, x, hq, hx⟩ := hg
    obtain ⟨its, rv, isT, hz⟩ := I.tuple hq
    obtain ⟨u, hu, ru⟩ := rv.get hx
    have elt : e < s.heap.objs.size := Heap.lt_size isE
    have ilt : it < s.heap.objs.size := isI.elim fun _ q => Heap.lt_size q.1
    have hul : i < its.length := (List.getElem?_eq_some_iff.mp hu).1
    refine wpAny_pyNext_enum_itemD (Draws.tuple (A := X.A.in1) (I.ok.hd hc) it a nai its.toArray) isE ⟨isI, isT⟩ (by simpa using hul) nei (by simp [nei, Ne.symm nae]) fun y h1 tk hy out st1 newT hsz keep => ?_
    have ey : y = u := by
      have q : its[i]? = some y := by simpa using hy
      rw [hu] at q
      exact (Option.some.inj q).symm
    subst ey
    refine ⟨_, rfl, wpAny_letOwnedTupleGo_enum (s := { s with heap := h1, toks := tk + 1 }) out fun h2 isE2 sb => ?_⟩
    have newT2 : h2.get? s.heap.objs.size = some { cls := .type "tuple", data := .seq #[.int i tk, y] } := (sb.2 _ (Nat.ne_of_gt elt)).trans newT
    have okT : ObjOk X.prog X.w (upd H s.heap.objs.size (.tup [.int (i : Nat), x])) h2 s.heap.objs.size (.tup [.int (i : Nat), x]) :=
      ⟨by show 2 ≤ sizeLine; decide, [.int i tk, y], .cons ⟨_, rfl⟩ (.cons ru .nil), ⟨_, newT2, rfl, _, rfl⟩⟩
    have I1 : Inv X pins σ (upd H s.heap.objs.size (.tup [.int (i : Nat), x])) { s with heap := h2, toks := tk + 1 } :=
      I.turnedNew (ch := [e, it]) (fun b ob hb q => (sb.2 b (fun z => hb (by simp [z]))).trans (keep b ob (fun z => hb (by simp [z])) (fun z => hb (by simp [z])) q)) hf (Nat.le_refl _) okT
    refine ⟨.ref s.heap.objs.size, _, I1, rfl, ⟨_, x, rfl, I.hok.fresh (Nat.le_refl _), rfl, fun ys hy => ?_⟩, ⟨⟨y, ?_⟩, st1.1.at fun o q => (sb.2 it (Ne.symm nei)).trans q, nei, nai, nae⟩, fun b hb => ?_⟩
    · have e1 : ys = xs := by
        exact tup_one I hy hq
      rw [e1]
      exact hx
    · rw [show ((i + 1 : Nat) : Int) = (i : Int) + 1 by omega]
      exact isE2
    · have old' : b < s.heap.objs.size := by
        rcases (show b = e ∨ b = it by simpa using hb) with z | z
        · rw [z]; exact elt
        · rw [z]; exact ilt
      rw [upd_ne (Nat.ne_of_lt old')]
      exact (hf b hb).1
  done := by
    intro X hP hw hK hc i pins s σ H E I hf st hg
    subst hP hw hK
    obtain ⟨⟨old, isE⟩, isI, nei, nai, nae⟩ := st
    obtain ⟨xs, hq, hx⟩ := hg
    obtain ⟨its, rv, isT, hz⟩ := I.tuple hq
    obtain ⟨f0, f1, f2, f3, f4, f5⟩ := hf it (by simp)
    have hl := rv.length
    exact enum_end_tuple (I.ok.hd hc) isE isI isT (by simp; omega) fun h1 eb => ⟨rfl, I.turned (t' := s.toks) (fun b o hb q => eb b o hb q) f0 f1 f3 f4 f5⟩
  self := fun A i s Q E st h => wpAny_pyIter_enum st.1.choose_spec h
def iEnumT (K : PySem.W.Frag) (ta : TA) : TI := fun σ H R => ta σ H fun vs H1 => ∃ a xs, vs = [.ref a] ∧ SqT K H1 a xs ∧ R (IteT K a) H1
theorem pi_enumT {X : Cx} {e : Expr} {ta : TA} {p pos tpos : Pos} {elts : List Expr} {kk : Nat} (hg : Gl X "enumerate") (hm : X.mg "enumerate" = none) (ha : PA X [e] ta) (one : starEach [e] X.env = [(false, eval e X.env)] := by rfl) :
    PI X (.Tuple elts kk tpos) (.Call (.Name "enumerate" p) [e] [] pos) (iEnumT X.K ta) := by
  refine ⟨fun pins s σ H R I h => ?_⟩
  refine Call_ (ld_blt I hg hm boot_enumerate (PyProof.Rows.callWith_type1 (thn (ha.run pos pins s σ H _ I h) fun us s1 ⟨vs, H1, I1, r1, q1⟩ => ?_) one rfl))
  obtain ⟨a, xs, rfl, hq, q⟩ := q1
  rw [Vals.ref1 r1]
  obtain ⟨its, rv, isT, hz⟩ := I1.tuple hq
  have alt : a < s1.heap.objs.size := isT.elim fun _ q => Heap.lt_size q.1
  refine call_enum_tuple isT fun h1 isE isI keep => wpAny_pyIter_enum isE ?_
  have I2 : Inv X pins σ H1 { s1 with heap := h1 } := I1.kept (t' := s1.toks) keep
  refine ⟨s1.heap.objs.size + 1, [s1.heap.objs.size + 1, s1.heap.objs.size], _, _, H1, rfl, I2, turn_enumT a (s1.heap.objs.size + 1) s1.heap.objs.size, ⟨⟨.none, isE⟩, isI, Nat.succ_ne_self _, Nat.ne_of_lt alt, Nat.ne_of_lt (Nat.lt_succ_of_lt alt)⟩, fun b hb => ?_, q⟩
  have new : s1.heap.objs.size ≤ b := by
    rcases (show b = s1.heap.objs.size + 1 ∨ b = s1.heap.objs.size by simpa using hb) with z | z
    · rw [z]; exact Nat.le_succ _
    · rw [z]; exact Nat.le_refl _
  exact I1.fpOk new (I1.hok.fresh new)
end Ah
set_option Elab.async false
set_option linter.all false
set_option maxRecDepth 100000
set_option maxHeartbeats 4000000
namespace Ah
open PySem PySem.Spec PyProof.Rows L2
/-! ### comprehensions that change nothing -/
def CompSt (H0 : Hp) (D : Addr) (xs : List V) (f : V → V) (i : Nat) (H : Hp) : Prop := Same H0 H ∧ H D = some (.lst ((xs.take i).map f))
theorem CompSt.start {H0 H : Hp} {D : Addr} {xs : List V} {f : V → V} (h : Same H0 H) (hD : H D = none) : CompSt H0 D xs f 0 (upd H D (.lst [])) := ⟨h.trans (same_new hD), upd_same⟩
theorem CompSt.step {H0 H : Hp} {D : Addr} {xs : List V} {f : V → V} {i : Nat} {x : V} (h : Same H0 H) (hD : H D = some (.lst ((xs.take i).map f))) (hx : xs[i]? = some x) (n0 : H0 D = none) (hl : xs.length ≤ 1000) :
    ∃ acc, H D = some (.lst acc) ∧ acc.length < sizeLine ∧ CompSt H0 D xs f (i + 1) (upd H D (.lst (acc ++ [f x]))) := by
  refine ⟨_, hD, ?_, same_mut h n0, ?_⟩
  · rw [List.length_map, List.length_take]
    exact small1000 (by omega)
  · rw [upd_same, List.take_succ, hx, List.map_append]
    rfl
theorem lc_gen {J : It} {n : Nat} {item : Nat → V} {g : TG} {tt : TT} {te : TE} {vs : List Nat} {σ : L2.St} {H1 : Hp} {D : Addr} {Qd : Hp → Prop} (Pv : Nat → Hp → Prop) (h0 : Pv 0 (upd H1 D (.lst [])))
    (hgo : ∀ i H, i < n → Pv i H → J.go i H) (hst : ∀ H, Pv n H → J.stop n H) (hy : ∀ i H x H', i < n → Pv i H → J.yld i H x H' → H' = H ∧ x = item i)
    (hs : ∀ i H, i < n → Pv i H → g (item i) (wipe σ vs) H fun σ2 H2 => wipe σ2 vs = wipe σ vs ∧ tt σ2 H2 fun b H3 =>
      if b = true then te σ2 H3 fun y H4 => ∃ acc, H4 D = some (.lst acc) ∧ acc.length < sizeLine ∧ Pv (i + 1) (upd H4 D (.lst (acc ++ [y]))) else Pv (i + 1) H3) (hd : ∀ H, Pv n H → Qd H) :
    ∃ W : Nat → Nat → Hp → Prop, (∃ m, W 0 m (upd H1 D (.lst []))) ∧ ∀ i m H, W i m H →
      (J.stop i H ∧ Qd H) ∨ (J.go i H ∧ ∃ Nx : Hp → Prop, (∀ H', Nx H' → ∃ m', m' < m ∧ W (i + 1) m' H') ∧ ∀ x H', J.yld i H x H' → g x (wipe σ vs) H' fun σ2 H2 => wipe σ2 vs = wipe σ vs ∧ tt σ2 H2 fun b H3 =>
        if b = true then te σ2 H3 fun y H4 => ∃ acc, H4 D = some (.lst acc) ∧ acc.length < sizeLine ∧ Nx (upd H4 D (.lst (acc ++ [y]))) else Nx H3) := by
  refine ⟨fun i m H => m = n - i ∧ i ≤ n ∧ Pv i H, ⟨n, rfl, Nat.zero_le _, h0⟩, ?_⟩
  rintro i m H ⟨rfl, hi, p⟩
  rcases Nat.lt_or_ge i n with hlt | hge
  · refine .inr ⟨hgo i H hlt p, Pv (i + 1), fun H' p' => ⟨n - (i + 1), by omega, rfl, hlt, p'⟩, fun x H' y => ?_⟩
    obtain ⟨rfl, rfl⟩ := hy i H x H' hlt p y
    exact hs i _ hlt p
  · obtain rfl : i = n := by omega
    exact .inl ⟨hst H p, hd H p⟩
/-! ### the program's own -/
structure Blt2 (mg : Str → Option Value) : Prop where
  isinstance : mg "isinstance" = none
  str : mg "str" = none
  list : mg "list" = none
  tuple : mg "tuple" = none
  dict : mg "dict" = none
  all : mg "all" = none
  set : mg "set" = none
  len : mg "len" = none
  enum : mg "enumerate" = none
  sorted : mg "sorted" = none
  range : mg "range" = none
section
variable {P : Program} {w : World} {K : PySem.W.Frag} {mg : Str → Option Value} {base : Heap}
end
end Ah
set_option Elab.async false
set_option linter.all false
set_option maxRecDepth 100000
set_option maxHeartbeats 4000000
namespace Ah
open PySem PySem.Spec PyProof.Rows L2
/-! ### a list or a tuple walked -/
def iOr (a b : TI) : TI := fun σ H R => a σ H R ∨ b σ H R
theorem pi_or {X : Cx} {tg e : Expr} {a b : TI} (h1 : PI X tg e a) (h2 : PI X tg e b) : PI X tg e (iOr a b) := ⟨fun pins s σ H R I h => h.elim (h1.run pins s σ H R I) (h2.run pins s σ H R I)⟩
/-- [.. for x in xs], xs a list or a tuple that stands still -/
theorem rd_same {H H' : Hp} {a : Addr} {u : HO} (k : Same H H') (h : Rd H a u) : Rd H' a u := h.imp (k _ _) fun ⟨o, h⟩ => ⟨o, k _ _ h⟩
theorem rd_some {H : Hp} {a : Addr} {u : HO} (h : Rd H a u) : ∃ o, H a = some o := h.elim (fun h => ⟨_, h⟩) fun ⟨_, h⟩ => ⟨_, h⟩
theorem rd_eq {H H' : Hp} {a : Addr} {u : HO} (e : H' a = H a) (h : Rd H a u) : Rd H' a u := h.imp e.trans fun ⟨o, h⟩ => ⟨o, e.trans h⟩
theorem ty_tup {K : PySem.W.Frag} {H : Hp} {a : Addr} {xs : List V} (h : Rd H a (.tup xs)) : TyX K H (.ref a) (.type "tuple") := h.elim (fun h => .base (.tup h)) fun ⟨_, h⟩ => .fTuple h
/-- a tuple whose object has no dict -/
def Ftp (H : Hp) (a : Addr) (xs : List V) : Prop := ∃ o : Obj, o.dict = none ∧ H a = some (.frz o (.tup xs))
theorem Ftp.rd {H : Hp} {a : Addr} {xs : List V} (h : Ftp H a xs) : Rd H a (.tup xs) := let ⟨o, _, h⟩ := h; .inr ⟨o, h⟩
theorem Ftp.same {H H' : Hp} {a : Addr} {xs : List V} (k : Same H H') (h : Ftp H a xs) : Ftp H' a xs := let ⟨o, d, h⟩ := h; ⟨o, d, k _ _ h⟩
def LTu (H : Hp) (a : Addr) (xs : List V) : Prop := H a = some (.lst xs) ∨ Rd H a (.tup xs)
theorem LTu.same {H H' : Hp} {a : Addr} {xs : List V} (k : Same H H') (h : LTu H a xs) : LTu H' a xs := h.imp (k _ _) (rd_same k)
theorem LTu.sq {K : PySem.W.Frag} {H : Hp} {a : Addr} {xs : List V} (h : LTu H a xs) : SqL K H a xs ∨ SqT K H a xs := h.imp (fun h => SqL.of h) fun h => .inl h
theorem iOr_lc {K : PySem.W.Frag} {a : Addr} {xs : List V} {g : TG} {tt : TT} {tx te : TE} {vs : List Nat} {σ : L2.St} {H : Hp} {Q : VK} (hx : ∀ R, R (.ref a) H → tx σ H R) (hs0 : LTu H a xs) (Pv : Addr → Nat → Hp → Prop)
    (h0 : ∀ D, H D = none → Pv D 0 (upd H D (.lst []))) (hl : ∀ D i H', H D = none → i ≤ xs.length → Pv D i H' → H' a = H a)
    (hs : ∀ D i x H', H D = none → xs[i]? = some x → Pv D i H' → g x (wipe σ vs) H' fun σ2 H2 => wipe σ2 vs = wipe σ vs ∧ tt σ2 H2 fun b H3 =>
      if b = true then te σ2 H3 fun y H4 => ∃ acc, H4 D = some (.lst acc) ∧ acc.length < sizeLine ∧ Pv D (i + 1) (upd H4 D (.lst (acc ++ [y]))) else Pv D (i + 1) H3) (hd : ∀ D H', H D = none → Pv D xs.length H' → Q (.ref D) H') :
    tLc (iOr (iList K tx) (iTup K tx)) g tt te vs σ H Q := by
  rcases hs0 with h1 | h1
  · exact .inl (hx _ ⟨a, rfl, ⟨xs, SqL.of h1⟩, fun D hD => lc_list (K := K) (a := a) (xs := xs) (Pv D) (h0 D hD) (fun i H' hi p => SqL.of ((hl D i H' hD hi p).trans h1)) (fun i x H' hxi p => hs D i x H' hD hxi p) fun H' p => hd D H' hD p⟩)
  · exact .inr (hx _ ⟨a, rfl, ⟨xs, .inl h1⟩, fun D hD => lc_tup (K := K) (a := a) (xs := xs) (Pv D) (h0 D hD) (fun i H' hi p => .inl (rd_eq (hl D i H' hD hi p) h1)) (fun i x H' hxi p => hs D i x H' hD hxi p) fun H' p => hd D H' hD p⟩)
theorem LTu.some {H : Hp} {a : Addr} {xs : List V} (h : LTu H a xs) : ∃ o, H a = some o := h.elim (fun h => ⟨_, h⟩) rd_some
theorem str_at {xs : List Str} {i : Nat} {v : V} (h : (xs.map V.str)[i]? = some v) : ∃ x, xs[i]? = some x ∧ v = .str x ∧ x ∈ xs := by
  rw [List.getElem?_map] at h
  obtain ⟨x, hx, rfl⟩ := Option.map_eq_some_iff.mp h
  exact ⟨x, hx, rfl, List.mem_of_getElem? hx⟩
section
variable {P : Program} {w : World} {K : PySem.W.Frag} {mg : Str → Option Value} {base : Heap}
/-- other things: nothing, a text, a number, an empty dict -/
inductive Od where
  | non | str (x : Str) | int (i : Int) | dic
def Od.isDic : Od → Bool
  | .dic => true
  | _ => false
def OdAt (H : Hp) (v : V) : Od → Prop
  | .non => v = .non
  | .str x => v = .str x
  | .int i => v = .int i
  | .dic => ∃ a, v = .ref a ∧ Rd H a (.dK [])
theorem OdAt.same {H H' : Hp} {v : V} {d : Od} (k : Same H H') (h : OdAt H v d) : OdAt H' v d := by
  cases d with
  | non => exact h
  | str x => exact h
  | int i => exact h
  | dic => exact h.imp fun _ h => ⟨h.1, rd_same k h.2⟩
theorem ty_dict {K : PySem.W.Frag} {H : Hp} {a : Addr} {kvs : List (Key × V)} (h : Rd H a (.dK kvs)) : TyX K H (.ref a) (.type "dict") := h.elim (fun h => .base (.dK h)) fun ⟨_, h⟩ => .fDict h
theorem OdAt.ty {K : PySem.W.Frag} {H : Hp} {v : V} {d : Od} (h : OdAt H v d) : ∃ ty, TyX K H v ty ∧ PySem.W.kitOne K ty (.type "list") = some false ∧ PySem.W.kitOne K ty (.type "tuple") = some false ∧ PySem.W.kitOne K ty (.type "dict") = some d.isDic := by
  cases d with
  | non =>
    cases (show v = .non from h)
    exact ⟨_, .base .non, kit_ty (by decide +kernel), kit_ty (by decide +kernel), kit_ty (by decide +kernel)⟩
  | str x =>
    cases (show v = .str x from h)
    exact ⟨_, .base (.str x), kit_ty (by decide +kernel), kit_ty (by decide +kernel), kit_ty (r := false) (by decide +kernel)⟩
  | int i =>
    cases (show v = .int i from h)
    exact ⟨_, .base (.int i), kit_ty (by decide +kernel), kit_ty (by decide +kernel), kit_ty (r := false) (by decide +kernel)⟩
  | dic =>
    obtain ⟨a, rfl, h⟩ := h
    exact ⟨_, ty_dict h, kit_ty (by decide +kernel), kit_ty (by decide +kernel), kit_ty (by decide +kernel)⟩
end
end Ah
set_option Elab.async false
set_option linter.all false
set_option maxRecDepth 100000
set_option maxHeartbeats 4000000
/-! tuples whose object is known: made, joined, cut, turned round; t.index(text) of one -/
namespace Ah
open PySem PySem.Spec PyProof.Rows L2
section
variable {prog : Program} {w : World} {A : Around} {E : Value → Shared → Prop} {s : Shared}
theorem adjust_rev (n : Nat) : Builtin.Slice.sliceAdjust none none (-1) (n : Int) = ((n : Int) - 1, -1) := by
  unfold Builtin.Slice.sliceAdjust
  simp
theorem places_rev (n : Nat) : Builtin.Slice.slicePlaces ((n : Int) - 1) (-1) (-1) = n := by
  unfold Builtin.Slice.slicePlaces
  have h1 : ¬ ((-1 : Int) > 0) := by decide
  simp only [h1, if_false]
  by_cases h : (n : Int) - 1 > -1
  · rw [if_pos h, show (- -1 : Int) = 1 by decide, Int.ediv_one]
    omega
  · rw [if_neg h]
    omega
theorem fm_congr {α β : Type} {f g : α → Option β} : ∀ {l : List α}, (∀ x ∈ l, f x = g x) → l.filterMap f = l.filterMap g
  | [], _ => rfl
  | a :: l, h => by
    rw [List.filterMap_cons, List.filterMap_cons, h a List.mem_cons_self, fm_congr fun x hx => h x (List.mem_cons_of_mem _ hx)]
theorem pick_rev (xs : Array Value) : ((List.range xs.size).filterMap fun (m : Nat) => xs[(((xs.size : Int) - 1) + (m : Int) * (-1)).toNat]?).toArray = xs.toList.reverse.toArray := by
  have e : (List.range xs.size).filterMap (fun (m : Nat) => xs[(((xs.size : Int) - 1) + (m : Int) * (-1)).toNat]?) = ((List.range xs.size).map fun k => xs.size - 1 - k).filterMap (xs[·]?) := by
    rw [List.filterMap_map]
    refine fm_congr fun m hm => ?_
    have := List.mem_range.mp hm
    show xs[(((xs.size : Int) - 1) + (m : Int) * (-1)).toNat]? = xs[xs.size - 1 - m]?
    rw [show (((xs.size : Int) - 1) + (m : Int) * (-1)).toNat = xs.size - 1 - m by omega]
  rw [e, PySem.W.krv_range, List.filterMap_reverse, PySem.W.krv_all]
theorem getItem_tuple_rev {t sl : Addr} {items : Array Value} {k : Tok} {Q : Value → Shared → Prop} (ht : IsTup s.heap t items) (hs : s.heap.IsSliceOf sl .none .none (.int (-1) k))
    (h : Q (.ref s.heap.objs.size) { s with heap := s.heap.push { cls := .type "tuple", data := .seq items.toList.reverse.toArray } }) (hsz : items.size ≤ sizeLine) : wpAny (model prog w) A (getItem (.ref t) (.ref sl)) Q E s := by
  have htake : sizeOk (.seq items.toList.reverse.toArray) := by
    show items.toList.reverse.toArray.size ≤ sizeLine
    rw [List.size_toArray, List.length_reverse, Array.length_toList]
    exact hsz
  obtain ⟨os, hos, hcs, hds⟩ := id hs
  have hTs : s.TypeIs (.ref sl) "slice" := ⟨os, hos, hcs⟩
  unfold getItem
  try with_reducible refine wpAny_holding ?_
  first | refine wpAny_bind (wpAny_pure ?_) | skip
  refine wpAny_bind (wpAny_sequenceKey ht.typeIs (by decide) ?_)
  refine wpAny_bind (wpAny_callSpecial?_slot (name := Str.ofString "__getitem__") ht.typeIs PyProof.Rows.slot_tuple_getitem
    (wpAny_call_entry PyProof.Rows.slot_tuple_getitem ht.typeIs PyProof.Rows.entry_tuple_getitem ?_ (PyProof.Rows.args_tuple_getitem _ _)))
  show wpAny _ _ (Builtin.Tuple.tupleItemsOf (.ref t) >>= _) _ _ s
  refine wpAny_bind (PyProof.Rows.tupleItemsOf_ ht ?_)
  refine wpAny_bind (wpAny_typeOf hTs ?_)
  rw [if_pos (by decide)]
  refine wpAny_bind ?_
  · unfold Builtin.Slice.sliceApplied Builtin.Slice.sliceFields
    refine wpAny_bind (wpAny_bind (wpAny_field hos hds (x := .none) rfl (wpAny_bind (wpAny_field hos hds (x := .none) rfl (wpAny_bind (wpAny_field hos hds (x := .int (-1) k) rfl (wpAny_pure ?_)))))))
    refine wpAny_bind (PyProof.Rows.slicePart_int ?_)
    show wpAny _ _ (if ((-1 : Int) == 0) = true then _ else _) _ _ s
    rw [if_neg (by decide)]
    refine wpAny_bind (PyProof.Rows.slicePart_none (wpAny_bind (PyProof.Rows.slicePart_none (wpAny_bind (wpAny_pure ?_)))))
    show wpAny _ _ (match Builtin.Slice.sliceAdjust none none (-1) (items.size : Int) with | (lo, hi) => pure (lo, (-1 : Int), Builtin.Slice.slicePlaces lo hi (-1))) _ _ s
    rw [adjust_rev]
    show wpAny _ _ (pure (((items.size : Int) - 1), (-1 : Int), Builtin.Slice.slicePlaces ((items.size : Int) - 1) (-1) (-1))) _ _ s
    rw [places_rev]
    refine wpAny_pure ?_
    have hno : ¬ ((((items.size : Int) - 1) == 0 && (-1 : Int) == 1 && items.size == items.size) = true) := by simp
    show wpAny _ _ (if (((items.size : Int) - 1) == 0 && (-1 : Int) == 1 && items.size == items.size) = true then _ else _) _ _ s
    rw [if_neg hno, pick_rev]
    first
      | exact wpAny_bind (m := Builtin.Tuple.tupleExact _) (wpAny_newObj_type (wpAny_pure ⟨_, rfl, wpAny_pure h⟩) htake)
      | exact wpAny_bind (m := Builtin.Tuple.tupleExact _) (wpAny_newObj_type (wpAny_bind (wpAny_pure (wpAny_pure ⟨_, rfl, wpAny_pure h⟩))) htake)
      | exact wpAny_bind (wpAny_bind (m := Builtin.Tuple.tupleExact _) (wpAny_newObj_type (wpAny_pure (wpAny_pure ⟨_, rfl, wpAny_pure h⟩)) htake))
      | exact wpAny_bind (wpAny_bind (m := Builtin.Tuple.tupleExact _) (wpAny_newObj_type (wpAny_pure ⟨_, rfl, wpAny_pure h⟩) htake))
end
section
variable {X : Cx}
/-- a new tuple, its object known -/
def NewF (H : Hp) (xs : List V) (Q : VK) : Prop := ∀ (p : Addr) (o : Obj), o.dict = none → H p = none → Q (.ref p) (upd H p (.frz o (.tup xs)))
def tRevT (K : PySem.W.Frag) (te : TE) : TE := fun σ H Q => te σ H fun x H1 => ∃ a xs, x = .ref a ∧ SqT K H1 a xs ∧ NewF H1 xs.reverse Q
theorem pe_revT {e : Expr} {te : TE} {k : Nat} {p1 p2 p3 pos : Pos} (he : PE X e te) : PE X (.Subscript e (.Slice none none (some (.UnaryOp .USub (.Constant (.int 1) k p1) p2)) p3) pos) (tRevT X.K te) := by
  refine ⟨fun pins s σ H Q I h => ?_⟩
  refine Subscript_ (thn (he.run pins s σ H _ I h) fun v s1 ⟨x, H1, I1, r1, q1⟩ => ?_)
  obtain ⟨a, xs, ex, hx, q⟩ := q1
  subst ex
  cases r1
  have hst : PO X (some (.UnaryOp .USub (.Constant (.int 1) k p1) p2)) (tPart (tUn (rU fun i => .int (-i)) (tC (.int 1)))) := po_some (pe_un un_neg pe_int)
  refine wpAny_Slice (thn (po_none.run pins s1 σ H1 (fun o H2 => o = none ∧ H2 = H1) I1 ⟨rfl, rfl⟩) fun vl s2 ⟨l, H2, I2, pl, el, e2⟩ => ?_)
  subst el e2
  refine thn (po_none.run pins s2 σ H2 (fun o H3 => o = none ∧ H3 = H2) I2 ⟨rfl, rfl⟩) fun vu s3 ⟨u, H3, I3, pu, eu, e3⟩ => ?_
  subst eu e3
  refine thn (hst.run pins s3 σ H3 (fun o H4 => o = some (-1) ∧ H4 = H3) I3 ⟨1, rfl, -1, rfl, rfl, rfl⟩) fun vs s4 ⟨o, H4, I4, ps, eo, e4⟩ => ?_
  subst eo e4
  have I5 : Inv X pins σ H4 { s4 with heap := s4.heap.push { cls := .type "slice", data := .fields #[vl, vu, vs] } } := I4.kept (t' := s4.toks) fun b ob q => Heap.get?_push_of_some _ q
  obtain ⟨its, r, ht, hz⟩ := I5.tuple hx
  have hlen := r.length
  cases pl
  cases pu
  obtain ⟨kk, rfl⟩ : ∃ kk, vs = Value.int (-1) kk := by
    cases ps
    exact ⟨_, rfl⟩
  show wpAny (model X.prog X.w) X.A (subscriptTail e (.Slice none none (some (.UnaryOp .USub (.Constant (.int 1) k p1) p2)) p3) (.ref a) (.ref s4.heap.objs.size)) (EP X pins σ Q) X.xe { s4 with heap := s4.heap.push { cls := .type "slice", data := .fields #[.none, .none, .int (-1) kk] } }
  refine tail_any (ops := [.ref a, .ref s4.heap.objs.size]) ht.typeIs (PyProof.Rows.slot_tuple_getitem.lookup) ?_ (by with_unfolding_all rfl)
  refine getItem_tuple_rev ht (Heap.IsSliceOf.new _ _ _ _) ?_ (by rw [List.size_toArray]; omega)
  refine ⟨.ref _, _, I5.laid (t' := s4.toks) (o := .frz { cls := .type "tuple", data := .seq its.reverse.toArray } (.tup xs.reverse)) (fun b ob q => Heap.get?_push_of_some _ q) (Nat.le_refl _) ?_, rfl, q _ _ rfl (I5.hok.fresh (Nat.le_refl _))⟩
  exact ⟨Heap.get?_push_size _ rfl, by rw [List.length_reverse]; omega, _, r.reverse, IsTup.new _ _⟩
def tTupF (t : TA) : TE := fun σ H Q => t σ H fun xs H1 => xs.length ≤ sizeLine ∧ NewF H1 xs Q
theorem pe_tupF {es : List Expr} {t : TA} {pos : Pos} {x1 : Nat} (h : PA X es t) : PE X (.Tuple es x1 pos) (tTupF t) := by
  refine ⟨fun pins s σ H Q I hq => ?_⟩
  refine wpAny_Tuple_spliced (thn (h.run pos pins s σ H _ I hq) fun us s1 ⟨xs, H1, I1, r, z, q⟩ => ⟨by rw [← r.length]; exact z, ?_⟩)
  have hf : H1 s1.heap.objs.size = none := I1.hok.fresh (Nat.le_refl _)
  refine ⟨.ref s1.heap.objs.size, _, I1.laid (t' := s1.toks) (o := .frz { cls := .type "tuple", data := .seq us.toArray } (.tup xs)) (fun b u e => Heap.get?_push_of_some _ e) (Nat.le_refl _) ?_, rfl, q _ _ rfl hf⟩
  exact ⟨Heap.get?_push_size _ rfl, z, us, r, ⟨_, Heap.get?_push_size _ rfl, rfl, _, rfl⟩⟩
def rCatF (K : PySem.W.Frag) : R2 := fun x y H Q => ∃ a b xs ys, x = .ref a ∧ y = .ref b ∧ SqT K H a xs ∧ SqT K H b ys ∧ xs.length + ys.length ≤ sizeLine ∧
  (xs = [] → Q (.ref b) H) ∧ (xs ≠ [] → ys = [] → Q (.ref a) H) ∧ (xs ≠ [] → ys ≠ [] → NewF H (xs ++ ys) Q)
theorem op_catF : OpR X (binaryOp .Add) (rCatF X.K) := by
  intro pins s σ H x y v u Q I rx ry h
  obtain ⟨a, b, xs, ys, rfl, rfl, ha, hb, hz, q0, q1, q2⟩ := h
  cases rx
  cases ry
  obtain ⟨its, r1, p1, _⟩ := I.tuple ha
  obtain ⟨its2, r2, p2, _⟩ := I.tuple hb
  by_cases hx : xs = []
  · subst hx
    cases r1
    exact cat_tup0 p1 p2 ⟨.ref b, H, I, rfl, q0 rfl⟩
  · refine HT.cat_tup p1 p2 (fun z => hx (r1.nil_iff.mp z)) (fun z => ⟨.ref a, H, I, rfl, q1 hx (r2.nil_iff.mp z)⟩) (fun z => ?_) (by rw [← r1.length, ← r2.length]; exact hz)
    refine ⟨.ref s.heap.objs.size, _, I.laid (t' := s.toks) (o := .frz { cls := .type "tuple", data := .seq (its ++ its2).toArray } (.tup (xs ++ ys))) (fun b ob q => Heap.get?_push_of_some _ q) (Nat.le_refl _) ?_, rfl, q2 hx (fun w => z (r2.nil_iff.mpr w)) _ _ rfl (I.hok.fresh (Nat.le_refl _))⟩
    exact ⟨Heap.get?_push_size _ rfl, by rw [List.length_append]; exact hz, _, r1.append r2, IsTup.new _ _⟩
theorem call_tuple_ofF : CallR X (.type "tuple") (fun xs H Q => ∃ p ys, xs = [.ref p] ∧ SqL X.K H p ys ∧ NewF H ys Q) := by
  intro pins s σ H xs us Q I r h
  obtain ⟨p, ys, rfl, hq, q⟩ := h
  obtain ⟨u, rfl, rx⟩ := vals1 r
  cases rx
  obtain ⟨its, r', pl, hz⟩ := I.list hq
  have hlen := r'.length
  refine call_tuple_list pl.isList (fun h' kp => ?_) (by simp only [List.size_toArray] <;> omega)
  have I1 : Inv X pins σ H { s with heap := h' } := I.kept (t' := s.toks) kp
  have I2 : Inv X pins σ (upd H h'.objs.size (.frz { cls := .type "tuple", data := .seq its.toArray } (.tup ys))) { s with heap := h'.push { cls := .type "tuple", data := .seq its.toArray } } :=
    I1.laid (t' := s.toks) (fun b o e => Heap.get?_push_of_some _ e) (Nat.le_refl _) (show ObjOk X.prog X.w _ _ _ (.frz _ (.tup ys)) from ⟨Heap.get?_push_size _ rfl, hz, its, r', IsTup.new _ _⟩)
  exact ⟨.ref h'.objs.size, _, I2, rfl, q _ _ rfl (I1.hok.fresh (Nat.le_refl _))⟩
/-- t.index(text), t a tuple of unlike texts, its object known -/
def tTix (K : PySem.W.Frag) (to : TE) (t : TA) : TE := fun σ H Q => to σ H fun x H1 => ∃ a ys, x = .ref a ∧ Ftp H1 a ys ∧ t σ H1 fun vs H2 => ∃ (zs : List Str) (z : Str) (j : Nat), vs = [.str z] ∧ SqT K H2 a (zs.map V.str) ∧ zs[j]? = some z ∧ (∀ m, m < j → zs[m]? ≠ some z) ∧ Q (.int (j : Nat)) H2
variable {o e : Expr} {to : TE} {t : TA} {apos cpos : Pos}
theorem pe_tix (ho : PE X o to) (ha : PA X [e] t)
    (hbase : attributeBase o "index" X.env (eval o X.env) = eval o X.env := by rfl)
    (hfew : ((backTo cpos (starEach [e] X.env)).all (fun x => !x.1) && (backToKw cpos (keywordEach [] X.env)).all (fun x => x.1.isSome)
      && decide ([e].length + ([] : List Keyword).length + (if ([] : List Keyword).isEmpty then 0 else 1) < 30)) = true := by rfl)
    (hline : (apos.endLine == cpos.line) = true := by rfl) (hs : starEach [e] X.env = (false, eval e X.env) :: starEach [] X.env := by rfl) (hplain : (backTo cpos (starEach [] X.env)).any (·.1) = false := by rfl) :
    PE X (.Call (.Attribute o "index" apos) [e] [] cpos) (tTix X.K to t) := by
  refine ⟨fun pins s σ H Q I h => ?_⟩
  refine wpAny_Call_method_late hbase hfew hline rfl (thn (ho.run pins s σ H _ I h) fun v s1 ⟨x, H1, I1, r1, a, ys, ex, ⟨ob, hd, hob⟩, q1⟩ => ?_)
  subst ex
  cases r1
  obtain ⟨g1, _, its, _, isT⟩ := (show ObjOk X.prog X.w H1 s1.heap a (.frz ob (.tup ys)) from I1.hok a _ hob)
  refine ⟨"tuple", "tuple.index", PySem.F.plainAttrs_tuple, PySem.F.slot_tuple_index, PySem.F.type_tuple_index, isT.typeIs, fun b eb => ?_, ?_⟩
  · cases eb
    exact ⟨ob, g1, hd⟩
  · have hA := ha.run cpos pins s1 σ H1 _ I1 q1
    rw [hs] at hA ⊢
    refine Calls.callWith_builtin (by show (false || (backTo cpos (starEach [] X.env)).any (·.1)) = false; rw [hplain] <;> rfl) (Calls.evalArgs_plain ?_)
    exact thn hA fun us s2 ⟨vs, H2, I2, r2, zs, z, j, ev, q2, q3, q4, q5⟩ => mt_tup_index pins s2 σ H2 (.ref a) vs (.ref a) us Q I2 rfl r2 ⟨a, zs, z, j, rfl, ev, q2, q3, q4, q5⟩
end
end Ah
set_option Elab.async false
set_option linter.all false
set_option maxRecDepth 100000
set_option maxHeartbeats 2000000
/-! sorted(t), t a tuple (or list) of texts -/
namespace PySem
open Sem (wp)
open AutoSeq1 (wpAny_loadPart')
section
variable {prog : Program} {w : World} {A : Around} {E : Value → Shared → Prop} {s : Shared}
/-- what a sequence holds, as a list: the heap behind -/
theorem collect_at {Q : List Value → Shared → Prop} (it : Addr) {T : String} {o : Obj} {items : Array Value} {n : Nat} (hT : T = "list" ∨ T = "tuple") (ho : s.heap.get? it = some o) (hc : o.cls = .type T) (hd : o.data = .seq items n)
    (hQ : ∀ h' : Heap, (∀ b u, s.heap.get? b = some u → h'.get? b = some u) → s.heap.objs.size ≤ h'.objs.size → Q items.toList { s with heap := h' }) (hsz : items.size ≤ sizeLine) : wpAny (model prog w) A (collect (.ref it)) Q E s := by
  unfold collect
  refine wpAny_bind (wpAny_runValue (codeAny_builtin F.entry_proto_collect ?_))
  rw [Around.under_plainId F.plain_proto_collect _]
  show wpAny _ A.in1 (newList [] >>= fun l => again (.builtin "list.__iadd__" ⟨[l, .ref it], []⟩)) _ _ s
  refine wpAny_bind (wpAny_newObj_type (wpAny_pure ⟨plainId_quiet F.plain_list_iadd _, codeAny_builtin F.entry_list_iadd ?_⟩))
  rw [Around.under_plainId F.plain_list_iadd _]
  have new : (s.heap.push { cls := .type "list", data := .seq ([] : List Value).toArray }).get? s.heap.objs.size = some { cls := .type "list", data := .seq #[] 0 } := Heap.get?_push_size _ rfl
  have read : wpAny (model prog w) A (match Value.ref s.heap.objs.size with
      | Value.ref a => do
        match (← load a).data with
          | Data.seq xs _ => pure xs.toList
          | _ => unsupported "internal:collect"
      | _ => unsupported "internal:collect") Q E { s with heap := (s.heap.push { cls := .type "list", data := .seq ([] : List Value).toArray }).update s.heap.objs.size (Obj.mapSeq (· ++ items)) } := by
    show wpAny _ A (load s.heap.objs.size >>= _) _ _ _
    refine wpAny_bind (wpAny_load (Heap.get?_update_self (Obj.mapSeq (· ++ items)) new rfl) (wpAny_pure ?_))
    show Q ((#[] : Array Value) ++ items).toList _
    rw [show ((#[] : Array Value) ++ items).toList = items.toList by simp]
    refine hQ _ (fun b u hb => (Heap.get?_update_other _ _ (Nat.ne_of_gt (Heap.lt_size hb))).trans (Heap.get?_push_of_some _ hb)) ?_
    rw [Heap.size_update, PyProof.Rows.size_push']
    exact Nat.le_succ _
  show wpAny _ A.in1 (Builtin.List.listExtendWith (.ref s.heap.objs.size) (.ref it) (.ref s.heap.objs.size)) _ _ _
  refine wpAny_mono (wpAny_extend_seq (hsz := hsz) (A := A) (R := fun r s' => r = .ok (.ret (.ref s.heap.objs.size)) ∧ s' = { s with heap := (s.heap.push { cls := .type "list", data := .seq ([] : List Value).toArray }).update s.heap.objs.size (Obj.mapSeq (· ++ items)) })
    (s := { s with heap := s.heap.push { cls := .type "list", data := .seq ([] : List Value).toArray } }) _ it _ 0 hT new (Heap.get?_push_of_some _ ho) hc hd ⟨rfl, rfl⟩) (fun r s2 z => ?_) fun r s2 z => absurd z.1 (by simp)
  match r, z with
  | .done f, z =>
    obtain ⟨e, rfl⟩ := z
    cases e
    exact read
  | .again c', z =>
    refine ⟨z.1, codeAny_mono z.2 fun r s3 q => ?_⟩
    obtain ⟨rfl, rfl⟩ := q
    exact read
end
end PySem
namespace PyProof.Rows
open PySem PyProof
section
variable {prog : Program} {w : World} {A : Around} {E : Value → Shared → Prop} {s : Shared}
theorem sorted_seqS {l : Addr} {T : String} {o : Obj} {vs : List Value} {n : Nat} {ss : List Str} {Q : Value → Shared → Prop} (hT : T = "list" ∨ T = "tuple") (ho : s.heap.get? l = some o) (hc : o.cls = .type T) (hd : o.data = .seq vs.toArray n) (hS : StrsAre vs ss) (h64 : vs.length < 64)
    (h : ∀ (h' : Heap) (a e : Nat) (out : List Value) (ss' : List Str), (∀ b u, s.heap.get? b = some u → h'.get? b = some u) → s.heap.objs.size ≤ a → h'.get? a = some (seqObj "list" out.toArray e) → StrsAre out ss' → ss'.Perm ss → sortedS ss' = true → Q (.ref a) { s with heap := h' }) :
    wpAny (model prog w) A (call (.builtin "sorted") [.ref l]) Q E s := by
  refine Calls.call_function_entry kind_sorted plain_sorted entry_sorted (args_sorted1 _) ?_
  unfold Builtin.«sorted»
  refine wpAny_bind (m := checkCount "sorted" 1 1 _) (wpAny_pure ?_)
  have hz : vs.toArray.size ≤ sizeLine := by rw [List.size_toArray, sizeLine_eq]; omega
  refine wpAny_bind (PySem.collect_at l hT ho hc hd (fun h1 k1 big => ?_) hz)
  refine wpAny_bind (wpAny_newList ?_)
  have hoL : (h1.push (seqObj "list" vs.toArray 0)).get? h1.objs.size = some (seqObj "list" vs.toArray 0) := Heap.get?_push_size _ rfl
  show wpAny _ _ _ _ _ { s with heap := h1.push (seqObj "list" vs.toArray 0) }
  refine wpAny_bind (wpAny_holding (wpAny_call_entry slot_list_sort ⟨_, hoL, rfl⟩ entry_list_sort (list_sort_treeK strKind_oneLt hoL hS.keysOf (fun v₁ v₂ rest e => keyKind_strs (by rw [← e]; exact hS)) h64 fun st' a1 a2 => ⟨_, rfl, ?_⟩) (args_list_sort _)))
  refine wpAny_pure ⟨_, rfl, ?_⟩
  obtain ⟨ss', b1, b2, b3⟩ := sorted_out_str hS a1 a2
  obtain ⟨e, he⟩ := sortedHeap_at (out := (arrOf st').map (·.2)) hoL
  refine h _ _ e ((arrOf st').map (·.2)).toList ss' (fun b u hb => ?_) big he b1 b2 b3
  have hb1 := k1 b u hb
  have hlt := Heap.lt_size hb1
  rw [sortedHeap_old (Nat.ne_of_lt hlt) (by rw [size_push']; exact Nat.lt_succ_of_lt hlt)]
  exact Heap.get?_push_of_some _ hb1
end
end PyProof.Rows
namespace Ah
open PySem PySem.Spec PyProof.Rows L2
def rSortedTS (K : PySem.W.Frag) : List V → Hp → VK → Prop := fun vs H Q => ∃ (a : Addr) (xs : List Str), vs = [V.ref a] ∧ (SqL K H a (xs.map V.str) ∨ SqT K H a (xs.map V.str)) ∧ xs.length < 64 ∧ ∀ (ys : List Str) (p : Addr), ys.Perm xs → sortedS ys = true → H p = none → Q (.ref p) (upd H p (.lst (ys.map V.str)))
section
variable {X : Cx}
theorem cr_sortedTS : CallR X (.builtin "sorted") (rSortedTS X.K) := by
  intro pins s σ H vs us Q I r h
  obtain ⟨a, xs, rfl, hs, h64, q⟩ := h
  have fin : ∀ (h' : Heap) (a e : Nat) (out : List Value) (ys : List Str), (∀ b u, s.heap.get? b = some u → h'.get? b = some u) → s.heap.objs.size ≤ a → h'.get? a = some (seqObj "list" out.toArray e) → StrsAre out ys → ys.Perm xs → sortedS ys = true → EP X pins σ Q (.ref a) { s with heap := h' } := fun h' a e out ys k ha he h1 h2 h3 => by
    have hlen : (ys.map V.str).length ≤ sizeLine := by rw [List.length_map, h2.length_eq]; exact small64 h64
    exact ⟨.ref _, upd H a (.lst (ys.map V.str)), I.laid (t' := s.toks) k ha ⟨hlen, out, e, vals_of_strs h1, he⟩, rfl, q ys _ h2 h3 (I.hok.fresh ha)⟩
  rcases hs with hs | hs
  · obtain ⟨its, rv, ⟨o, n, e, c, d, dd⟩, _⟩ := I.list hs
    rw [Vals.ref1 r]
    have hlen0 := rv.length
    rw [List.length_map] at hlen0
    exact PyProof.Rows.sorted_seqS (.inl rfl) e c dd rv.strs (by rw [← hlen0]; exact h64) fin
  · obtain ⟨its, rv, ⟨o, e, c, n, dd⟩, _⟩ := I.tuple hs
    rw [Vals.ref1 r]
    have hlen0 := rv.length
    rw [List.length_map] at hlen0
    exact PyProof.Rows.sorted_seqS (.inr rfl) e c dd rv.strs (by rw [← hlen0]; exact h64) fin
end
end Ah
set_option Elab.async false
set_option linter.all false
set_option maxRecDepth 100000
set_option maxHeartbeats 4000000
namespace Ah
open PySem PySem.Spec PyProof.Rows L2
theorem drop_one {α : Type} {l : List α} {p : Nat} {x : α} (h : l[p]? = some x) : (l.drop p).take 1 = [x] := by
  obtain ⟨hp, e⟩ := List.getElem?_eq_some_iff.mp h
  rw [List.drop_eq_getElem_cons hp, e]
  rfl
theorem rd_to {H : Hp} {a : Addr} {xs ys : List V} (h : Rd H a (.tup xs)) (e : xs = ys) : Rd H a (.tup ys) := e ▸ h
theorem slA {K : PySem.W.Frag} {H : Hp} {a : Addr} {xs : List V} {lo hi : Option Int} {Q : VK} (ha : Rd H a (.tup xs)) (k : ∀ b H', Same H H' → Rd H' b (.tup (cutV xs lo hi)) → Q (.ref b) H') : rSlA K (.ref a) lo hi H Q := by
  refine ⟨a, xs, rfl, .inl ha, fun w => k a H (Same.refl H) ?_, fun _ b hb => k b _ (same_new hb) (.inl upd_same)⟩
  unfold cutV
  rw [w.1, w.2, List.drop_zero, Nat.sub_zero, List.take_length]
  exact ha
theorem catA {K : PySem.W.Frag} {H : Hp} {a b : Addr} {xs ys : List V} {Q : VK} (ha : Rd H a (.tup xs)) (hb : Rd H b (.tup ys)) (hz : xs.length + ys.length ≤ 1000) (k : ∀ c H', Same H H' → Rd H' c (.tup (xs ++ ys)) → Q (.ref c) H') : rCatA K (.ref a) (.ref b) H Q := by
  refine ⟨a, b, xs, ys, rfl, rfl, .inl ha, .inl hb, ?_, fun e => ?_, fun _ e => ?_, fun _ _ c hc => k c _ (same_new hc) (.inl upd_same)⟩
  · exact Nat.le_of_lt (small1000 hz)
  · subst e
    exact k b H (Same.refl H) hb
  · subst e
    exact k a H (Same.refl H) (by rw [List.append_nil]; exact ha)
theorem cutV_to {xs : List V} {p : Nat} (h : p ≤ xs.length) : cutV xs none (some (p : Int)) = xs.take p := by
  unfold cutV
  rw [HT.sIx_none, HT.sIx_nat, List.drop_zero, Nat.sub_zero, Nat.min_eq_left h]
theorem cutV_from {xs : List V} {p : Nat} (h : p ≤ xs.length) : cutV xs (some (p : Int)) none = xs.drop p := by
  unfold cutV
  rw [HT.sIx_none, HT.sIx_nat, Nat.min_eq_left h]
  exact List.take_of_length_le (by rw [List.length_drop]; omega)
section
variable {P : Program} {w : World} {K : PySem.W.Frag} {mg : Str → Option Value} {base : Heap}
end
end Ah
set_option Elab.async false
set_option linter.all false
set_option maxRecDepth 100000
set_option maxHeartbeats 4000000
namespace Ah
open PySem PySem.Spec PyProof.Rows L2
theorem newF {H : Hp} {xs : List V} {Q : VK} (k : ∀ b H', Same H H' → Ftp H' b xs → Q (.ref b) H') : NewF H xs Q := fun p o d hp => k p _ (same_new hp) ⟨o, d, upd_same⟩
theorem ftp_kp {p a : Addr} {xs : List V} {H H' : Hp} (k : Kp p H H') {kvs : List (Key × V)} (hp : H p = some (.dK kvs)) (h : Ftp H a xs) : Ftp H' a xs := by
  obtain ⟨o, d, h⟩ := h
  refine ⟨o, d, k a _ (fun e => ?_) h⟩
  rw [e, hp] at h
  cases h
theorem catF {K : PySem.W.Frag} {H : Hp} {a b : Addr} {xs ys : List V} {Q : VK} (ha : Rd H a (.tup xs)) (hb : Rd H b (.tup ys)) (h1 : xs = [] → Ftp H b ys) (h2 : ys = [] → Ftp H a xs) (hz : xs.length + ys.length ≤ 1000) (k : ∀ c H', Same H H' → Ftp H' c (xs ++ ys) → Q (.ref c) H') : rCatF K (.ref a) (.ref b) H Q := by
  refine ⟨a, b, xs, ys, rfl, rfl, .inl ha, .inl hb, Nat.le_of_lt (small1000 hz), fun e => ?_, fun _ e => ?_, fun _ _ => newF k⟩
  · have := h1 e
    subst e
    exact k b H (Same.refl H) this
  · have := h2 e
    subst e
    exact k a H (Same.refl H) (by rw [List.append_nil]; exact this)
theorem perm_map_inv {α β : Type} {f : α → β} {l ys : List β} (h : ys.Perm l) : ∀ {xs : List α}, l = xs.map f → ∃ zs : List α, zs.Perm xs ∧ ys = zs.map f := by
  induction h with
  | nil =>
    intro xs e
    cases xs with
    | nil => exact ⟨[], .nil, rfl⟩
    | cons _ _ => cases e
  | cons x _ ih =>
    intro xs e
    cases xs with
    | nil => cases e
    | cons a r =>
      obtain ⟨rfl, e2⟩ := List.cons.inj e
      obtain ⟨zs, h1, h2⟩ := ih e2
      exact ⟨a :: zs, h1.cons a, by rw [List.map_cons, h2]⟩
  | swap x y l =>
    intro xs e
    cases xs with
    | nil => cases e
    | cons a r =>
      obtain ⟨rfl, e2⟩ := List.cons.inj e
      cases r with
      | nil => cases e2
      | cons b t =>
        obtain ⟨rfl, rfl⟩ := List.cons.inj e2
        exact ⟨b :: a :: t, List.Perm.swap a b t, rfl⟩
  | trans _ _ ih1 ih2 =>
    intro xs e
    obtain ⟨zs, h1, h2⟩ := ih2 e
    obtain ⟨ws, h3, h4⟩ := ih1 h2
    exact ⟨ws, h3.trans h1, h4⟩
abbrev sLawRow : Stmt := topS 22
section
variable {P : Program} {w : World} {K : PySem.W.Frag} {mg : Str → Option Value} {base : Heap}
theorem scLawRow : FnScope ["pen", "hands"] ["pen", "hands"] (defScope sLawRow) := ⟨rfl, rfl, rfl, by decide +kernel, rfl, by decide +kernel, by decide +kernel⟩
def spLawRow : Sp := fun vs H Q _ => ∃ (p c a : Addr) (xs : List Str) (n : Nat), vs = [.ref p, .ref a] ∧ LTu H a (xs.map V.str) ∧ (∀ x ∈ xs, IsHand x) ∧ xs.length ≤ 60 ∧ PenAt H p c n ∧ n + 60 < 1000000 ∧
  ∀ (b : Addr) (ys : List Str) (H' : Hp), ys.Perm xs → Ftp H' b (ys.map V.str) → PenAt H' p c (n + xs.length) → Kp p H H' → Q (.ref b) H'
theorem ok_lawRow {f f1 : Addr} {fd fd1 : FuncData} (F : Fun K "_law_row" "_law_row" sLawRow f fd) (B : Blt2 mg) (D : Df P w K mg base CX0 "_law_shuffled" 2 f1 fd1 ["pen", "some"] (spShuf K)) : FnOk P w K mg base CX0 3 f fd ["pen", "hands"] spLawRow := by
  refine F.ok scLawRow (fun vs H Q E h => ?_) (fun cdv A outer s H vs Q E hr h => ?_)
  · obtain ⟨p, c, a, xs, n, rfl, _⟩ := h
    rfl
  · obtain ⟨p, c, a, xs, n, rfl, ha, hh, hl, hp, hn, k⟩ := h
    refine ⟨_, pss_one (ps_ret (pe_callTy call_tuple_ofF (by rfl) B.tuple (by decide +kernel) (pa_cons (pe_call D.ok hr rfl D.g D.kp D.b .nil pass0 (pa_cons (pv 0) (pa_cons (pe_callB cr_sortedTS (by rfl) B.sorted (by decide +kernel) (pa_cons (pv 1) pa_nil)) pa_nil))) pa_nil))), ?_⟩
    refine ⟨_, rfl, _, rfl, a, xs, rfl, ha.sq, by omega, fun ys s py sy hs => ?_⟩
    have hy : ∀ y ∈ ys, IsHand y := fun y z => hh y (py.mem_iff.mp z)
    refine ⟨p, c, s, ys.map V.str, ys.map PyData.str, n, rfl, .inl (SqL.of upd_same), dp_strs ys, fun d hd => ?_, ?_, hp.keep (same_new hs), ?_, fun q zs H2 pz hq eq hp2 kp2 => ?_⟩
    · obtain ⟨y, z, rfl⟩ := List.mem_map.mp hd
      exact shp_str (hy y z).ok
    · rw [List.length_map, py.length_eq]
      omega
    · rw [List.length_map, py.length_eq]
      omega
    obtain ⟨ws, pw, rfl⟩ := perm_map_inv pz rfl
    refine ⟨q, ws.map V.str, rfl, SqL.of eq, newF fun b H3 s3 f3 => ?_⟩
    rw [List.length_map, py.length_eq] at hp2
    exact k b ws H3 (pw.trans py) f3 (hp2.keep s3) ((Kp.new hs).trans (kp2.trans (Kp.same s3)))
end
end Ah
set_option Elab.async false
set_option linter.all false
set_option maxRecDepth 100000
set_option maxHeartbeats 4000000
namespace Ah
open PySem PySem.Spec PyProof.Rows L2
/-- over a tuple's numbered items, a dict -/
theorem dc_enumT {K : PySem.W.Frag} {a : Addr} {xs : List V} {g : TG} {tt : TT} {tk tv : TE} {vs : List Nat} {σ : L2.St} {H1 : Hp} {D : Addr} {Qd : Hp → Prop} (Pv : Nat → Hp → Prop) (h0 : Pv 0 (upd H1 D (.dK []))) (hl : ∀ i H, i ≤ xs.length → Pv i H → SqT K H a xs)
    (hs : ∀ i x H T, xs[i]? = some x → Pv i H → H T = none → g (.ref T) (wipe σ vs) (upd H T (.tup [.int (i : Nat), x])) fun σ2 H2 => wipe σ2 vs = wipe σ vs ∧ tt σ2 H2 fun b H3 =>
      if b = true then tk σ2 H3 fun y H4 => tv σ2 H4 fun z H5 => ∃ kvs k, y = kV k ∧ H5 D = some (.dK kvs) ∧ kvs.length < sizeLine ∧ Pv (i + 1) (upd H5 D (.dK (putK kvs k z))) else Pv (i + 1) H3) (hd : ∀ H, Pv xs.length H → Qd H) :
    ∃ W : Nat → Nat → Hp → Prop, (∃ m, W 0 m (upd H1 D (.dK []))) ∧ ∀ i m H, W i m H →
      ((IteT K a).stop i H ∧ Qd H) ∨ ((IteT K a).go i H ∧ ∃ Nx : Hp → Prop, (∀ H', Nx H' → ∃ m', m' < m ∧ W (i + 1) m' H') ∧ ∀ x H', (IteT K a).yld i H x H' → g x (wipe σ vs) H' fun σ2 H2 => wipe σ2 vs = wipe σ vs ∧ tt σ2 H2 fun b H3 =>
        if b = true then tk σ2 H3 fun y H4 => tv σ2 H4 fun z H5 => ∃ kvs k, y = kV k ∧ H5 D = some (.dK kvs) ∧ kvs.length < sizeLine ∧ Nx (upd H5 D (.dK (putK kvs k z))) else Nx H3) := by
  refine ⟨fun i m H => m = xs.length - i ∧ i ≤ xs.length ∧ Pv i H, ⟨xs.length, by simp, Nat.zero_le _, h0⟩, ?_⟩
  rintro i m H ⟨rfl, hi, p⟩
  have q := hl i H hi p
  by_cases hlt : i < xs.length
  · refine .inr ⟨⟨xs, xs[i], q, by simp [hlt]⟩, Pv (i + 1), fun H' p' => ⟨xs.length - (i + 1), by omega, rfl, hlt, p'⟩, fun x H' y => ?_⟩
    obtain ⟨T, u, rfl, hT, rfl, y⟩ := y
    exact hs i u _ T (y xs q) p hT
  · have e : i = xs.length := by omega
    subst e
    exact .inl ⟨⟨xs, q, Nat.le_refl _⟩, hd H p⟩
/-- where each of them stands -/
def SpotsN (H : Hp) (D : Addr) (xs : List Str) (n : Nat) : Prop := ∃ kvs, H D = some (.dK kvs) ∧ kvs.length ≤ n ∧ ∀ j x, j < n → xs[j]? = some x → valV kvs (Sum.inr x : Key) = some (.int (j : Nat))
theorem SpotsN.same {H H' : Hp} {D : Addr} {xs : List Str} {n : Nat} (k : Same H H') (h : SpotsN H D xs n) : SpotsN H' D xs n := by
  obtain ⟨kvs, h1, h2⟩ := h
  exact ⟨kvs, k _ _ h1, h2⟩
theorem SpotsN.put {H : Hp} {D : Addr} {xs : List Str} {n : Nat} {x : Str} (nd : xs.Nodup) (hx : xs[n]? = some x) (h : SpotsN H D xs n) (hn : n ≤ 1000) :
    ∃ kvs, H D = some (.dK kvs) ∧ kvs.length < sizeLine ∧ SpotsN (upd H D (.dK (putK kvs (Sum.inr x : Key) (.int (n : Nat))))) D xs (n + 1) := by
  obtain ⟨kvs, h1, h2, h3⟩ := h
  refine ⟨kvs, h1, small1000 (by omega), _, upd_same, ?_, fun j y hj hy => ?_⟩
  · exact Nat.le_trans (DSub.putK_len _ _ _) (by omega)
  · rw [valV_put]
    by_cases e : j = n
    · subst e
      rw [hx] at hy
      obtain rfl := Option.some.inj hy
      rw [if_pos rfl]
    · have hl := (List.getElem?_eq_some_iff.mp hy)
      have hl2 := (List.getElem?_eq_some_iff.mp hx)
      rw [if_neg (fun z => e ?_)]
      · exact h3 j y (by omega) hy
      · obtain ⟨a1, a2⟩ := hl
        obtain ⟨b1, b2⟩ := hl2
        have z' : y = x := Sum.inr.inj z
        exact nd_inj nd a1 b1 (by rw [a2, b2, z'])
theorem none_of {H H' : Hp} {a : Addr} (k : Same H H') (h : H' a = none) : H a = none := by
  cases e : H a with
  | none => rfl
  | some o => rw [k a o e] at h; cases h
theorem getD_at {xs : List Str} {i : Nat} (h : i < xs.length) : xs[i]? = some (xs.getD i default) := by
  rw [List.getD_eq_getElem?_getD, List.getElem?_eq_getElem h]
  rfl
theorem idx_at {ys : List Str} {x : Str} (h : x ∈ ys) : ys[ys.idxOf x]? = some x := by
  have hl := List.idxOf_lt_length_of_mem h
  rw [List.getElem?_eq_getElem hl, List.getElem_idxOf hl]
theorem SpotsN.start {H : Hp} {D : Addr} {xs : List Str} : SpotsN (upd H D (.dK [])) D xs 0 := ⟨[], upd_same, Nat.le_refl _, fun j _ h => absurd h (Nat.not_lt_zero _)⟩
theorem spots_get {H : Hp} {D : Addr} {xs : List Str} {j : Nat} {x : Str} (h : SpotsN H D xs xs.length) (hx : xs[j]? = some x) : DGet H D (.str x) (some (.int (j : Nat))) := by
  obtain ⟨kvs, h1, _, h3⟩ := h
  have q := DGet.k (k := (Sum.inr x : Key)) h1
  rw [h3 j x (List.getElem?_eq_some_iff.mp hx).1 hx] at q
  exact q
section
variable {P : Program} {w : World} {K : PySem.W.Frag} {mg : Str → Option Value} {base : Heap}
end
end Ah
set_option Elab.async false
set_option linter.all false
set_option maxRecDepth 100000
set_option maxHeartbeats 4000000
namespace Ah
open PySem PySem.Spec PyProof.Rows L2
open PySem.W (AllAlike Sortable)
/-- one walk over a tuple's numbered items -/
theorem out_enumT {K : PySem.W.Frag} {a : Addr} {xs : List V} {H0 : Hp} {Qd : Hp → Prop} {body : V → Hp → (Hp → Prop) → Prop} (Pv : Nat → Hp → Prop) (h0 : Pv 0 H0) (hl : ∀ i H, i ≤ xs.length → Pv i H → SqT K H a xs)
    (hs : ∀ i x H T, xs[i]? = some x → Pv i H → H T = none → body (.ref T) (upd H T (.tup [.int (i : Nat), x])) (Pv (i + 1))) (hd : ∀ H, Pv xs.length H → Qd H) :
    ∃ W : Nat → Nat → Hp → Prop, (∃ m, W 0 m H0) ∧ ∀ i m H, W i m H →
      ((IteT K a).stop i H ∧ Qd H) ∨ ((IteT K a).go i H ∧ ∃ Nx : Hp → Prop, (∀ H', Nx H' → ∃ m', m' < m ∧ W (i + 1) m' H') ∧ ∀ x H', (IteT K a).yld i H x H' → body x H' Nx) := by
  refine ⟨fun i m H => m = xs.length - i ∧ i ≤ xs.length ∧ Pv i H, ⟨xs.length, by simp, Nat.zero_le _, h0⟩, ?_⟩
  rintro i m H ⟨rfl, hi, p⟩
  have q := hl i H hi p
  by_cases hlt : i < xs.length
  · refine .inr ⟨⟨xs, xs[i], q, by simp [hlt]⟩, Pv (i + 1), fun H' p' => ⟨xs.length - (i + 1), by omega, rfl, hlt, p'⟩, fun x H' y => ?_⟩
    obtain ⟨T, u, rfl, hT, rfl, y⟩ := y
    exact hs i u _ T (y xs q) p hT
  · have e : i = xs.length := by omega
    subst e
    exact .inl ⟨⟨xs, q, Nat.le_refl _⟩, hd H p⟩
/-- one walk over a tuple -/
theorem out_tup {K : PySem.W.Frag} {a : Addr} {xs : List V} {H0 : Hp} {Qd : Hp → Prop} {body : V → Hp → (Hp → Prop) → Prop} (Pv : Nat → Hp → Prop) (h0 : Pv 0 H0) (hl : ∀ i H, i ≤ xs.length → Pv i H → SqT K H a xs)
    (hs : ∀ i x H, xs[i]? = some x → Pv i H → body x H (Pv (i + 1))) (hd : ∀ H, Pv xs.length H → Qd H) :
    ∃ W : Nat → Nat → Hp → Prop, (∃ m, W 0 m H0) ∧ ∀ i m H, W i m H →
      ((Itt K a).stop i H ∧ Qd H) ∨ ((Itt K a).go i H ∧ ∃ Nx : Hp → Prop, (∀ H', Nx H' → ∃ m', m' < m ∧ W (i + 1) m' H') ∧ ∀ x H', (Itt K a).yld i H x H' → body x H' Nx) := by
  refine ⟨fun i m H => m = xs.length - i ∧ i ≤ xs.length ∧ Pv i H, ⟨xs.length, by simp, Nat.zero_le _, h0⟩, ?_⟩
  rintro i m H ⟨rfl, hi, p⟩
  have q := hl i H hi p
  by_cases hlt : i < xs.length
  · refine .inr ⟨⟨xs, xs[i], q, by simp [hlt]⟩, Pv (i + 1), fun H' p' => ⟨xs.length - (i + 1), by omega, rfl, hlt, p'⟩, fun x H' y => ?_⟩
    obtain ⟨rfl, y⟩ := y
    exact hs i x _ (y xs q) p
  · have e : i = xs.length := by omega
    subst e
    exact .inl ⟨⟨xs, q, Nat.le_refl _⟩, hd H p⟩
/-- how many pairs stand the other way round by rk -/
def cntLt (rk : Str → Nat) (a : Str) (l : List Str) : Nat := (l.filter fun b => decide (rk b < rk a)).length
def invsN (rk : Str → Nat) (xs : List Str) (n : Nat) : Nat := ((List.range n).map fun k => cntLt rk (xs.getD k default) (xs.drop (k + 1))).sum
def invs (rk : Str → Nat) (xs : List Str) : Nat := invsN rk xs xs.length
theorem invsN_succ (rk : Str → Nat) (xs : List Str) (n : Nat) : invsN rk xs (n + 1) = invsN rk xs n + cntLt rk (xs.getD n default) (xs.drop (n + 1)) := by
  unfold invsN
  rw [List.range_succ, List.map_append, List.sum_append]
  simp
theorem cntLt_le (rk : Str → Nat) (a : Str) (l : List Str) : cntLt rk a l ≤ l.length := List.length_filter_le _ _
theorem invsN_le (rk : Str → Nat) (xs : List Str) : ∀ n, invsN rk xs n ≤ n * xs.length
  | 0 => by simp [invsN]
  | n + 1 => by
    rw [invsN_succ, Nat.succ_mul]
    have := invsN_le rk xs n
    have h2 := cntLt_le rk (xs.getD n default) (xs.drop (n + 1))
    rw [List.length_drop] at h2
    omega
def prD (p : Str × Str) : PyData := .tuple [.str p.1, .str p.2]
theorem dpAll_snoc {K : PySem.W.Frag} {H : Hp} : ∀ {vs : List V} {ds : List PyData} {v : V} {d : PyData}, DpAll K H vs ds → Dp K H v d → DpAll K H (vs ++ [v]) (ds ++ [d])
  | _, _, _, _, .nil, h => .cons h .nil
  | _, _, _, _, .cons h t, h' => .cons h (dpAll_snoc t h')
theorem prs_alike (ps : List (Str × Str)) : AllAlike (ps.map prD) := AllAlike.of fun b b' => by
  unfold prD
  simp [PySem.W.alike, PySem.W.alikeAll]
theorem prs_sortable (ps : List (Str × Str)) : Sortable (ps.map prD) := Sortable.tuples fun b => ⟨_, _, rfl⟩
theorem prs_depth (ps : List (Str × Str)) : ∀ d ∈ ps.map prD, d.depth ≤ 60 := by
  intro d hd
  obtain ⟨p, _, rfl⟩ := List.mem_map.mp hd
  unfold prD
  simp [PyData.depth, PyData.depthAll]
def PrAt (H : Hp) (v : V) : Prop := ∃ (T : Addr) (p : Str × Str), v = .ref T ∧ H T = some (.tup [.str p.1, .str p.2])
def PrsAt (H : Hp) (D : Addr) (m : Nat) : Prop := ∃ acc : List V, H D = some (.lst acc) ∧ (∀ v ∈ acc, PrAt H v) ∧ acc.length = m
theorem rd_ne {H : Hp} {b D : Addr} {acc xs : List V} (hD : H D = some (.lst acc)) (h : Rd H b (.tup xs)) : b ≠ D := fun z => by
  subst z
  rcases h with h | ⟨o, h⟩
  · rw [hD] at h; cases h
  · rw [hD] at h; cases h
theorem PrAt.same {H H' : Hp} {v : V} (k : Same H H') (h : PrAt H v) : PrAt H' v := by
  obtain ⟨T, p, e, h⟩ := h
  exact ⟨T, p, e, k _ _ h⟩
theorem PrAt.mut {H : Hp} {v : V} {D : Addr} {acc acc' : List V} (hD : H D = some (.lst acc)) (h : PrAt H v) : PrAt (upd H D (.lst acc')) v := by
  obtain ⟨T, p, e, h⟩ := h
  refine ⟨T, p, e, ?_⟩
  rw [upd_ne (fun z => by rw [z, hD] at h; cases h)]
  exact h
theorem PrsAt.same {H H' : Hp} {D : Addr} {m : Nat} (k : Same H H') (h : PrsAt H D m) : PrsAt H' D m := by
  obtain ⟨acc, h1, h2, h3⟩ := h
  exact ⟨acc, k _ _ h1, fun v hv => (h2 v hv).same k, h3⟩
theorem PrsAt.snoc {H : Hp} {D T : Addr} {m : Nat} {a b : Str} (hT : H T = none) (hm : m ≤ 1000) (h : PrsAt H D m) : ∃ acc, upd H T (.tup [.str a, .str b]) D = some (.lst acc) ∧ acc.length < sizeLine ∧ PrsAt (upd (upd H T (.tup [.str a, .str b])) D (.lst (acc ++ [.ref T]))) D (m + 1) := by
  obtain ⟨acc, h1, h2, h3⟩ := h.same (same_new (o := .tup [.str a, .str b]) hT)
  refine ⟨acc, h1, small1000 (by omega), acc ++ [.ref T], upd_same, fun v hv => ?_, by rw [List.length_append, h3]; rfl⟩
  rcases List.mem_append.mp hv with z | z
  · exact (h2 v z).mut h1
  · rw [List.mem_singleton.mp z]
    exact PrAt.mut h1 ⟨T, (a, b), rfl, upd_same⟩
theorem prs_data {K : PySem.W.Frag} {H : Hp} : ∀ {acc : List V}, (∀ v ∈ acc, PrAt H v) → ∃ ps : List (Str × Str), DpAll K H acc (ps.map prD)
  | [], _ => ⟨[], .nil⟩
  | v :: acc, h => by
    obtain ⟨ps, hp⟩ := prs_data (K := K) fun u hu => h u (List.mem_cons_of_mem _ hu)
    obtain ⟨T, p, rfl, hT⟩ := h v List.mem_cons_self
    exact ⟨p :: ps, .cons (.tup (.inl (.inl hT)) (.cons (.str _) (.cons (.str _) .nil))) hp⟩
theorem prs_sorted {K : PySem.W.Frag} {H : Hp} {D : Addr} {m : Nat} {Q : VK} (h : PrsAt H D m) (k : ∀ b zs, H b = none → zs.length = m → Q (.ref b) (upd H b (.lst zs))) : rSortedD K [.ref D] H Q := by
  obtain ⟨acc, h1, h2, h3⟩ := h
  obtain ⟨ps, hp⟩ := prs_data (K := K) h2
  exact ⟨D, acc, ps.map prD, rfl, SqL.of h1, hp, prs_alike ps, prs_sortable ps, prs_depth ps, fun ys b hy _ hb => k b ys hb (by rw [hy.length_eq, h3])⟩
section
variable {P : Program} {w : World} {K : PySem.W.Frag} {mg : Str → Option Value} {base : Heap}
end
end Ah
set_option Elab.async false
set_option linter.all false
namespace Ah
/-! ### pairs: what follows of them -/
/-- a row of pairs leads from the one to the other -/
inductive Lead {α : Type} (ps : List (α × α)) : α → α → Prop
  | one {a b : α} : (a, b) ∈ ps → Lead ps a b
  | step {a b c : α} : Lead ps a b → (b, c) ∈ ps → Lead ps a c
section
variable {α : Type}
theorem Lead.trans {ps : List (α × α)} {a b c : α} (h : Lead ps a b) (k : Lead ps b c) : Lead ps a c := by
  induction k with
  | one m => exact .step h m
  | step _ m ih => exact .step ih m
theorem Lead.sub {ps qs : List (α × α)} {a b : α} (s : ∀ x y, (x, y) ∈ ps → Lead qs x y) (h : Lead ps a b) : Lead qs a b := by
  induction h with
  | one m => exact s _ _ m
  | step _ m ih => exact ih.trans (s _ _ m)
theorem Lead.left {ps : List (α × α)} {hs : List α} (s : ∀ x y, (x, y) ∈ ps → x ∈ hs ∧ y ∈ hs) {a b : α} (h : Lead ps a b) : a ∈ hs ∧ b ∈ hs := by
  induction h with
  | one m => exact s _ _ m
  | step _ m ih => exact ⟨ih.1, (s _ _ m).2⟩
/-- what is led to, if it is closed, is what stands there -/
theorem Lead.closed {ps : List (α × α)} (t : ∀ x y z, (x, y) ∈ ps → (y, z) ∈ ps → (x, z) ∈ ps) {a b : α} : Lead ps a b ↔ (a, b) ∈ ps := by
  refine ⟨fun h => ?_, .one⟩
  induction h with
  | one m => exact m
  | step _ m ih => exact t _ _ _ ih m
theorem Lead.same {ps qs : List (α × α)} (e : ∀ x y, (x, y) ∈ qs ↔ Lead ps x y) {a b : α} : Lead qs a b ↔ Lead ps a b := by
  rw [Lead.closed fun x y z h k => (e _ _).mpr (((e _ _).mp h).trans ((e _ _).mp k))]
  exact e a b
theorem Lead.congr {ps qs : List (α × α)} (e : ∀ p, p ∈ ps ↔ p ∈ qs) {a b : α} : Lead ps a b ↔ Lead qs a b :=
  ⟨Lead.sub fun _ _ h => .one ((e _).mp h), Lead.sub fun _ _ h => .one ((e _).mpr h)⟩
/-! one hand behind the other: all ways by it -/
def via (R : α → α → Prop) (b a c : α) : Prop := R a c ∨ (R a b ∧ R b c)
def vias (R : α → α → Prop) : List α → α → α → Prop
  | [] => R
  | b :: bs => vias (via R b) bs
theorem vias_snoc (R : α → α → Prop) : ∀ (bs : List α) (b : α), vias R (bs ++ [b]) = via (vias R bs) b := by
  intro bs
  induction bs generalizing R with
  | nil => intro b; rfl
  | cons c bs ih => intro b; exact ih (via R c) b
theorem vias_grows {R : α → α → Prop} : ∀ (bs : List α) {a c : α}, R a c → vias R bs a c := by
  intro bs
  induction bs generalizing R with
  | nil => exact fun h => h
  | cons b bs ih => exact fun h => ih (.inl h)
theorem via_thru {R : α → α → Prop} {b d : α} (t : ∀ a c, R a d → R d c → R a c) : ∀ a c, via R b a d → via R b d c → via R b a c := by
  intro a c h k
  rcases h with h | ⟨h1, h2⟩ <;> rcases k with k | ⟨k1, k2⟩
  · exact .inl (t a c h k)
  · exact .inr ⟨t a b h k1, k2⟩
  · exact .inr ⟨h1, t b c h2 k⟩
  · exact .inr ⟨h1, k2⟩
theorem via_self {R : α → α → Prop} {b : α} : ∀ a c, via R b a b → via R b b c → via R b a c := by
  intro a c h k
  have h' : R a b := by
    rcases h with h | h
    · exact h
    · exact h.1
  have k' : R b c := by
    rcases k with k | k
    · exact k
    · exact k.2
  exact .inr ⟨h', k'⟩
theorem vias_thru {R : α → α → Prop} : ∀ (bs : List α) (d : α), (d ∈ bs ∨ ∀ a c, R a d → R d c → R a c) → ∀ a c, vias R bs a d → vias R bs d c → vias R bs a c := by
  intro bs
  induction bs generalizing R with
  | nil =>
    intro d h
    rcases h with h | h
    · cases h
    · exact h
  | cons b bs ih =>
    intro d h
    rcases h with h | h
    · rcases List.mem_cons.mp h with h | h
      · subst h
        exact ih d (.inr via_self)
      · exact ih d (.inl h)
    · exact ih d (.inr (via_thru h))
theorem vias_lead {ps : List (α × α)} {R : α → α → Prop} : ∀ (bs : List α), (∀ a c, R a c → Lead ps a c) → ∀ {a c : α}, vias R bs a c → Lead ps a c := by
  intro bs
  induction bs generalizing R with
  | nil => exact fun h a c => h a c
  | cons b bs ih =>
    refine fun h => ih fun a c k => ?_
    rcases k with k | ⟨k1, k2⟩
    · exact h _ _ k
    · exact (h _ _ k1).trans (h _ _ k2)
/-- gone through all hands: just what follows -/
theorem vias_all {ps : List (α × α)} {hs : List α} (s : ∀ x y, (x, y) ∈ ps → x ∈ hs ∧ y ∈ hs) {a c : α} : vias (fun x y => (x, y) ∈ ps) hs a c ↔ Lead ps a c := by
  refine ⟨vias_lead hs fun _ _ h => .one h, fun h => ?_⟩
  induction h with
  | one m => exact vias_grows hs m
  | step _ m ih => exact vias_thru hs _ (.inl (s _ _ m).1) _ _ ih (vias_grows hs m)
end
section
variable {α : Type} [BEq α] [LawfulBEq α]
/-- pairs that a row keeps -/
def KeepR (row : List α) (ps : List (α × α)) : Prop := ∀ x y, (x, y) ∈ ps → x ∈ row ∧ y ∈ row ∧ row.idxOf x < row.idxOf y
theorem KeepR.lead {row : List α} {ps : List (α × α)} (k : KeepR row ps) {a b : α} (h : Lead ps a b) : a ∈ row ∧ b ∈ row ∧ row.idxOf a < row.idxOf b := by
  induction h with
  | one m => exact k _ _ m
  | step _ m ih =>
    obtain ⟨h1, h2, h3⟩ := k _ _ m
    exact ⟨ih.1, h2, Nat.lt_trans ih.2.2 h3⟩
theorem KeepR.irr {row : List α} {ps : List (α × α)} (k : KeepR row ps) {a : α} : ¬ Lead ps a a := fun h => Nat.lt_irrefl _ (k.lead h).2.2
theorem KeepR.of_lead {row : List α} {ps qs : List (α × α)} (k : KeepR row ps) (e : ∀ x y, (x, y) ∈ qs → Lead ps x y) : KeepR row qs := fun x y h => k.lead (e x y h)
/-! hands taken off: those with none of the rest ahead of them -/
def aheadOf (ps : List (α × α)) (left : List α) (b : α) : List α := left.filter fun a => ps.contains (a, b)
def peel (ps : List (α × α)) (left : List α) : List α := left.filter fun b => !(aheadOf ps left b).isEmpty
theorem least_of (f : α → Nat) : ∀ (l : List α), l ≠ [] → ∃ m ∈ l, ∀ x ∈ l, f m ≤ f x
  | [], h => absurd rfl h
  | [a], _ => ⟨a, List.mem_singleton.mpr rfl, fun x hx => by rw [List.mem_singleton.mp hx]; exact Nat.le_refl _⟩
  | a :: b :: l, _ => by
    obtain ⟨m, hm, h⟩ := least_of f (b :: l) (by simp)
    by_cases q : f a ≤ f m
    · refine ⟨a, List.mem_cons_self .., fun x hx => ?_⟩
      rcases List.mem_cons.mp hx with e | hx
      · rw [e]; exact Nat.le_refl _
      · exact Nat.le_trans q (h x hx)
    · refine ⟨m, List.mem_cons_of_mem _ hm, fun x hx => ?_⟩
      rcases List.mem_cons.mp hx with e | hx
      · rw [e]; exact Nat.le_of_lt (Nat.lt_of_not_le q)
      · exact h x hx
theorem peel_lt {row : List α} {ps : List (α × α)} (k : KeepR row ps) {left : List α} (h : left ≠ []) : (peel ps left).length < left.length := by
  obtain ⟨m, hm, hle⟩ := least_of (fun x => row.idxOf x) left h
  unfold peel
  rw [List.length_filter_lt_length_iff_exists]
  refine ⟨m, hm, ?_⟩
  have e : aheadOf ps left m = [] := by
    unfold aheadOf
    rw [List.filter_eq_nil_iff]
    intro a ha c
    have c' : (a, m) ∈ ps := List.contains_iff_mem.mp c
    exact Nat.not_lt.mpr (hle a ha) (k _ _ c').2.2
  rw [e]
  exact fun z => by cases z
theorem peels_le {row : List α} {ps : List (α × α)} (k : KeepR row ps) (left : List α) : ∀ n, (Nat.repeat (peel ps) n left).length ≤ left.length - n
  | 0 => Nat.le_refl _
  | n + 1 => by
    have ih := peels_le k left n
    show (peel ps (Nat.repeat (peel ps) n left)).length ≤ _
    by_cases q : Nat.repeat (peel ps) n left = []
    · rw [q]; exact Nat.zero_le _
    · have := peel_lt k q
      omega
theorem peels_nil {row : List α} {ps : List (α × α)} (k : KeepR row ps) (left : List α) : Nat.repeat (peel ps) left.length left = [] := by
  have := peels_le k left left.length
  exact List.eq_nil_of_length_eq_zero (by omega)
/-! going: what is led to from a hand -/
structure Goes (ps : List (α × α)) (first : α) (found : List α) (n : Nat) : Prop where
  nd : found.Nodup
  hd : first ∈ found
  snd : ∀ x ∈ found, x = first ∨ Lead ps first x
  cl : ∀ i f, i < n → found[i]? = some f → ∀ x, (f, x) ∈ ps → x ∈ found
  le : n ≤ found.length
theorem Goes.init (ps : List (α × α)) (first : α) : Goes ps first [first] 0 :=
  ⟨List.nodup_cons.mpr ⟨List.not_mem_nil, List.nodup_nil⟩, List.mem_singleton.mpr rfl, fun x hx => .inl (List.mem_singleton.mp hx), fun i f h => absurd h (Nat.not_lt_zero _), Nat.zero_le _⟩
theorem Goes.step {ps : List (α × α)} {first f : α} {found new : List α} {n : Nat} (g : Goes ps first found n) (hf : found[n]? = some f) (nd : new.Nodup) (h : ∀ x, x ∈ new ↔ (f, x) ∈ ps ∧ x ∉ found) : Goes ps first (found ++ new) (n + 1) := by
  have hn : n < found.length := by
    rw [List.getElem?_eq_some_iff] at hf
    exact hf.1
  have hfm : f ∈ found := List.mem_of_getElem? hf
  have lf : ∀ x, (f, x) ∈ ps → Lead ps first x := fun x m => by
    rcases g.snd f hfm with e | l
    · rw [← e]; exact .one m
    · exact l.step m
  refine ⟨?_, List.mem_append_left _ g.hd, fun x hx => ?_, fun i f' hi hf' x hx => ?_, ?_⟩
  · rw [List.nodup_append]
    exact ⟨g.nd, nd, fun a ha b hb e => ((h b).mp hb).2 (e ▸ ha)⟩
  · rcases List.mem_append.mp hx with hx | hx
    · exact g.snd x hx
    · exact .inr (lf x ((h x).mp hx).1)
  · rw [List.getElem?_append_left (by omega)] at hf'
    rcases Nat.lt_succ_iff_lt_or_eq.mp hi with q | q
    · exact List.mem_append_left _ (g.cl i f' q hf' x hx)
    · subst q
      rw [hf] at hf'
      obtain rfl := Option.some.inj hf'
      by_cases z : x ∈ found
      · exact List.mem_append_left _ z
      · exact List.mem_append_right _ ((h x).mpr ⟨hx, z⟩)
  · rw [List.length_append]; omega
theorem Goes.done {ps : List (α × α)} {first : α} {found : List α} {n : Nat} (g : Goes ps first found n) (h : found.length ≤ n) {last : α} : last ∈ found ↔ last = first ∨ Lead ps first last := by
  refine ⟨g.snd last, fun k => ?_⟩
  have step : ∀ f, f ∈ found → ∀ x, (f, x) ∈ ps → x ∈ found := fun f hf x hx => by
    obtain ⟨i, hi⟩ := List.mem_iff_getElem?.mp hf
    have : i < found.length := by
      rw [List.getElem?_eq_some_iff] at hi
      exact hi.1
    exact g.cl i f (by omega) hi x hx
  rcases k with e | l
  · rw [e]; exact g.hd
  · induction l with
    | one m => exact step _ g.hd _ m
    | step _ m ih => exact step _ ih _ m
theorem nodup_sub_le : ∀ {l m : List α}, l.Nodup → (∀ x ∈ l, x ∈ m) → l.length ≤ m.length
  | [], _, _, _ => Nat.zero_le _
  | a :: l, m, nd, h => by
    have ha : a ∈ m := h a (List.mem_cons_self ..)
    have nd' := List.nodup_cons.mp nd
    have ih := nodup_sub_le (l := l) (m := m.erase a) nd'.2 fun x hx => by
      have ne : x ≠ a := fun e => nd'.1 (e ▸ hx)
      exact (List.mem_erase_of_ne ne).mpr (h x (List.mem_cons_of_mem _ hx))
    rw [List.length_erase_of_mem ha] at ih
    have : 0 < m.length := List.length_pos_of_mem ha
    rw [List.length_cons]
    omega
theorem Goes.len {ps : List (α × α)} {first : α} {found hs : List α} {n : Nat} (g : Goes ps first found n) (s : ∀ x y, (x, y) ∈ ps → x ∈ hs ∧ y ∈ hs) (hf : first ∈ hs) : found.length ≤ hs.length :=
  nodup_sub_le g.nd fun x hx => by
    rcases g.snd x hx with e | l
    · rw [e]; exact hf
    · exact (l.left s).2
end
end Ah
set_option Elab.async false
set_option linter.all false
set_option maxRecDepth 100000
namespace Ah
open PySem PySem.Spec PyProof.Rows L2
open PySem.W (dataLt dataLe dataLt_pair dataLt_str alike)
/-! ### the order of pairs of texts -/
def sLt (x y : Str) : Prop := x.cps.toList < y.cps.toList
def pLt (p q : Str × Str) : Prop := sLt p.1 q.1 ∨ (p.1 = q.1 ∧ sLt p.2 q.2)
instance (x y : Str) : Decidable (sLt x y) := by unfold sLt; infer_instance
instance (p q : Str × Str) : Decidable (pLt p q) := by unfold pLt; infer_instance
theorem str_of_cps {x y : Str} (h : x.cps.toList = y.cps.toList) : x = y := by
  cases x
  cases y
  exact congrArg Str.mk (Array.toList_inj.mp h)
theorem sLt_irr (x : Str) : ¬ sLt x x := List.lt_irrefl _
theorem sLt_trans {x y z : Str} (h : sLt x y) (k : sLt y z) : sLt x z := List.lt_trans h k
theorem sLt_tri {x y : Str} (h : ¬ sLt x y) (k : ¬ sLt y x) : x = y := str_of_cps (List.le_antisymm (List.not_lt.mp k) (List.not_lt.mp h))
theorem pLt_irr (p : Str × Str) : ¬ pLt p p := fun h => by
  rcases h with h | h
  · exact sLt_irr _ h
  · exact sLt_irr _ h.2
theorem pLt_trans {p q r : Str × Str} (h : pLt p q) (k : pLt q r) : pLt p r := by
  rcases h with h | ⟨h1, h2⟩ <;> rcases k with k | ⟨k1, k2⟩
  · exact .inl (sLt_trans h k)
  · exact .inl (k1 ▸ h)
  · exact .inl (h1 ▸ k)
  · exact .inr ⟨h1.trans k1, sLt_trans h2 k2⟩
theorem pLt_tri {p q : Str × Str} (h : ¬ pLt p q) (k : ¬ pLt q p) : p = q := by
  have e1 : p.1 = q.1 := sLt_tri (fun z => h (.inl z)) (fun z => k (.inl z))
  have e2 : p.2 = q.2 := sLt_tri (fun z => h (.inr ⟨e1, z⟩)) (fun z => k (.inr ⟨e1.symm, z⟩))
  exact Prod.ext e1 e2
theorem eqv_str (x y : Str) : PyData.eqv (.str x) (.str y) = decide (x = y) := by
  have : PyData.eqv (.str x) (.str y) = (x == y) := by simp only [PyData.eqv]
  rw [this]
  by_cases e : x = y
  · rw [decide_eq_true e, e]; simp
  · rw [decide_eq_false e]; simp [e]
theorem dataLt_pr (p q : Str × Str) : dataLt (prD p) (prD q) = decide (pLt p q) := by
  unfold prD
  rw [dataLt_pair (by simp [alike]) (by simp [alike]), dataLt_str, dataLt_str, eqv_str, eqv_str]
  by_cases e : p.1 = q.1
  · rw [if_pos (decide_eq_true e)]
    by_cases e2 : p.2 = q.2
    · rw [if_pos (decide_eq_true e2)]
      symm
      rw [decide_eq_false_iff_not, show p = q from Prod.ext e e2]
      exact pLt_irr q
    · rw [if_neg (by rw [decide_eq_false e2]; exact Bool.false_ne_true)]
      by_cases z : sLt p.2 q.2
      · rw [decide_eq_true (show p.2.cps.toList < q.2.cps.toList from z), decide_eq_true (show pLt p q from .inr ⟨e, z⟩)]
      · rw [decide_eq_false (show ¬ p.2.cps.toList < q.2.cps.toList from z), decide_eq_false (show ¬ pLt p q from fun y => by
          rcases y with y | y
          · rw [e] at y; exact sLt_irr _ y
          · exact z y.2)]
  · rw [if_neg (by rw [decide_eq_false e]; exact Bool.false_ne_true)]
    by_cases z : sLt p.1 q.1
    · rw [decide_eq_true (show p.1.cps.toList < q.1.cps.toList from z), decide_eq_true (show pLt p q from .inl z)]
    · rw [decide_eq_false (show ¬ p.1.cps.toList < q.1.cps.toList from z), decide_eq_false (show ¬ pLt p q from fun y => by
        rcases y with y | y
        · exact z y
        · exact e y.1)]
theorem pLt_nodup {ds : List (Str × Str)} (h : ds.Pairwise pLt) : ds.Nodup := by
  unfold List.Nodup
  refine h.imp ?_
  intro a b h e
  subst e
  exact pLt_irr a h
/-- sorted: just the rising row of the same pairs -/
theorem sort_due {us ds : List (Str × Str)} (nd : us.Nodup) (e : ∀ p, p ∈ us ↔ p ∈ ds) (hp : ds.Pairwise pLt) : sortD (us.map prD) = ds.map prD := by
  unfold sortD
  have s1 := PySem.W.sort_maps (r := fun p q : Str × Str => !decide (pLt q p)) (s := dataLe false fun d : PyData => d) prD (l := us) (fun a _ b _ => by
    show (!decide (pLt b a)) = !dataLt (prD b) (prD a)
    rw [dataLt_pr])
  rw [← s1]
  congr 1
  have ndd : ds.Nodup := pLt_nodup hp
  refine List.Perm.eq_of_pairwise (le := fun p q => (!decide (pLt q p)) = true) (fun a b _ _ h k => ?_) ?_ ?_ ((List.mergeSort_perm _ _).trans ((List.perm_ext_iff_of_nodup nd ndd).mpr e))
  · have h' : ¬ pLt b a := by simpa using h
    have k' : ¬ pLt a b := by simpa using k
    exact pLt_tri k' h'
  · refine List.pairwise_mergeSort (fun a b c h k => ?_) (fun a b => ?_) us
    · have h' : ¬ pLt b a := by simpa using h
      have k' : ¬ pLt c b := by simpa using k
      have : ¬ pLt c a := fun z => by
        by_cases y : pLt a b
        · exact k' (pLt_trans z y)
        · have := pLt_tri h' y
          subst this
          exact k' z
      simpa using this
    · by_cases y : pLt b a
      · have : ¬ pLt a b := fun z => pLt_irr _ (pLt_trans y z)
        simp [this]
      · simp [y]
  · exact hp.imp fun {a b} h => by
      have : ¬ pLt b a := fun z => pLt_irr _ (pLt_trans h z)
      simp [this]
/-! the rising row of all pairs that stand so -/
def dueOf (R : Str → Str → Bool) (hs : List Str) : List (Str × Str) := hs.flatMap fun a => (hs.filter (R a)).map fun b => (a, b)
theorem dueOf_mem {R : Str → Str → Bool} {hs : List Str} {p : Str × Str} : p ∈ dueOf R hs ↔ p.1 ∈ hs ∧ p.2 ∈ hs ∧ R p.1 p.2 = true := by
  unfold dueOf
  rw [List.mem_flatMap]
  constructor
  · rintro ⟨a, ha, hp⟩
    obtain ⟨b, hb, rfl⟩ := List.mem_map.mp hp
    obtain ⟨h1, h2⟩ := List.mem_filter.mp hb
    exact ⟨ha, h1, h2⟩
  · rintro ⟨h1, h2, h3⟩
    exact ⟨p.1, h1, List.mem_map.mpr ⟨p.2, List.mem_filter.mpr ⟨h2, h3⟩, rfl⟩⟩
theorem dueOf_rises {R : Str → Str → Bool} {hs : List Str} (h : hs.Pairwise sLt) : (dueOf R hs).Pairwise pLt := by
  unfold dueOf
  rw [List.pairwise_flatMap]
  refine ⟨fun a _ => ?_, h.imp fun {a b} hab x hx y hy => ?_⟩
  · rw [List.pairwise_map]
    exact (h.filter _).imp fun {b c} hbc => .inr ⟨rfl, hbc⟩
  · obtain ⟨x2, _, rfl⟩ := List.mem_map.mp hx
    obtain ⟨y2, _, rfl⟩ := List.mem_map.mp hy
    exact .inl hab
theorem dueOf_len {R : Str → Str → Bool} {hs : List Str} : (dueOf R hs).length ≤ hs.length * hs.length := by
  have : ∀ l : List Str, (l.flatMap fun a => (hs.filter (R a)).map fun b => (a, b)).length ≤ l.length * hs.length := by
    intro l
    induction l with
    | nil => exact Nat.zero_le _
    | cons a l ih =>
      rw [List.flatMap_cons, List.length_append, List.length_map, List.length_cons, Nat.succ_mul]
      have := List.length_filter_le (R a) hs
      omega
  exact this hs
/-- texts in order, each once, rise -/
theorem rises_of_sorted : ∀ {ys : List Str}, sortedS ys = true → ys.Nodup → ys.Pairwise sLt := by
  have ltb : ∀ x y : Str, ltCps x.cps.toList y.cps.toList = true ↔ sLt x y := fun x y => by
    rw [← lt_meets]
    exact decide_eq_true_iff
  have rise : ∀ (l : List Str) (p : Str), risingS p l = true → (p :: l).Nodup → (p :: l).Pairwise sLt := by
    intro l
    induction l with
    | nil => exact fun p _ _ => List.pairwise_singleton _ _
    | cons x l ih =>
      intro p h nd
      have h' : (!ltCps x.cps.toList p.cps.toList && risingS x l) = true := h
      rw [Bool.and_eq_true] at h'
      have nd' := List.nodup_cons.mp nd
      have q := ih x h'.2 nd'.2
      have px : sLt p x := by
        by_cases z : sLt p x
        · exact z
        · refine absurd (sLt_tri z fun y => ?_) fun e => nd'.1 (e ▸ List.mem_cons_self ..)
          have := (ltb x p).mpr y
          rw [this] at h'
          exact Bool.noConfusion h'.1
      refine List.pairwise_cons.mpr ⟨fun y hy => ?_, q⟩
      rcases List.mem_cons.mp hy with e | hy
      · rw [e]; exact px
      · exact sLt_trans px ((List.pairwise_cons.mp q).1 y hy)
  intro ys h nd
  cases ys with
  | nil => exact List.Pairwise.nil
  | cons x l => exact rise l x h nd
end Ah
set_option Elab.async false
set_option linter.all false
set_option maxRecDepth 100000
namespace Ah
open PySem PySem.Spec PyProof.Rows L2
/-- what all hands were gone through for, sorted: just the rising row of what follows -/
theorem closed_due {R : Str → Str → Bool} {hs folk : List Str} {ps held : List (Str × Str)} (hr : ∀ x y, R x y = true ↔ Lead ps x y) (s : ∀ x y, (x, y) ∈ ps → x ∈ hs ∧ y ∈ hs) (pf : folk.Perm hs) (srt : hs.Pairwise sLt) (nd : held.Nodup) (e : ∀ a c, (a, c) ∈ held ↔ vias (fun x y => (x, y) ∈ ps) folk a c) :
    sortD (held.map prD) = (dueOf R hs).map prD := by
  refine sort_due nd (fun p => ?_) (dueOf_rises srt)
  have q : (p.1, p.2) ∈ held ↔ Lead ps p.1 p.2 := (e p.1 p.2).trans (vias_all fun x y z => ⟨pf.mem_iff.mpr (s x y z).1, pf.mem_iff.mpr (s x y z).2⟩)
  rw [dueOf_mem, hr]
  exact q.trans ⟨fun h => ⟨(h.left s).1, (h.left s).2, h⟩, fun h => h.2.2⟩
/-- one hand gone through: the pairs that it brings -/
theorem via_keys {R : Str → Str → Prop} {b : Str} {kl kl' : List (Str × Str)} (e : ∀ a c, (a, c) ∈ kl ↔ R a c) (h : ∀ a c, (a, c) ∈ kl' ↔ (a, c) ∈ kl ∨ ((a, b) ∈ kl ∧ (b, c) ∈ kl)) : ∀ a c, (a, c) ∈ kl' ↔ via R b a c := fun a c => by
  rw [h, e, e, e]
  exact Iff.rfl
/-- the row of what follows holds all that follows of it -/
theorem due_thru {R : Str → Str → Bool} {hs : List Str} {ps : List (Str × Str)} (hr : ∀ x y, R x y = true ↔ Lead ps x y) : ∀ x y z, (x, y) ∈ dueOf R hs → (y, z) ∈ dueOf R hs → (x, z) ∈ dueOf R hs := fun x y z h k => by
  obtain ⟨h1, h2, h3⟩ := dueOf_mem.mp h
  obtain ⟨k1, k2, k3⟩ := dueOf_mem.mp k
  exact dueOf_mem.mpr ⟨h1, k2, (hr _ _).mpr (((hr _ _).mp h3).trans ((hr _ _).mp k3))⟩
/-- closed again it is the same: what follows of the due row is the due row -/
theorem due_again {R : Str → Str → Bool} {hs : List Str} {ps qs : List (Str × Str)} (hr : ∀ x y, R x y = true ↔ Lead ps x y) (s : ∀ x y, (x, y) ∈ ps → x ∈ hs ∧ y ∈ hs) (e : ∀ p, p ∈ qs ↔ p ∈ dueOf R hs) {x y : Str} : Lead qs x y ↔ Lead ps x y := by
  rw [Lead.congr e, Lead.closed (due_thru hr), dueOf_mem, hr]
  exact ⟨fun h => h.2.2, fun h => ⟨(h.left s).1, (h.left s).2, h⟩⟩
/-- no pair of one hand follows where a row keeps all pairs -/
theorem due_irr {R : Str → Str → Bool} {hs row : List Str} {ps : List (Str × Str)} (hr : ∀ x y, R x y = true ↔ Lead ps x y) (k : KeepR row ps) {x y : Str} (h : (x, y) ∈ dueOf R hs) : x ≠ y := fun e => by
  subst e
  exact k.irr ((hr _ _).mp (dueOf_mem.mp h).2.2)
end Ah
set_option Elab.async false
set_option linter.all false
set_option maxRecDepth 100000
namespace Ah
section
variable {α : Type} [BEq α] [LawfulBEq α]
theorem peel_eq_of_len {ps : List (α × α)} {l : List α} (h : (peel ps l).length = l.length) : peel ps l = l := (List.filter_sublist).eq_of_length h
theorem peels_or (ps : List (α × α)) (l : List α) : ∀ n, (Nat.repeat (peel ps) n l).length + n ≤ l.length ∨ peel ps (Nat.repeat (peel ps) n l) = Nat.repeat (peel ps) n l
  | 0 => .inl (Nat.le_refl _)
  | n + 1 => by
    show (peel ps (Nat.repeat (peel ps) n l)).length + (n + 1) ≤ l.length ∨ peel ps (peel ps (Nat.repeat (peel ps) n l)) = peel ps (Nat.repeat (peel ps) n l)
    rcases peels_or ps l n with h | h
    · have le : (peel ps (Nat.repeat (peel ps) n l)).length ≤ (Nat.repeat (peel ps) n l).length := List.length_filter_le _ _
      by_cases e : (peel ps (Nat.repeat (peel ps) n l)).length = (Nat.repeat (peel ps) n l).length
      · have q := peel_eq_of_len e
        right
        rw [q, q]
      · left
        omega
    · right
      rw [h, h]
/-- gone through as often as there are hands: nothing more is taken off -/
theorem peels_stand (ps : List (α × α)) (l : List α) : peel ps (Nat.repeat (peel ps) l.length l) = Nat.repeat (peel ps) l.length l := by
  rcases peels_or ps l l.length with h | h
  · have : Nat.repeat (peel ps) l.length l = [] := List.eq_nil_of_length_eq_zero (by omega)
    rw [this]
    rfl
  · exact h
theorem ahead_some {ps : List (α × α)} {l : List α} (h : peel ps l = l) {b : α} (hb : b ∈ l) : aheadOf ps l b ≠ [] := by
  rw [← h] at hb
  have := (List.mem_filter.mp hb).2
  intro e
  rw [e] at this
  cases this
theorem ahead_mem {ps : List (α × α)} {l : List α} {a b : α} (h : a ∈ aheadOf ps l b) : a ∈ l ∧ (a, b) ∈ ps :=
  ⟨(List.mem_filter.mp h).1, List.contains_iff_mem.mp (List.mem_filter.mp h).2⟩
/-- all taken off: nowhere have all one ahead among themselves -/
theorem peels_none {ps : List (α × α)} {l : List α} {C : α → Prop} (sub : ∀ x, C x → x ∈ l) (pred : ∀ x, C x → ∃ y, C y ∧ (y, x) ∈ ps) : ∀ n x, C x → x ∈ Nat.repeat (peel ps) n l
  | 0 => sub
  | n + 1 => fun x hx => by
    obtain ⟨y, hy, m⟩ := pred x hx
    show x ∈ peel ps (Nat.repeat (peel ps) n l)
    refine List.mem_filter.mpr ⟨peels_none sub pred n x hx, ?_⟩
    have : y ∈ aheadOf ps (Nat.repeat (peel ps) n l) x := List.mem_filter.mpr ⟨peels_none sub pred n y hy, List.contains_iff_mem.mpr m⟩
    cases e : aheadOf ps (Nat.repeat (peel ps) n l) x with
    | nil => rw [e] at this; cases this
    | cons => rfl
theorem peels_irr {ps : List (α × α)} {l : List α} {n : Nat} (s : ∀ x y, (x, y) ∈ ps → x ∈ l ∧ y ∈ l) (e : Nat.repeat (peel ps) n l = []) (a : α) : ¬ Lead ps a a := fun h => by
  have := peels_none (C := fun x => Lead ps a x ∧ Lead ps x a) (fun x hx => (hx.1.left s).2) (fun x hx => by
    obtain ⟨h1, h2⟩ := hx
    cases h1 with
    | one m => exact ⟨a, ⟨h, h⟩, m⟩
    | step k m => exact ⟨_, ⟨k, (Lead.one m).trans h2⟩, m⟩) n a ⟨h, h⟩
  rw [e] at this
  cases this
/-! laying a row -/
structure Laid (ps : List (α × α)) (row : List α) : Prop where
  nd : row.Nodup
  keep : ∀ x y, (x, y) ∈ ps → y ∈ row → x ∈ row ∧ row.idxOf x < row.idxOf y
theorem Laid.nil {ps : List (α × α)} : Laid ps ([] : List α) := ⟨List.nodup_nil, fun _ _ _ h => by cases h⟩
theorem Laid.snoc {ps : List (α × α)} {row : List α} {f : α} (h : Laid ps row) (nf : f ∉ row) (pre : ∀ x, (x, f) ∈ ps → x ∈ row) : Laid ps (row ++ [f]) := by
  refine ⟨?_, fun x y m hy => ?_⟩
  · rw [List.nodup_append]
    exact ⟨h.nd, List.nodup_cons.mpr ⟨List.not_mem_nil, List.nodup_nil⟩, fun a ha b hb e => nf (by rw [← List.mem_singleton.mp hb, ← e]; exact ha)⟩
  · rcases List.mem_append.mp hy with hy | hy
    · obtain ⟨h1, h2⟩ := h.keep x y m hy
      refine ⟨List.mem_append_left _ h1, ?_⟩
      rw [List.idxOf_append, if_pos h1, List.idxOf_append, if_pos hy]
      exact h2
    · obtain rfl := List.mem_singleton.mp hy
      have h1 := pre x m
      refine ⟨List.mem_append_left _ h1, ?_⟩
      rw [List.idxOf_append, if_pos h1, List.idxOf_append, if_neg nf]
      exact Nat.lt_of_lt_of_le (List.idxOf_lt_length_of_mem h1) (Nat.le_add_left _ _)
/-- one can come next as long as there are others -/
theorem laid_next {ps : List (α × α)} {hs l row : List α} {n : Nat} (pl : hs.Perm l) (s : ∀ x y, (x, y) ∈ ps → x ∈ l ∧ y ∈ l) (e : Nat.repeat (peel ps) n l = []) (h : ∃ x ∈ hs, x ∉ row) : ∃ f ∈ hs, f ∉ row ∧ ∀ x, (x, f) ∈ ps → x ∈ row := by
  obtain ⟨x0, h0, n0⟩ := h
  by_cases q : ∃ f ∈ hs, f ∉ row ∧ ∀ x, (x, f) ∈ ps → x ∈ row
  · exact q
  · have := peels_none (ps := ps) (l := l) (C := fun x => x ∈ hs ∧ x ∉ row) (fun x hx => pl.mem_iff.mp hx.1) (fun x hx => by
      by_cases z : ∃ y, (y ∈ hs ∧ y ∉ row) ∧ (y, x) ∈ ps
      · exact z
      · refine absurd ⟨x, hx.1, hx.2, fun y m => ?_⟩ q
        by_cases w : y ∈ row
        · exact w
        · exact absurd ⟨y, ⟨pl.mem_iff.mpr (s y x m).1, w⟩, m⟩ z) n x0 ⟨h0, n0⟩
    rw [e] at this
    cases this
theorem Laid.keepR {ps : List (α × α)} {row : List α} (h : Laid ps row) (s : ∀ x y, (x, y) ∈ ps → y ∈ row) : KeepR row ps := fun x y m =>
  have q := h.keep x y m (s x y m)
  ⟨q.1, s x y m, q.2⟩
/-! going round -/
structure Walked (ps : List (α × α)) (left w : List α) : Prop where
  nd : w.Nodup
  sub : ∀ x ∈ w, x ∈ left
  chain : ∀ i a b, w[i]? = some a → w[i + 1]? = some b → (b, a) ∈ ps
theorem Walked.one {ps : List (α × α)} {left : List α} {a : α} (h : a ∈ left) : Walked ps left [a] :=
  ⟨List.nodup_cons.mpr ⟨List.not_mem_nil, List.nodup_nil⟩, fun x hx => by rw [List.mem_singleton.mp hx]; exact h, fun i a b _ h => by simp at h⟩
theorem Walked.snoc {ps : List (α × α)} {left w : List α} {l e : α} (h : Walked ps left w) (hl : w[w.length - 1]? = some l) (he : e ∈ left) (ne : e ∉ w) (m : (e, l) ∈ ps) : Walked ps left (w ++ [e]) := by
  have hlen : w.length - 1 < w.length := (List.getElem?_eq_some_iff.mp hl).1
  refine ⟨?_, fun x hx => ?_, fun i a b ha hb => ?_⟩
  · rw [List.nodup_append]
    exact ⟨h.nd, List.nodup_cons.mpr ⟨List.not_mem_nil, List.nodup_nil⟩, fun a ha b hb q => ne (by rw [← List.mem_singleton.mp hb, ← q]; exact ha)⟩
  · rcases List.mem_append.mp hx with hx | hx
    · exact h.sub x hx
    · rw [List.mem_singleton.mp hx]; exact he
  · by_cases q : i + 1 < w.length
    · rw [List.getElem?_append_left (by omega)] at ha
      rw [List.getElem?_append_left q] at hb
      exact h.chain i a b ha hb
    · have hb' := (List.getElem?_eq_some_iff.mp hb).1
      rw [List.length_append, List.length_singleton] at hb'
      have ei : i = w.length - 1 := by omega
      subst ei
      rw [List.getElem?_append_left hlen, hl] at ha
      rw [show w.length - 1 + 1 = w.length by omega, List.getElem?_append_right (Nat.le_refl _), Nat.sub_self] at hb
      cases ha
      cases hb
      exact m
structure Circ (ps : List (α × α)) (cs : List α) : Prop where
  two : 2 ≤ cs.length
  nd : cs.Nodup
  next : ∀ k a b, cs[k]? = some a → cs[(k + 1) % cs.length]? = some b → (a, b) ∈ ps
theorem Walked.circ {ps : List (α × α)} {left w : List α} {l e : α} {j : Nat} (h : Walked ps left w) (hl : w[w.length - 1]? = some l) (m : (e, l) ∈ ps) (hj : w[j]? = some e) (irr : ∀ x, (x, x) ∉ ps) : Circ ps (w.drop j).reverse := by
  have hjl : j < w.length := (List.getElem?_eq_some_iff.mp hj).1
  have len : (w.drop j).reverse.length = w.length - j := by rw [List.length_reverse, List.length_drop]
  have at' : ∀ k, k < w.length - j → (w.drop j).reverse[k]? = w[w.length - 1 - k]? := fun k hk => by
    rw [List.getElem?_reverse (by rw [List.length_drop]; exact hk), List.length_drop, List.getElem?_drop]
    congr 1
    omega
  have two : 2 ≤ w.length - j := by
    by_cases q : j = w.length - 1
    · subst q
      rw [hl] at hj
      cases hj
      exact absurd m (irr _)
    · omega
  refine ⟨by rw [len]; exact two, (List.reverse_perm _).nodup_iff.mpr (h.nd.sublist (List.drop_sublist _ _)), fun k a b ha hb => ?_⟩
  have hk : k < w.length - j := by
    have := (List.getElem?_eq_some_iff.mp ha).1
    rwa [len] at this
  rw [len] at hb
  rw [at' k hk] at ha
  by_cases q : k + 1 < w.length - j
  · rw [Nat.mod_eq_of_lt q, at' _ q] at hb
    refine h.chain (w.length - 1 - (k + 1)) b a hb ?_
    rw [← ha]
    congr 1
    omega
  · have ek : k + 1 = w.length - j := by omega
    rw [ek, Nat.mod_self, at' 0 (by omega)] at hb
    rw [show w.length - 1 - k = j by omega, hj] at ha
    rw [show w.length - 1 - 0 = w.length - 1 by omega, hl] at hb
    cases ha
    cases hb
    exact m
end
end Ah
set_option Elab.async false
set_option linter.all false
set_option maxRecDepth 100000
set_option maxHeartbeats 4000000
namespace Ah
open PySem PySem.Spec PyProof.Rows L2
/-! ### pairs of texts on the heap -/
def PrV (H : Hp) (v : V) (p : Str × Str) : Prop := ∃ T : Addr, v = .ref T ∧ H T = some (.tup [.str p.1, .str p.2])
def PrsV (H : Hp) : List V → List (Str × Str) → Prop
  | [], [] => True
  | v :: vs, p :: ps => PrV H v p ∧ PrsV H vs ps
  | _, _ => False
theorem PrV.same {H H' : Hp} {v : V} {p : Str × Str} (k : Same H H') (h : PrV H v p) : PrV H' v p := by
  obtain ⟨T, e, h⟩ := h
  exact ⟨T, e, k _ _ h⟩
theorem PrV.kp {p0 : Addr} {H H' : Hp} (k : Kp p0 H H') {kvs : List (Key × V)} (hp : H p0 = some (.dK kvs)) {v : V} {p : Str × Str} (h : PrV H v p) : PrV H' v p := by
  obtain ⟨T, e, h⟩ := h
  refine ⟨T, e, k _ _ (fun z => ?_) h⟩
  rw [z, hp] at h
  cases h
theorem PrV.mut {H : Hp} {D : Addr} {a b : List V} (hD : H D = some (.lst a)) {v : V} {p : Str × Str} (h : PrV H v p) : PrV (upd H D (.lst b)) v p := by
  obtain ⟨T, e, h⟩ := h
  refine ⟨T, e, (upd_ne fun z => ?_).trans h⟩
  rw [z, hD] at h
  cases h
theorem PrsV.imp {H H' : Hp} (f : ∀ v p, PrV H v p → PrV H' v p) : ∀ {vs : List V} {ps : List (Str × Str)}, PrsV H vs ps → PrsV H' vs ps
  | [], [], _ => trivial
  | v :: vs, p :: ps, ⟨h, t⟩ => ⟨f v p h, PrsV.imp f t⟩
  | [], _ :: _, h => h.elim
  | _ :: _, [], h => h.elim
theorem PrsV.same {H H' : Hp} {vs : List V} {ps : List (Str × Str)} (k : Same H H') (h : PrsV H vs ps) : PrsV H' vs ps := h.imp fun _ _ => PrV.same k
theorem PrsV.kp {p0 : Addr} {H H' : Hp} (k : Kp p0 H H') {kvs : List (Key × V)} (hp : H p0 = some (.dK kvs)) {vs : List V} {ps : List (Str × Str)} (h : PrsV H vs ps) : PrsV H' vs ps := h.imp fun _ _ => PrV.kp k hp
theorem PrsV.mut {H : Hp} {D : Addr} {a b : List V} (hD : H D = some (.lst a)) {vs : List V} {ps : List (Str × Str)} (h : PrsV H vs ps) : PrsV (upd H D (.lst b)) vs ps := h.imp fun _ _ => PrV.mut hD
theorem PrsV.len {H : Hp} : ∀ {vs : List V} {ps : List (Str × Str)}, PrsV H vs ps → vs.length = ps.length
  | [], [], _ => rfl
  | _ :: _, _ :: _, ⟨_, t⟩ => by rw [List.length_cons, List.length_cons, t.len]
  | [], _ :: _, h => h.elim
  | _ :: _, [], h => h.elim
theorem PrsV.append {H : Hp} : ∀ {vs ws : List V} {ps qs : List (Str × Str)}, PrsV H vs ps → PrsV H ws qs → PrsV H (vs ++ ws) (ps ++ qs)
  | [], _, [], _, _, k => k
  | _ :: _, _, _ :: _, _, ⟨h, t⟩, k => ⟨h, t.append k⟩
  | [], _, _ :: _, _, h, _ => h.elim
  | _ :: _, _, [], _, h, _ => h.elim
theorem PrsV.get {H : Hp} : ∀ {vs : List V} {ps : List (Str × Str)} {i : Nat} {v : V}, PrsV H vs ps → vs[i]? = some v → ∃ p, ps[i]? = some p ∧ PrV H v p
  | [], [], _, _, _, e => by cases e
  | v :: vs, p :: ps, 0, _, ⟨h, _⟩, e => ⟨p, rfl, Option.some.inj e ▸ h⟩
  | v :: vs, p :: ps, i + 1, _, ⟨_, t⟩, e => by
    obtain ⟨q, e1, h1⟩ := t.get (i := i) e
    exact ⟨q, e1, h1⟩
  | [], _ :: _, _, _, h, _ => h.elim
  | _ :: _, [], _, _, h, _ => h.elim
theorem PrsV.perm {H : Hp} {vs ws : List V} (pm : ws.Perm vs) : ∀ {ps : List (Str × Str)}, PrsV H vs ps → ∃ qs : List (Str × Str), qs.Perm ps ∧ PrsV H ws qs := by
  induction pm with
  | nil =>
    intro ps h
    exact ⟨ps, .refl _, h⟩
  | cons x _ ih =>
    intro ps h
    match ps, h with
    | p :: ps, ⟨h, t⟩ =>
      obtain ⟨qs, p1, h1⟩ := ih t
      exact ⟨p :: qs, p1.cons p, h, h1⟩
  | swap x y l =>
    intro ps h
    match ps, h with
    | p :: q :: ps, ⟨h1, h2, t⟩ => exact ⟨q :: p :: ps, List.Perm.swap .., h2, h1, t⟩
  | trans _ _ ih1 ih2 =>
    intro ps h
    obtain ⟨qs, p1, h1⟩ := ih2 h
    obtain ⟨rs, p2, h2⟩ := ih1 h1
    exact ⟨rs, p2.trans p1, h2⟩
theorem PrsV.dp {K : PySem.W.Frag} {H : Hp} : ∀ {vs : List V} {ps : List (Str × Str)}, PrsV H vs ps → DpAll K H vs (ps.map prD)
  | [], [], _ => .nil
  | _ :: _, p :: _, ⟨⟨T, e, h⟩, t⟩ => by
    subst e
    exact .cons (.tup (.inl (.inl h)) (.cons (.str _) (.cons (.str _) .nil))) t.dp
  | [], _ :: _, h => h.elim
  | _ :: _, [], h => h.elim
theorem shp_pr {p : Str × Str} (h1 : PyData.strOk p.1 = true) (h2 : PyData.strOk p.2 = true) : Shp (prD p) := by
  refine ⟨?_, ?_⟩
  · simp [prD, PyData.canLay0, PyData.canLayAll0, h1, h2]
  · simp [prD, PyData.depth, PyData.depthAll]
end Ah
set_option Elab.async false
set_option linter.all false
set_option maxRecDepth 100000
set_option maxHeartbeats 4000000
namespace Ah
open PySem PySem.Spec PyProof.Rows L2
abbrev sListed : Stmt := topS 23
/-! a list or a tuple of what is drawn -/
theorem lk_kp {p a : Addr} {o : HO} {H H' : Hp} (k : Kp p H H') {kvs : List (Key × V)} (hp : H p = some (.dK kvs)) (hu : ∀ kvs, o ≠ .dK kvs) (h : H a = some o) : H' a = some o := by
  refine k a _ (fun e => ?_) h
  rw [e, hp] at h
  exact hu _ (Option.some.inj h).symm
section
variable {P : Program} {w : World} {K : PySem.W.Frag} {mg : Str → Option Value} {base : Heap}
theorem scListed : FnScope ["pen", "hands", "found"] ["pen", "hands"] (defScope sListed) := ⟨rfl, rfl, rfl, by decide +kernel, rfl, by decide +kernel, by decide +kernel⟩
def spListed : Sp := fun vs H Q _ => ∃ (p c a : Addr) (xs : List Str) (n : Nat), vs = [.ref p, .ref a] ∧ H a = some (.lst (xs.map V.str)) ∧ (∀ x ∈ xs, IsHand x) ∧ xs.length ≤ 60 ∧ PenAt H p c n ∧ n + 100 < 1000000 ∧
  ∀ (b : Addr) (ys : List Str) (H' : Hp), ys.Perm xs → LTu H' b (ys.map V.str) → PenAt H' p c (n + xs.length + 1) → Kp p H H' → Q (.ref b) H'
theorem ok_listed {f f1 f2 : Addr} {fd fd1 fd2 : FuncData} (F : Fun K "_law_listed" "_law_listed" sListed f fd) (B : Blt2 mg) (D : Df P w K mg base CX0 "_law_draw" 1 f1 fd1 ["pen", "many"] spDraw) (D2 : Df P w K mg base CX0 "_law_shuffled" 2 f2 fd2 ["pen", "some"] (spShuf K)) :
    FnOk P w K mg base CX0 3 f fd ["pen", "hands"] spListed := by
  refine F.ok scListed (fun vs H Q E h => ?_) (fun cdv A outer s H vs Q E hr h => ?_)
  · obtain ⟨p, c, a, xs, n, rfl, _⟩ := h
    rfl
  · obtain ⟨p, c, a, xs, n, rfl, ha, hh, hl, hp, hn, k⟩ := h
    have nd := scListed.nd
    have hr1 : Room 1 _ := hr.mono (by decide)
    refine ⟨_, pss_cons (ps_set (i := 2) nd rfl (.inl rfl) (pe_call D2.ok hr rfl D2.g D2.kp D2.b .nil pass0 (pa_cons (pv 0) (pa_cons (pv 1) pa_nil))))
      (pss_one (ps_ret (pe_ix ix_list (pe_lst (pa_cons (pv 2) (pa_cons (pe_callTy call_tuple_ofF (by rfl) B.tuple (by decide +kernel) (pa_cons (pv 2) pa_nil)) pa_nil))) (pe_call D.ok hr1 rfl D.g D.kp D.b .nil pass0 (pa_cons (pv 0) (pa_cons pe_int pa_nil))) (fun _ _ => rfl)))), ?_⟩
    refine ⟨_, rfl, _, rfl, p, c, a, xs.map V.str, xs.map PyData.str, n, rfl, .inl (SqL.of ha), dp_strs xs, fun d hd => ?_, ?_, hp, ?_, fun q zs H1 pz hq eq hp1 kp1 => ?_⟩
    · obtain ⟨y, z, rfl⟩ := List.mem_map.mp hd
      exact shp_str (hh y z).ok
    · rw [List.length_map]
      omega
    · rw [List.length_map]
      omega
    obtain ⟨ws, pw, rfl⟩ := perm_map_inv pz rfl
    rw [List.length_map] at hp1
    refine ⟨_, rfl, _, rfl, q, ws.map V.str, rfl, SqL.of eq, newF fun b H2 s2 f2 => ?_⟩
    refine ⟨by show 2 ≤ sizeLine; decide, fun L hL => ?_⟩
    have sL : Same H2 (upd H2 L (.lst [.ref q, .ref b])) := same_new hL
    obtain ⟨kvs, hk⟩ := hp1.dk
    have hp2 := (hp1.keep s2).keep sL
    refine ⟨_, rfl, p, c, 2, _, rfl, hp2, by omega, by decide, by decide, fun d H3 d0 d2 hp3 kp3 => ?_⟩
    obtain ⟨kvs3, hk3⟩ := hp2.dk
    have e3 : H3 L = some (.lst [.ref q, .ref b]) := lk_kp kp3 hk3 (fun _ z => by cases z) upd_same
    have q3 : H3 q = some (.lst (ws.map V.str)) := lk_kp kp3 hk3 (fun _ z => by cases z) (sL _ _ (s2 _ _ eq))
    have b3 : Ftp H3 b (ws.map V.str) := ftp_kp kp3 hk3 (f2.same sL)
    have kp4 : Kp p H H3 := (kp1.trans (Kp.same (s2.trans sL))).trans kp3
    obtain ⟨j, rfl⟩ : ∃ j : Nat, d = j := ⟨d.toNat, by omega⟩
    have hj : j = 0 ∨ j = 1 := by omega
    rcases hj with rfl | rfl
    · exact ⟨L, _, _, .ref q, rfl, rfl, SqL.of e3, atI_nat rfl, k q ws H3 pw (.inl q3) hp3 kp4⟩
    · exact ⟨L, _, _, .ref b, rfl, rfl, SqL.of e3, atI_nat rfl, k b ws H3 pw (.inr b3.rd) hp3 kp4⟩
end
end Ah
set_option Elab.async false
set_option linter.all false
set_option maxRecDepth 100000
set_option maxHeartbeats 4000000
namespace Ah
open PySem PySem.Spec PyProof.Rows L2
abbrev sPairsRow : Stmt := topS 24
theorem kp_none {p a : Addr} {H H' : Hp} (k : Kp p H H') {o : HO} (hp : H' p = some o) (h : H' a = none) : H a = none := by
  cases e : H a with
  | none => rfl
  | some x =>
    have := k a x (fun z => by rw [z, hp] at h; cases h) e
    rw [h] at this
    cases this
/-- pairs of which a row has the first ahead of the second -/
def PrsOf (xs : List Str) (ps : List (Str × Str)) : Prop := ∀ x y, (x, y) ∈ ps → ∃ i j : Nat, i < j ∧ xs[i]? = some x ∧ xs[j]? = some y
section
variable {P : Program} {w : World} {K : PySem.W.Frag} {mg : Str → Option Value} {base : Heap}
theorem scPairsRow : FnScope ["pen", "row", "part", "found", "k", "hand"] ["pen", "row"] (defScope sPairsRow) := ⟨rfl, rfl, rfl, by decide +kernel, rfl, by decide +kernel, by decide +kernel⟩
def spPairsRow : Sp := fun vs H Q _ => ∃ (p c r : Addr) (xs : List Str) (n : Nat), vs = [.ref p, .ref r] ∧ Rd H r (.tup (xs.map V.str)) ∧ xs.length ≤ 8 ∧ PenAt H p c n ∧ n + 200 < 1000000 ∧
  ∀ (b : Addr) (us : List V) (ps : List (Str × Str)) (H' : Hp), H' b = some (.lst us) → PrsV H' us ps → PrsOf xs ps → ps.length ≤ 7 * xs.length → PenAt H' p c (n + 100) → Kp p H H' → Q (.ref b) H'
theorem ok_pairsRow {f f1 f2 : Addr} {fd fd1 fd2 : FuncData} (F : Fun K "_law_pairs_of_row" "_law_pairs_of_row" sPairsRow f fd) (B : Blt2 mg) (D : Df P w K mg base CX0 "_law_draw" 1 f1 fd1 ["pen", "many"] spDraw) (D2 : Df P w K mg base CX0 "_law_pick" 2 f2 fd2 ["pen", "some"] (spPick K)) :
    FnOk P w K mg base CX0 3 f fd ["pen", "row"] spPairsRow := by
  refine F.ok scPairsRow (fun vs H Q E h => ?_) (fun cdv A outer s H vs Q E hr h => ?_)
  · obtain ⟨p, c, r, xs, n, rfl, _⟩ := h
    rfl
  · obtain ⟨p, c, r, xs, n, rfl, hx, hl, hp, hn, k⟩ := h
    have nd := scPairsRow.nd
    have hr1 : Room 1 _ := hr.mono (by decide)
    refine ⟨_, pss_cons (ps_asg (pe_tup (pa_cons (pe_call D2.ok hr rfl D2.g D2.kp D2.b .nil pass0 (pa_cons (pv 0) (pa_cons (pe_lst (pa_cons pe_int (pa_cons pe_int (pa_cons pe_int (pa_cons pe_int (pa_cons pe_int pa_nil)))))) pa_nil))) (pa_cons (pe_lst pa_nil) pa_nil)))
        (pg_tup rfl (pgs_cons (pg_name (i := 2) nd rfl (.inr rfl)) (pgs_cons (pg_name (i := 3) nd rfl (.inl rfl)) pgs_nil))))
      (pss_cons (ps_for PassesOwn.never rfl (pi_range1 rfl B.range (pa_cons (pe_callB call_len_seq (by rfl) B.len PySem.boot_len (pa_cons (pv 1) pa_nil)) pa_nil)) (pg_name (i := 4) nd rfl (.inr rfl))
        (pss_one (ps_expr (pe_bm PySem.F.plainAttrs_list PySem.F.slot_list_extend PySem.F.type_list_extend mt_extend (pv 3) (pa_cons (pe_lc (own := [("hand", 5)]) (g := gName 5) (tt := tTest (tOp rEq (tCall spDraw [] E0 (tCons (tVar 0) (tCons (tVar 2) tNil))) (tC (.int 0)))) rfl nd (pi_tup (pe_slice sl_tupA (pv 1) (po_some (pe_op op_add (pv 4) pe_int)) po_none))
          (blkOk_by (N := ["pen", "row", "part", "found", "k", "hand"]) (sc := defScope sPairsRow) (by decide +kernel)) (fun _ _ _ _ _ => pg_name (i := 5) nd rfl (Or.inl rfl))
          (fun _ _ _ _ _ => pts_one (pt_cmpR op_eq (pe_call D.ok hr1 rfl D.g D.kp D.b .nil pass0 (pa_cons (pv 0) (pa_cons (pv 2) pa_nil))) pe_int (nomark _)))
          (fun _ _ _ _ _ => pe_tup (pa_cons (pe_ix (r := rIxT K) ix_tup (pv 1) (pv 4) (fun _ _ => rfl)) (pa_cons (pv 5) pa_nil)))) pa_nil)))))
      (pss_one (ps_ret (pv 3)))), ?_⟩
    have lm : (xs.map V.str).length = xs.length := List.length_map ..
    obtain ⟨kvs, hk⟩ := hp.dk
    refine ⟨_, rfl, by show 5 ≤ sizeLine; decide, fun A0 hA0 => ?_⟩
    have sA : Same H (upd H A0 (.lst ([1, 2, 3, 6, 20].map V.int))) := same_new hA0
    refine ⟨p, c, .ref A0, [1, 2, 3, 6, 20].map V.int, n, rfl, .inl ⟨A0, rfl, SqL.of upd_same⟩, hp.keep sA, by omega, by decide, by decide, fun i y H1 hy hp1 kp1 => ?_⟩
    obtain ⟨m, rfl, m0, m1⟩ : ∃ m : Int, y = V.int m ∧ 0 < m ∧ m < 100 := by
      have := List.mem_of_getElem? hy
      simp only [List.map_cons, List.map_nil, List.mem_cons, List.not_mem_nil, or_false] at this
      rcases this with e | e | e | e | e <;> exact ⟨_, e, by decide, by decide⟩
    have kpA : Kp p H H1 := (Kp.same sA).trans kp1
    refine ⟨Nat.zero_le _, fun L hL => ?_⟩
    have sL : Same H1 (upd H1 L (.lst [])) := same_new hL
    obtain ⟨kvs1, hk1⟩ := hp1.dk
    have hL0 : H L = none := kp_none kpA hk1 hL
    have e1 : (upd H1 L (.lst [])) L = some (.lst []) := upd_same
    have hp2 := hp1.keep sL
    have kp2 := kpA.trans (Kp.same sL)
    generalize upd H1 L (.lst []) = H2 at e1 hp2 kp2 ⊢
    refine ⟨by show 2 ≤ sizeLine; decide, fun T hT => ?_⟩
    have sT : Same H2 (upd H2 T (.tup [.int m, .ref L])) := same_new hT
    refine ⟨T, _, rfl, .inl (.inl upd_same), rfl, _, _, rfl, ?_⟩
    refine ⟨_, _, rfl, rfl, ?_⟩
    have e3 := sT _ _ e1
    have hp3 := hp2.keep sT
    have kp3 := kp2.trans (Kp.same sT)
    generalize upd H2 T (.tup [.int m, .ref L]) = H3 at e3 hp3 kp3 ⊢
    refine ⟨_, rfl, r, xs.map V.str, rfl, .inr (.inl (rd_kp kp3 hk (fun _ z => by cases z) hx)), _, rfl, by omega, by omega, ?_⟩
    rw [Int.toNat_natCast, lm]
    refine for_range (lo := 0) (n := xs.length) (fun i σ H4 => ∃ (o4 : Option V) (us : List V) (ps : List (Str × Str)), σ = [some (.ref p), some (.ref r), some (.int m), some (.ref L), o4, none] ∧ H4 L = some (.lst us) ∧ PrsV H4 us ps ∧ PrsOf xs ps ∧ ps.length ≤ 7 * i ∧ PenAt H4 p c (n + 1 + 8 * i) ∧ Kp p H H4) ⟨none, [], [], rfl, e3, trivial, (fun _ _ z => by cases z), Nat.zero_le _, hp3, kp3⟩ ?_ ?_
    · rintro i σ H4 hi ⟨o4, us, ps, rfl, e4, r4, o, l4, hp4, kp4⟩
      have e0 : (0 : Int) + (i : Int) = ((i : Nat) : Int) := by omega
      have e1 : (0 : Int) + (i : Int) + 1 = ((i + 1 : Nat) : Int) := by omega
      have ha : xs[i]? = some (xs.getD i default) := getD_at hi
      have hx4 := rd_kp kp4 hk (fun _ z => by cases z) hx
      obtain ⟨kv4, hk4⟩ := hp4.dk
      refine ⟨_, rfl, .inl ⟨rfl, _, SqL.of e4⟩, _, rfl, _, rfl, _, _, rfl, rfl, _, rfl, ?_⟩
      dsimp only [tNoPart]
      refine slA hx4 fun b H5 s5 e5 => ?_
      rw [e1, cutV_from (by omega), ← List.map_drop] at e5
      have hp5 := hp4.keep s5
      have hk5 := s5 _ _ hk4
      refine ⟨b, rfl, ⟨_, .inl e5⟩, fun D0 hD0 => ?_⟩
      refine lc_tup (K := K) (a := b) (xs := (xs.drop (i + 1)).map V.str) (fun j H6 => ∃ (ws : List V) (qs : List (Str × Str)), H6 D0 = some (.lst ws) ∧ PrsV H6 ws qs ∧ (∀ x y, (x, y) ∈ qs → x = xs.getD i default ∧ ∃ m : Nat, i < m ∧ xs[m]? = some y) ∧ qs.length ≤ j ∧ PenAt H6 p c (n + 1 + 8 * i + j) ∧ Kp p H5 H6) ⟨[], [], upd_same, trivial, (fun _ _ z => by cases z), Nat.zero_le _, hp5.keep (same_new hD0), Kp.new hD0⟩ (fun j H6 _ q => let ⟨_, _, _, _, _, _, _, kp6⟩ := q; .inl (rd_kp kp6 hk5 (fun _ z => by cases z) e5)) ?_ ?_
      · rintro j x H6 hx6 ⟨ws, qs, e6, r6, o6, l6, hp6, kp6⟩
        obtain ⟨b', hb, rfl, _⟩ := str_at hx6
        have hjl := (List.getElem?_eq_some_iff.mp hb).1
        rw [List.length_drop] at hjl
        rw [List.getElem?_drop] at hb
        refine ⟨rfl, _, rfl, _, rfl, p, c, m, _, rfl, hp6, by omega, m0, by omega, fun d H7 d0 d1 hp7 kp7 => ?_⟩
        obtain ⟨kv6, hk6⟩ := hp6.dk
        have e7 := lk_kp kp7 hk6 (fun _ z => by cases z) e6
        have r7 := r6.kp kp7 hk6
        have kp57 := kp6.trans kp7
        refine ⟨rfl, _, rfl, ?_⟩
        refine ite2 (fun e8 => ?_) (fun e8 => ?_)
        · have hx7 := rd_kp kp57 hk5 (fun _ z => by cases z) (rd_same s5 hx4)
          refine ⟨_, rfl, _, rfl, r, xs.map V.str, _, .str (xs.getD i default), rfl, rfl, .inl hx7, (by rw [e0]; exact atI_nat (by rw [List.getElem?_map, ha]; rfl)), _, rfl, by show 2 ≤ sizeLine; decide, fun T7 hT7 => ?_⟩
          have s8 : Same H7 (upd H7 T7 (.tup [.str (xs.getD i default), .str b'])) := same_new hT7
          refine ⟨ws, s8 _ _ e7, small1000 (by have := r7.len; omega), ws ++ [.ref T7], qs ++ [(xs.getD i default, b')], upd_same, ?_, ?_, ?_, ?_, ?_⟩
          · exact ((r7.same s8).append (show PrsV _ [.ref T7] [(xs.getD i default, b')] from ⟨⟨T7, rfl, upd_same⟩, trivial⟩)).mut (s8 _ _ e7)
          · intro x y z
            rcases List.mem_append.mp z with z | z
            · exact o6 x y z
            · obtain ⟨rfl, rfl⟩ := Prod.mk.inj (List.mem_singleton.mp z)
              exact ⟨rfl, i + 1 + j, by omega, hb⟩
          · rw [List.length_append]
            exact Nat.succ_le_succ l6
          · exact hp5.mut hD0 (hp7.keep s8)
          · exact (kp57.trans (Kp.same s8)).mut hD0
        · exact ⟨ws, qs, e7, r7, o6, by omega, hp7, kp57⟩
      · rintro H6 ⟨ws, qs, e6, r6, o6, l6, hp6, kp6⟩
        rw [List.length_map, List.length_drop] at l6 hp6
        have e4' := lk_kp kp6 hk5 (fun _ z => by cases z) (s5 _ _ e4)
        have r4' := (r4.same s5).kp kp6 hk5
        have lr := r4.len
        have lq := r6.len
        refine ⟨L, D0, us, ws, rfl, rfl, e4', e6, Nat.le_of_lt (small1000 (by omega)), ?_⟩
        refine ⟨_, us ++ ws, ps ++ qs, rfl, upd_same, (r4'.append r6).mut e4', ?_, ?_, ?_, ?_⟩
        · intro x y z
          rcases List.mem_append.mp z with z | z
          · exact o x y z
          · obtain ⟨rfl, j, h1, h2⟩ := o6 x y z
            exact ⟨i, j, h1, ha, h2⟩
        · rw [List.length_append]
          omega
        · exact (hp.mut hL0 hp6).mono (by omega)
        · exact ((kp4.trans (Kp.same s5)).trans kp6).mut hL0
    · rintro σ H4 ⟨o4, us, ps, rfl, e4, r4, o, l4, hp4, kp4⟩
      exact ⟨_, rfl, k L us ps H4 e4 r4 o l4 (hp4.mono (by omega)) kp4⟩
end
end Ah
set_option Elab.async false
set_option linter.all false
set_option maxRecDepth 100000
set_option maxHeartbeats 4000000
namespace Ah
open PySem PySem.Spec PyProof.Rows L2
theorem shp_sh {p : Str × Str} (h : Shp (prD p)) : SeqAt.shaped (prD p) = true := shp_tup (by have := h.1; simpa [prD, PyData.canLay0] using this) (by have := h.2; simp only [prD, PyData.depth] at this; omega)
/-- x in xs, xs a list or a tuple of data -/
def rInDL (K : PySem.W.Frag) : R2 := fun x y H Q => ∃ d ds, Dp K H x d ∧ (Dp K H y (.list ds) ∨ Dp K H y (.tuple ds)) ∧ SeqAt.shaped d = true ∧ SeqAt.shaped (.list ds) = true ∧ SeqAt.shaped (.tuple ds) = true ∧ Q (.bl (ds.any fun z => PyData.eqv z d)) H
theorem op_inDL {X : Cx} (hu : X.A.units + 65 < cLine) : OpR X (compareOp .In) (rInDL X.K) := by
  intro pins s σ H x y v u Q I rx ry h
  obtain ⟨d, ds, hd, he, sd, sl, st, q⟩ := h
  obtain ⟨as, r1⟩ := Dp.reads I d x v hd rx
  rcases he with he | he
  · obtain ⟨bs, r2⟩ := Dp.reads I (.list ds) y u he ry
    exact SeqAt.in_list_reads r2 r1 (SeqAt.canLay_of_shaped sl) (SeqAt.canLay_of_shaped sd) (room_in_shaped sd hu) ⟨.bl _, H, I, rfl, q⟩
  · obtain ⟨bs, r2⟩ := Dp.reads I (.tuple ds) y u he ry
    exact SeqAt.in_tuple_reads r2 r1 (SeqAt.canLay_of_shaped st) (SeqAt.canLay_of_shaped sd) (room_in_shaped sd hu) ⟨.bl _, H, I, rfl, q⟩
theorem eqv_pr (p q : Str × Str) : PyData.eqv (prD p) (prD q) = decide (p = q) := by
  have e : PyData.eqv (prD p) (prD q) = (PyData.eqv (.str p.1) (.str q.1) && (PyData.eqv (.str p.2) (.str q.2) && true)) := by
    simp only [prD, PyData.eqv, PyData.eqvAll]
  rw [e, eqv_str, eqv_str, Bool.and_true]
  by_cases h : p = q
  · rw [decide_eq_true h, decide_eq_true (congrArg Prod.fst h), decide_eq_true (congrArg Prod.snd h)]
    rfl
  · rw [decide_eq_false h]
    by_cases h1 : p.1 = q.1
    · rw [decide_eq_true h1, decide_eq_false fun h2 => h (Prod.ext h1 h2)]
      rfl
    · rw [decide_eq_false h1]
      rfl
theorem any_pr (ps : List (Str × Str)) (q : Str × Str) : ((ps.map prD).any fun z => PyData.eqv z (prD q)) = ps.contains q := by
  rw [List.any_map]
  have : ((fun z => PyData.eqv z (prD q)) ∘ prD) = fun p => decide (p = q) := funext fun p => eqv_pr p q
  rw [this]
  rw [Bool.eq_iff_iff, List.any_eq_true, List.contains_iff_mem]
  exact ⟨fun ⟨p, h1, h2⟩ => of_decide_eq_true h2 ▸ h1, fun h => ⟨q, h, decide_eq_true rfl⟩⟩
abbrev sAhead : Stmt := topS 12
section
variable {P : Program} {w : World} {K : PySem.W.Frag} {mg : Str → Option Value} {base : Heap}
theorem scAhead : FnScope ["hands", "pairs", "hand", "a"] ["hands", "pairs", "hand"] (defScope sAhead) := ⟨rfl, rfl, rfl, by decide +kernel, rfl, by decide +kernel, by decide +kernel⟩
def PrsOk (ps : List (Str × Str)) : Prop := ∀ x ∈ ps, PyData.strOk x.1 = true ∧ PyData.strOk x.2 = true
def spAhead : Sp := fun vs H Q _ => ∃ (a b : Addr) (xs : List Str) (us : List V) (ps : List (Str × Str)) (z : Str), vs = [.ref a, .ref b, .str z] ∧ H a = some (.lst (xs.map V.str)) ∧ LTu H b us ∧ PrsV H us ps ∧ (∀ x ∈ xs, PyData.strOk x = true) ∧ PyData.strOk z = true ∧ PrsOk ps ∧ xs.length ≤ 60 ∧
  ∀ (q : Addr) (H' : Hp), Same H H' → H' q = some (.lst ((aheadOf ps xs z).map V.str)) → Q (.ref q) H'
theorem LTu.dp {H : Hp} {b : Addr} {us : List V} {ps : List (Str × Str)} (h : LTu H b us) (r : PrsV H us ps) : Dp K H (.ref b) (.list (ps.map prD)) ∨ Dp K H (.ref b) (.tuple (ps.map prD)) := by
  rcases h with h | h
  · exact .inl (.lst (SqL.of h) r.dp)
  · exact .inr (.tup (.inl h) r.dp)
theorem ok_ahead {f : Addr} {fd : FuncData} (F : Fun K "told_ahead" "told_ahead" sAhead f fd) : FnOk P w K mg base CX0 1 f fd ["hands", "pairs", "hand"] spAhead := by
  refine F.ok scAhead (fun vs H Q E h => ?_) (fun cdv A outer s H vs Q E hr h => ?_)
  · obtain ⟨a, b, xs, us, ps, z, rfl, _⟩ := h
    rfl
  · obtain ⟨a, b, xs, us, ps, z, rfl, ha, hbl, hps, ok, okz, okp, hl, k⟩ := h
    have nd := scAhead.nd
    have hu65 : (A.deeper (envOfC "told_ahead" (defScope sAhead) s.heap.objs.size f cdv)).units + 65 < cLine := by
      have := hr.un
      omega
    refine ⟨_, pss_one (ps_ret (pe_lc (own := [("a", 3)]) (g := gName 3) (tt := tTest (tOp (rInDL K) (tTup (tCons (tVar 3) (tCons (tVar 2) tNil))) (tVar 1))) rfl nd (pi_list (pv 0))
          (blkOk_by (N := ["hands", "pairs", "hand", "a"]) (sc := defScope sAhead) (by decide +kernel)) (fun _ _ _ _ _ => pg_name (i := 3) nd rfl (Or.inl rfl))
          (fun _ _ _ _ _ => pts_one (pt_cmpR (op_inDL hu65) (pe_tup (pa_cons (pv 3) (pa_cons (pv 2) pa_nil))) (pv 1) (by rfl)))
          (fun _ _ _ _ _ => pv 3))), ?_⟩
    have shp : ∀ d ∈ ps.map prD, Shp d := fun d hd => by
      obtain ⟨y, q, rfl⟩ := List.mem_map.mp hd
      exact shp_pr (okp y q).1 (okp y q).2
    refine ⟨_, rfl, a, rfl, ⟨_, SqL.of ha⟩, fun D0 hD0 => ?_⟩
    refine lc_list (K := K) (a := a) (xs := xs.map V.str) (fun i H2 => Same H H2 ∧ H2 D0 = some (.lst (((xs.take i).filter fun x => ps.contains (x, z)).map V.str))) ⟨same_new hD0, upd_same⟩ (fun i H2 _ q => SqL.of (q.1 _ _ ha)) ?_ ?_
    · rintro i x H2 hx ⟨s2, e2⟩
      obtain ⟨b', hb, rfl, _⟩ := str_at hx
      have et : xs.take (i + 1) = xs.take i ++ [b'] := by rw [List.take_succ, hb]; rfl
      have hil := (List.getElem?_eq_some_iff.mp hb).1
      refine ⟨rfl, _, rfl, _, rfl, by show 2 ≤ sizeLine; decide, fun T hT => ?_⟩
      have sT : Same H2 (upd H2 T (.tup [.str b', .str z])) := same_new hT
      have s3 := s2.trans sT
      refine ⟨_, rfl, prD (b', z), ps.map prD, .tup (.inl (.inl upd_same)) (.cons (.str _) (.cons (.str _) .nil)), LTu.dp (hbl.same s3) (hps.same s3), shp_sh (shp_pr (ok _ (List.mem_of_getElem? hb)) okz), shp_l shp, shp_t shp, _, rfl, ?_⟩
      rw [any_pr]
      have e3 := sT _ _ e2
      rw [et, List.filter_append, List.map_append]
      by_cases q : ps.contains (b', z) = true
      · rw [q, List.filter_cons, if_pos q]
        refine iteT ⟨_, rfl, _, e3, ?_, same_mut s3 hD0, upd_same⟩
        rw [List.length_map]
        exact small1000 (Nat.le_trans (List.length_filter_le _ _) (by rw [List.length_take]; omega))
      · rw [Bool.eq_false_iff.mpr q, List.filter_cons, if_neg q]
        refine iteF ⟨s3, ?_⟩
        rw [e3]
        simp
    · rintro H2 ⟨s2, e2⟩
      rw [List.length_map, List.take_length] at e2
      exact k D0 H2 s2 e2
end
end Ah
set_option Elab.async false
set_option linter.all false
set_option maxRecDepth 100000
set_option maxHeartbeats 4000000
namespace Ah
open PySem PySem.Spec PyProof.Rows L2
abbrev sKnotted : Stmt := topS 11
section
variable {P : Program} {w : World} {K : PySem.W.Frag} {mg : Str → Option Value} {base : Heap}
theorem scKnotted : FnScope ["hands", "pairs", "left", "_", "b"] ["hands", "pairs"] (defScope sKnotted) := ⟨rfl, rfl, rfl, by decide +kernel, rfl, by decide +kernel, by decide +kernel⟩
def spKnotted : Sp := fun vs H Q _ => ∃ (a b : Addr) (xs : List Str) (us : List V) (ps : List (Str × Str)), vs = [.ref a, .ref b] ∧ LTu H a (xs.map V.str) ∧ LTu H b us ∧ PrsV H us ps ∧ (∀ x ∈ xs, PyData.strOk x = true) ∧ PrsOk ps ∧ xs.length ≤ 60 ∧
  ∀ (q : Addr) (ys : List Str) (H' : Hp), Same H H' → ys.Perm xs → sortedS ys = true → H' q = some (.lst ((Nat.repeat (peel ps) ys.length ys).map V.str)) → Q (.ref q) H'
theorem repeat_sub {α : Type} {f : List α → List α} (h : ∀ l, ∀ x ∈ f l, x ∈ l) (hl : ∀ l, (f l).length ≤ l.length) (l : List α) : ∀ n, (∀ x ∈ Nat.repeat f n l, x ∈ l) ∧ (Nat.repeat f n l).length ≤ l.length
  | 0 => ⟨fun _ z => z, Nat.le_refl _⟩
  | n + 1 => ⟨fun x z => (repeat_sub h hl l n).1 x (h _ x z), Nat.le_trans (hl _) (repeat_sub h hl l n).2⟩
/-- the truth of what told_ahead tells -/
def ttAhead (K : PySem.W.Frag) : TT := fun σ H Q => tCall spAhead [] E0 (tCons (tVar 2) (tCons (tVar 1) (tCons (tVar 4) tNil))) σ H fun x H' => ∃ k, TruV K x H' k ∧ Q k H'
theorem ok_knotted {f f1 : Addr} {fd fd1 : FuncData} (F : Fun K "knotted_hands" "knotted_hands" sKnotted f fd) (B : Blt2 mg) (D : Df P w K mg base CX0 "told_ahead" 1 f1 fd1 ["hands", "pairs", "hand"] spAhead) : FnOk P w K mg base CX0 2 f fd ["hands", "pairs"] spKnotted := by
  refine F.ok scKnotted (fun vs H Q E h => ?_) (fun cdv A outer s H vs Q E hr h => ?_)
  · obtain ⟨a, b, xs, us, ps, rfl, _⟩ := h
    rfl
  · obtain ⟨a, b, xs, us, ps, rfl, ha, hbl, hps, ok, okp, hl, k⟩ := h
    have nd := scKnotted.nd
    refine ⟨_, pss_cons (ps_set (i := 2) nd rfl (.inr rfl) (pe_callB cr_sortedTS (by rfl) B.sorted (by decide +kernel) (pa_cons (pv 0) pa_nil)))
      (pss_cons (ps_for PassesOwn.never rfl (pi_range1 rfl B.range (pa_cons (pe_callB call_len_seq (by rfl) B.len PySem.boot_len (pa_cons (pv 2) pa_nil)) pa_nil)) (pg_name (i := 3) nd rfl (.inl rfl))
        (pss_one (ps_set (i := 2) nd rfl (.inr rfl) (pe_lc (own := [("b", 4)]) (g := gName 4) (tt := ttAhead K) rfl nd (pi_list (pv 2))
          (blkOk_by (N := ["hands", "pairs", "left", "_", "b"]) (sc := defScope sKnotted) (by decide +kernel)) (fun _ _ _ _ _ => pg_name (i := 4) nd rfl (Or.inl rfl))
          (fun _ _ _ _ _ => pts_one (show PT _ _ (ttAhead K) from pt_truth (pe_call D.ok hr rfl D.g D.kp D.b .nil pass0 (pa_cons (pv 2) (pa_cons (pv 1) (pa_cons (pv 4) pa_nil)))) (by intro _; rfl)))
          (fun _ _ _ _ _ => pv 4)))))
      (pss_one (ps_ret (pv 2)))), ?_⟩
    refine ⟨_, rfl, a, xs, rfl, ha.sq, by omega, fun ys c py sy hc => ?_⟩
    have sc : Same H (upd H c (.lst (ys.map V.str))) := same_new hc
    have e1 : (upd H c (.lst (ys.map V.str))) c = some (.lst (ys.map V.str)) := upd_same
    generalize upd H c (.lst (ys.map V.str)) = H1 at sc e1 ⊢
    have ly := py.length_eq
    have lm : (ys.map V.str).length = ys.length := List.length_map ..
    refine ⟨_, rfl, c, ys.map V.str, rfl, .inl (SqL.of e1), _, rfl, by omega, by omega, ?_⟩
    rw [Int.toNat_natCast, lm]
    have rs := repeat_sub (f := peel ps) (fun l x z => (List.mem_filter.mp z).1) (fun l => List.length_filter_le _ _) ys
    refine for_range (lo := 0) (n := ys.length) (fun i σ H2 => ∃ (o3 : Option V) (d : Addr), σ = [some (.ref a), some (.ref b), some (.ref d), o3, none] ∧ Same H H2 ∧ H2 d = some (.lst ((Nat.repeat (peel ps) i ys).map V.str))) ⟨none, c, rfl, sc, e1⟩ ?_ ?_
    · rintro i σ H2 hi ⟨o3, d, rfl, s2, e2⟩
      refine ⟨_, rfl, d, rfl, ⟨_, SqL.of e2⟩, fun D0 hD0 => ?_⟩
      have hrs := rs i
      generalize hls : Nat.repeat (peel ps) i ys = ls at e2 hrs
      have okl : ∀ x ∈ ls, PyData.strOk x = true := fun x z => ok x (py.mem_iff.mp (hrs.1 x z))
      refine lc_list (K := K) (a := d) (xs := ls.map V.str) (fun j H3 => Same H2 H3 ∧ H3 D0 = some (.lst (((ls.take j).filter fun x => !(aheadOf ps ls x).isEmpty).map V.str))) ⟨same_new hD0, upd_same⟩ (fun j H3 _ q => SqL.of (q.1 _ _ e2)) ?_ ?_
      · rintro j x H3 hx ⟨s3, e3⟩
        obtain ⟨b', hb, rfl, _⟩ := str_at hx
        have et : ls.take (j + 1) = ls.take j ++ [b'] := by rw [List.take_succ, hb]; rfl
        have hil := (List.getElem?_eq_some_iff.mp hb).1
        have s23 := s2.trans s3
        refine ⟨rfl, _, rfl, _, rfl, _, rfl, d, b, ls, us, ps, b', rfl, s3 _ _ e2, hbl.same s23, hps.same s23, okl, okl _ (List.mem_of_getElem? hb), okp, by omega, fun q H4 s4 e4 => ?_⟩
        refine ⟨_, .inl ⟨_, SqL.of e4, rfl⟩, ?_⟩
        have e3' := s4 _ _ e3
        rw [et, List.filter_append, List.map_append, List.isEmpty_map]
        by_cases q : (!(aheadOf ps ls b').isEmpty) = true
        · rw [q, List.filter_cons, if_pos q]
          refine iteT ⟨_, rfl, _, e3', ?_, same_mut (s3.trans s4) hD0, upd_same⟩
          rw [List.length_map]
          exact small1000 (Nat.le_trans (List.length_filter_le _ _) (by rw [List.length_take]; omega))
        · rw [Bool.eq_false_iff.mpr q, List.filter_cons, if_neg q]
          refine iteF ⟨s3.trans s4, ?_⟩
          rw [e3']
          simp
      · rintro H3 ⟨s3, e3⟩
        rw [List.length_map, List.take_length] at e3
        exact ⟨_, D0, rfl, s2.trans s3, by
          show H3 D0 = some (.lst ((peel ps (Nat.repeat (peel ps) i ys)).map V.str))
          rw [hls]
          exact e3⟩
    · rintro σ H2 ⟨o3, d, rfl, s2, e2⟩
      exact ⟨_, rfl, k d ys H2 s2 py sy e2⟩
end
end Ah
set_option Elab.async false
set_option linter.all false
set_option maxRecDepth 100000
set_option maxHeartbeats 4000000
namespace Ah
open PySem PySem.Spec PyProof.Rows L2
abbrev sIsPair : Stmt := topS 8
theorem inV_txts (x : Str) (xs : List Str) : inV (.str x) (xs.map V.str) = decide (x ∈ xs) := by
  unfold inV
  induction xs with
  | nil => rfl
  | cons y r ih =>
    rw [List.map_cons, List.any_cons, ih]
    by_cases h : y = x
    · subst h
      have : eqV (V.str y) (V.str y) = true := by simp [eqV]
      rw [this]
      simp
    · have : eqV (V.str y) (V.str x) = false := by simp [eqV, h]
      rw [this, Bool.false_or]
      have h' : ¬ x = y := fun e => h e.symm
      simp [List.mem_cons, h']
section
variable {P : Program} {w : World} {K : PySem.W.Frag} {mg : Str → Option Value} {base : Heap}
theorem scIsPair : FnScope ["hands", "thing", "a", "b"] ["hands", "thing"] (defScope sIsPair) := ⟨rfl, rfl, rfl, by decide +kernel, rfl, by decide +kernel, by decide +kernel⟩
/-- of a pair of texts -/
def spIsPair : Sp := fun vs H Q _ => ∃ (g : Addr) (v : V) (hs : List Str) (q : Str × Str), vs = [.ref g, v] ∧ LTu H g (hs.map V.str) ∧ PrV H v q ∧ Q (.bl (decide (q.1 ∈ hs ∧ q.2 ∈ hs ∧ q.1 ≠ q.2))) H
theorem ok_isPair {f : Addr} {fd : FuncData} (F : Fun K "is_pair" "is_pair" sIsPair f fd) (B : Blt2 mg) : FnOk P w K mg base CX0 1 f fd ["hands", "thing"] spIsPair := by
  refine F.ok scIsPair (fun vs H Q E h => ?_) (fun cdv A outer s H vs Q E hr h => ?_)
  · obtain ⟨g, v, hs, q, rfl, _⟩ := h
    rfl
  · obtain ⟨g, v, hs, q, rfl, hg, ⟨T, rfl, hT⟩, k⟩ := h
    have nd := scIsPair.nd
    refine ⟨_, pss_cons (ps_if (PW.pt (pw_or (pt_not (pt_val (pe_callB call_isi (by rfl) B.isinstance (by decide +kernel) (pa_cons (pv 1) (pa_cons (pe_bltn (v := .ty "tuple") (by rfl) B.tuple (by decide +kernel) rfl) pa_nil)))))
          (pw_or1 (pt_cmpR op_ne (pe_callB call_len_seq (by rfl) B.len PySem.boot_len (pa_cons (pv 1) pa_nil)) pe_int (nomark _))))) (pss_one (ps_ret pe_bl)) pss_nil)
      (pss_cons (ps_asg (pv 1) (pg_tup rfl (pgs_cons (pg_name (i := 2) nd rfl (.inl rfl)) (pgs_cons (pg_name (i := 3) nd rfl (.inl rfl)) pgs_nil))))
      (pss_one (ps_ret (pe_and (pe_cmpR (r := rIn K false) op_in_seq (pv 2) (pv 0) (by rfl)) (pe_and (pe_cmpR (r := rIn K false) op_in_seq (pv 3) (pv 0) (by rfl)) (pe_one (pe_cmpR op_ne (pv 2) (pv 3) (nomark _)))))))), ?_⟩
    have hTr : Rd H T (.tup [.str q.1, .str q.2]) := .inl hT
    refine ⟨_, rfl, .ref T, .ty "tuple", _, _, true, rfl, .ty "tuple", ty_tup hTr, kit_ty (by decide +kernel), _, rfl, ?_⟩
    refine iteF ⟨_, rfl, T, _, rfl, .inr (.inl hTr), rfl, _, rfl, ?_⟩
    refine iteF ⟨_, rfl, T, _, rfl, .inl (.inl hT), rfl, _, _, rfl, ?_⟩
    refine ⟨_, _, rfl, rfl, ?_⟩
    refine ⟨_, rfl, _, rfl, g, _, rfl, hg.sq, rfl, flat_strs hs, _, rfl, ?_⟩
    rw [if_neg Bool.false_ne_true, inV_txts]
    have kF : ¬ (q.1 ∈ hs ∧ q.2 ∈ hs ∧ q.1 ≠ q.2) → Q (.bl false) H := fun z => by
      rw [decide_eq_false z] at k
      exact k
    by_cases h1 : q.1 ∈ hs
    · rw [decide_eq_true h1]
      refine iteT ⟨_, rfl, _, rfl, g, _, rfl, hg.sq, rfl, flat_strs hs, _, rfl, ?_⟩
      rw [if_neg Bool.false_ne_true, inV_txts]
      by_cases h2 : q.2 ∈ hs
      · rw [decide_eq_true h2]
        refine iteT ⟨_, rfl, _, rfl, rfl, ?_⟩
        by_cases h3 : q.1 = q.2
        · rw [decide_eq_true (congrArg V.str h3)]
          exact kF fun z => z.2.2 h3
        · rw [decide_eq_false fun z => h3 (V.str.inj z)]
          rw [decide_eq_true (show q.1 ∈ hs ∧ q.2 ∈ hs ∧ q.1 ≠ q.2 from ⟨h1, h2, h3⟩)] at k
          exact k
      · rw [decide_eq_false h2]
        exact iteF (kF fun z => h2 z.2.1)
    · rw [decide_eq_false h1]
      exact iteF (kF fun z => h1 z.1)
end
end Ah
set_option Elab.async false
set_option linter.all false
set_option maxRecDepth 100000
set_option maxHeartbeats 4000000
namespace Ah
open PySem PySem.Spec PyProof.Rows L2
open PySem.W (dataLt alike)
/-- x < y, alike data -/
def rLtD (K : PySem.W.Frag) : R2 := fun x y H Q => ∃ d e, Dp K H x d ∧ Dp K H y e ∧ alike d e = true ∧ d ≠ .none ∧ d.depth ≤ 60 ∧ Q (.bl (dataLt d e)) H
theorem op_ltD {X : Cx} (hu : X.A.units + 65 < cLine) : OpR X (compareOp .Lt) (rLtD X.K) := by
  intro pins s σ H x y v u Q I rx ry h
  obtain ⟨d, e, hd, he, al, nn, dp, q⟩ := h
  obtain ⟨as, r1⟩ := Dp.reads I d x v hd rx
  obtain ⟨bs, r2⟩ := Dp.reads I e y u he ry
  exact PySem.W.lt_data r1 r2 al nn (by omega) ⟨.bl _, H, I, rfl, q⟩
abbrev sRising : Stmt := topS 5
theorem pr_alike (p q : Str × Str) : alike (prD p) (prD q) = true := prs_alike [p, q] _ (by simp) _ (by simp)
section
variable {P : Program} {w : World} {K : PySem.W.Frag} {mg : Str → Option Value} {base : Heap}
theorem scRising : FnScope ["things", "k"] ["things"] (defScope sRising) := ⟨rfl, rfl, rfl, by decide +kernel, rfl, by decide +kernel, by decide +kernel⟩
/-- of a rising tuple of pairs -/
def spRising : Sp := fun vs H Q _ => ∃ (t : Addr) (us : List V) (ps : List (Str × Str)), vs = [.ref t] ∧ Rd H t (.tup us) ∧ PrsV H us ps ∧ ps.Pairwise pLt ∧ ps.length ≤ 900 ∧ ∀ H', Same H H' → Q (.bl true) H'
theorem ok_rising {f : Addr} {fd : FuncData} (F : Fun K "is_rising" "is_rising" sRising f fd) (B : Blt2 mg) : FnOk P w K mg base CX0 1 f fd ["things"] spRising := by
  refine F.ok scRising (fun vs H Q E h => ?_) (fun cdv A outer s H vs Q E hr h => ?_)
  · obtain ⟨t, us, ps, rfl, _⟩ := h
    rfl
  · obtain ⟨t, us, ps, rfl, ht, hps, hp, hl, k⟩ := h
    have nd := scRising.nd
    have hu65 : (A.deeper (envOfC "is_rising" (defScope sRising) s.heap.objs.size f cdv)).units + 65 < cLine := by
      have := hr.un
      omega
    refine ⟨_, pss_one (ps_ret (pe_callB (cr_all rfl) (by rfl) B.all (by decide +kernel) (pa_cons (pe_lc (own := [("k", 1)]) (g := gName 1) (tt := tYes) (te := tOp (rLtD K) (tOp (rIxT K) (tVar 0) (tOp (rI0 fun i j => .int (i - j)) (tVar 1) (tC (.int 1)))) (tOp (rIxT K) (tVar 0) (tVar 1))) rfl nd
        (pi_range2 rfl B.range (pa_cons pe_int (pa_cons (pe_callB call_len_seq (by rfl) B.len PySem.boot_len (pa_cons (pv 0) pa_nil)) pa_nil))) (blkOk_by (N := ["things", "k"]) (sc := defScope sRising) (by decide +kernel))
        (fun _ _ _ _ _ => pg_name (i := 1) nd rfl (Or.inl rfl)) (fun _ _ _ _ _ => pts_nil)
        (fun _ _ _ _ _ => pe_cmpR (op_ltD hu65) (pe_ix (r := rIxT K) ix_tup (pv 0) (pe_op op_sub (pv 1) pe_int) (fun _ _ => rfl)) (pe_ix (r := rIxT K) ix_tup (pv 0) (pv 1) (fun _ _ => rfl)) (nomark _))) pa_nil))), ?_⟩
    have lu := hps.len
    refine ⟨_, rfl, t, us, rfl, .inr (.inl ht), _, _, rfl, by omega, fun D0 hD0 => ?_⟩
    refine lc_range (lo := 1) (n := ((us.length : Int) - 1).toNat) (fun i H2 => Same H H2 ∧ H2 D0 = some (.lst ((List.replicate i true).map V.bl))) ⟨same_new hD0, upd_same⟩ ?_ ?_
    · rintro i H2 hi ⟨s2, e2⟩
      have g0 : us[i]? = some us[i] := List.getElem?_eq_getElem (by omega)
      have g1 : us[i + 1]? = some us[i + 1] := List.getElem?_eq_getElem (by omega)
      obtain ⟨x, hx, vx⟩ := hps.get g0
      obtain ⟨y, hy, vy⟩ := hps.get g1
      have lt : pLt x y := by
        obtain ⟨h0, rfl⟩ := List.getElem?_eq_some_iff.mp hx
        obtain ⟨h1, rfl⟩ := List.getElem?_eq_some_iff.mp hy
        exact List.pairwise_iff_getElem.mp hp i (i + 1) h0 h1 (by omega)
      have ht2 := rd_same s2 ht
      have dx : Dp K H2 us[i] (prD x) := by
        obtain ⟨T, e, hT⟩ := vx.same s2
        rw [e]
        exact .tup (.inl (.inl hT)) (.cons (.str _) (.cons (.str _) .nil))
      have dy : Dp K H2 us[i + 1] (prD y) := by
        obtain ⟨T, e, hT⟩ := vy.same s2
        rw [e]
        exact .tup (.inl (.inl hT)) (.cons (.str _) (.cons (.str _) .nil))
      have i0 : (1 : Int) + (i : Int) - 1 = ((i : Nat) : Int) := by omega
      have i1 : (1 : Int) + (i : Int) = ((i + 1 : Nat) : Int) := by omega
      refine ⟨rfl, _, rfl, _, rfl, _, _, rfl, rfl, t, us, _, _, rfl, rfl, .inl ht2, (by rw [i0]; exact atI_nat g0), _, rfl, _, rfl, t, us, _, _, rfl, rfl, .inl ht2, (by rw [i1]; exact atI_nat g1), prD x, prD y, dx, dy, pr_alike x y, (fun z => by cases z), ?_, ?_⟩
      · exact prs_depth [x] _ (by simp)
      · rw [dataLt_pr, decide_eq_true lt]
        refine ⟨_, e2, ?_, same_mut s2 hD0, ?_⟩
        · rw [List.length_map, List.length_replicate]
          exact small1000 (by omega)
        · rw [upd_same, List.replicate_succ', List.map_append]
          rfl
    · rintro H2 ⟨s2, e2⟩
      refine ⟨D0, _, rfl, SqL.of e2, ?_⟩
      rw [List.all_replicate]
      have := k H2 s2
      split
      · exact this
      · exact this
end
end Ah
set_option Elab.async false
set_option linter.all false
set_option maxRecDepth 100000
set_option maxHeartbeats 4000000
/-! sorted(d), d a dict whose keys are tuples -/
namespace Ah
open PySem PySem.Spec PyProof.Rows L2
open PySem.W (EachIs AllAlike Sortable dataLe)
def leafD : Key → PyData
  | .inl i => .int i
  | .inr x => .str x
def keyD (k : List Key) : PyData := .tuple (k.map leafD)
theorem dp_leafs {K : PySem.W.Frag} {H : Hp} : ∀ k : List Key, DpAll K H (k.map kV) (k.map leafD)
  | [] => .nil
  | .inl i :: r => .cons (.int i) (dp_leafs r)
  | .inr x :: r => .cons (.str x) (dp_leafs r)
theorem keys_dp {K : PySem.W.Frag} {H : Hp} : ∀ {kvs : List (List Key × V)} {bs : List Addr}, IsKeys H kvs bs → DpAll K H (bs.map V.ref) (kvs.map fun kv => keyD kv.1) := by
  intro kvs bs r
  unfold IsKeys at r
  induction r with
  | nil => exact .nil
  | cons h t ih => exact .cons (.tup (.inl (.inl h)) (dp_leafs _)) ih
def rSortedT (K : PySem.W.Frag) : List V → Hp → VK → Prop := fun vs H Q => ∃ (a : Addr) (kvs : List (List Key × V)), vs = [V.ref a] ∧ Rd H a (.dT kvs) ∧ AllAlike (kvs.map fun kv => keyD kv.1) ∧ Sortable (kvs.map fun kv => keyD kv.1) ∧ (∀ d ∈ kvs.map fun kv => keyD kv.1, d.depth ≤ 60) ∧ kvs.length ≤ 16777216 ∧
  ∀ (bs : List Addr) (zs : List (V × PyData)) (p : Addr), IsKeys H kvs bs → zs.Perm ((bs.map V.ref).zip (kvs.map fun kv => keyD kv.1)) → zs.map (·.2) = sortD (kvs.map fun kv => keyD kv.1) → H p = none → Q (.ref p) (upd H p (.lst (zs.map (·.1))))
section
variable {X : Cx}
theorem cr_sortedT (hc : X.calm = true) (hu : X.A.units + 64 < cLine) : CallR X (.builtin "sorted") (rSortedT X.K) := by
  intro pins s σ H vs us Q I r h
  obtain ⟨a, kvs, rfl, hd, hal, hk, hdep, hlen, q⟩ := h
  rw [Vals.ref1 r]
  obtain ⟨z, hs, ks, pr, o, es, ep, ho, hx, hdt, he, hn⟩ := (show ObjOk X.prog X.w H s.heap a (.dT kvs) from hd.ok I.hok)
  have l1 : es.size = ks.length := size_of_entries he
  have l2 : kvs.length = ks.length := Paired.length pr
  have fits : kvs.length ≤ sizeLine := by rw [sizeLine_eq]; exact hlen
  refine Calls.call_function_entry kind_sorted plain_sorted entry_sorted (args_sorted1 _) ?_
  unfold Builtin.«sorted»
  refine wpAny_bind (m := checkCount "sorted" 1 1 _) (wpAny_pure ?_)
  refine wpAny_bind (PySem.W.kdu_collect (A := X.A.in1) (kdl_raw hs hx hdt) (I.ok.hd hc) ho (by omega) fun h1 tk acc k1 it => ?_)
  have ea : acc.toList = ks.map fun x => Value.ref x.2.1 := by
    have lacc : acc.toList.length = ks.length := by rw [Array.length_toList, it.1]; exact l1
    refine List.ext_getElem? fun j => ?_
    rw [List.getElem?_map]
    cases hj : acc.toList[j]? with
    | none =>
      have m := List.getElem?_eq_none_iff.mp hj
      rw [List.getElem?_eq_none (by omega)]
      all_goals rfl
    | some v =>
      obtain ⟨en, hen, hv⟩ := it.2 j v (by rw [← Array.getElem?_toList]; exact hj)
      have qe := entry_at he j
      rw [hen] at qe
      cases hb : ks[j]? with
      | none =>
        rw [hb] at qe
        exact nomatch (show some en = none from qe)
      | some b =>
        rw [hb] at qe
        rw [hv, show en = entryOfKey (tupleKind (mixKind X.prog X.w)) b from Option.some.inj qe]
        all_goals rfl
  generalize acc.toList = vs at ea
  have lv : vs.length = kvs.length := by rw [ea, List.length_map, l2]
  have rv : Vals ((ks.map fun x => x.2.1).map V.ref) vs := by
    rw [ea, show (ks.map fun x => Value.ref x.2.1) = (ks.map fun x => x.2.1).map Value.ref by rw [List.map_map]; rfl]
    exact vals_refs _
  have isk := isKeys_of pr
  have dp := keys_dp (K := X.K) isk
  have q := fun zs p => q (ks.map fun x => x.2.1) zs p isk
  generalize hxs : (ks.map fun x => x.2.1).map V.ref = xs at rv dp q
  generalize kvs.map (fun kv => keyD kv.1) = ds at dp hal hk hdep q
  have lx : xs.length = kvs.length := by rw [← hxs, List.length_map, List.length_map, l2]
  obtain ⟨z1, z2, z3⟩ := dpAll_zip2 dp
  have lds : ds.length = xs.length := by
    have := congrArg List.length z2
    rw [List.length_map, z3] at this
    exact this
  have e := each_of rv dp
  refine wpAny_bind (wpAny_newList ?_ (by rw [lv]; exact fits))
  have hoL : (h1.push (seqObj "list" vs.toArray 0)).get? h1.objs.size = some (seqObj "list" vs.toArray 0) := Heap.get?_push_size _ rfl
  have old : ∀ b u, s.heap.get? b = some u → (PySem.W.sortingHeap (h1.push (seqObj "list" vs.toArray 0)) h1.objs.size vs).get? b = some u := fun b u hb =>
    PySem.W.sortingHeap_old (Nat.ne_of_lt (Heap.lt_size (k1 b u hb))) (Heap.get?_push_of_some _ (k1 b u hb))
  have er : EachIs (fun (v : Value) (b : V × PyData) => ∃ as, Reads (PySem.W.sortingHeap (h1.push (seqObj "list" vs.toArray 0)) h1.objs.size vs) v b.2 as) vs (xs.zip ds) := e.mono fun v b ⟨r1, r2⟩ =>
    let ⟨as, rr⟩ := Dp.reads I b.2 b.1 v r2 r1
    ⟨as, PyProof.Rows.Reads.keeps old rr⟩
  have bound : ∀ d, d ∈ ds → X.A.in1.in1.units + d.depth < cLine := fun d hd => by
    have h1 := hdep d hd
    have h2 : X.A.in1.in1.units = X.A.units + 2 := rfl
    omega
  have hal' : AllAlike ((xs.zip ds).map fun b => b.2) := by rw [z1]; exact hal
  have eds := PySem.W.each_map (R := fun v d => ∃ as, Reads (PySem.W.sortingHeap (h1.push (seqObj "list" vs.toArray 0)) h1.objs.size vs) v d as) (fun b : V × PyData => b.2) er
  rw [z1] at eds
  refine wpAny_bind (wpAny_holding (wpAny_call_entry slot_list_sort ⟨_, hoL, rfl⟩ entry_list_sort (PySem.W.list_sort_vals (κ := PySem.W.dataKind (PySem.W.sortingHeap (h1.push (seqObj "list" vs.toArray 0)) h1.objs.size vs) ds) hoL
    (PySem.W.SortsAt.data (s := { s with heap := PySem.W.sortingHeap (h1.push (seqObj "list" vs.toArray 0)) h1.objs.size vs, toks := tk }) eds hal hk bound) (by rw [lv]; exact fits) ⟨.none, rfl, ?_⟩) (args_list_sort _)))
  refine wpAny_pure ⟨_, rfl, ?_⟩
  have eo := PySem.W.sortVals_data (enc := fun b : V × PyData => b.2) (R := fun (v : Value) (b : V × PyData) => RelV b.1 v ∧ Dp X.K H b.1 b.2) false e er hal'
  rw [z1] at eo
  generalize PySem.W.sortVals (PySem.W.dataKind (PySem.W.sortingHeap (h1.push (seqObj "list" vs.toArray 0)) h1.objs.size vs) ds) false vs vs = out at eo ⊢
  obtain ⟨v1, v2⟩ := each_vals eo
  have pm : ((xs.zip ds).mergeSort (dataLe false fun b : V × PyData => b.2)).Perm (xs.zip ds) := List.mergeSort_perm _ _
  have p1 : (((xs.zip ds).mergeSort (dataLe false fun b : V × PyData => b.2)).map (·.1)).length = kvs.length := by
    rw [List.length_map, pm.length_eq, z3, lds, lx]
  have p2 : ((xs.zip ds).mergeSort (dataLe false fun b : V × PyData => b.2)).map (·.2) = sortD ds := by
    have := PySem.W.sort_maps (r := dataLe false fun b : V × PyData => b.2) (s := dataLe false fun d : PyData => d) (fun b : V × PyData => b.2) (l := xs.zip ds) (fun a _ b _ => rfl)
    rw [z1] at this
    exact this
  have I1 : Inv X pins σ H { s with heap := h1, toks := tk } := I.kept (t' := tk) k1
  obtain ⟨ep2, at2⟩ := sortedHeap_at (vs := vs) (out := out.toArray) hoL
  refine ⟨.ref _, upd H h1.objs.size (.lst _), I1.laid (t' := tk) (fun b u hb1 => ?_) (Nat.le_refl _) ⟨?_, out, ep2, v1, at2⟩, rfl, q _ _ pm p2 (I1.hok.fresh (Nat.le_refl _))⟩
  · have hlt := Heap.lt_size hb1
    show (sortedHeap (h1.push (seqObj "list" vs.toArray 0)) h1.objs.size vs out.toArray).get? b = some u
    rw [sortedHeap_old (Nat.ne_of_lt hlt) (by rw [size_push']; exact Nat.lt_succ_of_lt hlt)]
    exact Heap.get?_push_of_some _ hb1
  · rw [p1]
    exact fits
end
end Ah
set_option Elab.async false
set_option linter.all false
set_option maxRecDepth 100000
set_option maxHeartbeats 4000000
/-! dict comprehensions whose keys are tuples -/
namespace Ah
open PySem PySem.Spec PyProof.Rows L2
theorem d_dictSetT {X : Cx} {pins : List (Addr × Obj)} {σ : L2.St} {H : Hp} {s : Shared} {E : Value → Shared → Prop} {D b : Addr} {kvs : List (List Key × V)} {k : List Key} {v : V} {r : Value} {Q : Unit → Shared → Prop} (hu : X.A.units < cLine) (I : Inv X pins σ H s) (eb : H b = some (.tup (k.map kV))) (e : H D = some (.dT kvs)) (l : kvs.length < sizeLine)
    (rv : RelV v r) (h : ∀ s', Inv X pins σ (upd H D (.dT (putK kvs k v))) s' → Q () s') : wpAny (model X.prog X.w) X.A (dictSet D (.ref b) r) Q E s := by
  obtain ⟨z, hd, xs, rel, dd⟩ := dt_of I.hok e
  have few : xs.length ≤ sizeLine := by rw [← Paired.length rel]; exact z
  have more : (putK kvs k v).length ≤ sizeLine := by have := length_putK kvs k v; omega
  refine wpAny_dictSet_heap (hsz := few) hu (key_of I.hok eb) dd fun h' dd' hs => h _ ?_
  obtain ⟨q, es, ep, hq, h2, h3, h4, _, h5⟩ := dd'
  refine d_write I (by rw [e]; exact True.intro) hs ⟨q, hq⟩ ⟨more, hd, _, (rel.put k eb rv).keeps fun c ys ec => ?_, q, es, ep, hq, h2, h3, h4, h5⟩
  exact (upd_ne (ne_of ec e fun z => nomatch z)).trans ec
section
variable {X : Cx}
def tDcT (wit : TI) (gt : TG) (tst : TT) (tke tva : TE) (nums : List Nat) : TE := fun σ H Q => wit σ H fun J H1 => ∀ D, H1 D = none → ∃ Wt : Nat → Nat → Hp → Prop, (∃ m, Wt 0 m (upd H1 D (.dT []))) ∧ ∀ i m H, Wt i m H →
  (J.stop i H ∧ Q (.ref D) H) ∨ (J.go i H ∧ ∃ Next : Hp → Prop, (∀ H', Next H' → ∃ m', m' < m ∧ Wt (i + 1) m' H') ∧ ∀ x H', J.yld i H x H' → gt x (wipe σ nums) H' fun σ2 Hp2 => wipe σ2 nums = wipe σ nums ∧ tst σ2 Hp2 fun b Hp3 =>
    if b = true then tke σ2 Hp3 fun y H4 => tva σ2 H4 fun z Hp5 => ∃ (kvs : List (List Key × V)) (k : List Key) (b : Addr), y = .ref b ∧ Hp5 b = some (.tup (k.map kV)) ∧ Hp5 D = some (.dT kvs) ∧ kvs.length < sizeLine ∧ Next (upd Hp5 D (.dT (putK kvs k z))) else Next Hp3)
theorem dcT_core {pins : List (Addr × Obj)} {s : Shared} {σ : L2.St} {H : Hp} {Q : VK} {ke ve tgt itr : Expr} {tests : List Expr} {scp : Scope} {mine : List (Str × Nat)} {ps0 ps1 : Pos} {wit : TI} {gt : TG} {tst : TT} {tke tva : TE} {use : Option (Value → Sem Unit)} {Qf : Value → Shared → Prop}
    (cal : X.calm = true) (hu : X.A.units < cLine) (ndn : X.N.Nodup) (I : Inv X pins σ H s) (pit : PI X tgt itr wit) (blo : BlkOk X.N X.env.scope scp mine)
    (pgo : ∀ (s : Shared) (H : Hp) (C : Addr) (cl : List (Str × Addr)) (foot : List Addr), PG (X.blk s H scp (compEnvC scp cl C X.env) foot) tgt gt) (pts0 : ∀ (s : Shared) (H : Hp) (C : Addr) (cl : List (Str × Addr)) (foot : List Addr), PTs (X.blk s H scp (compEnvC scp cl C X.env) foot) tests tst)
    (pke : ∀ (s : Shared) (H : Hp) (C : Addr) (cl : List (Str × Addr)) (foot : List Addr), PE (X.blk s H scp (compEnvC scp cl C X.env) foot) ke tke)
    (pee : ∀ (s : Shared) (H : Hp) (C : Addr) (cl : List (Str × Addr)) (foot : List Addr), PE (X.blk s H scp (compEnvC scp cl C X.env) foot) ve tva) (fol : ∀ x, foldedSetIterable itr X.env x = pure x)
    (hyp : tDcT wit gt tst tke tva (mine.map (·.2)) σ H Q)
    (fini : ∀ D C s' m H', Inv X pins σ H' s' → Q (.ref D) H' → s'.heap.Ns C m → FpOk X pins H' C → compPost (model X.prog X.w) X.A X.xe use Qf (.ref D) C (.ok .next) s') :
    wpAny (model X.prog X.w) X.A (comprehension (.DictComp ke ve [⟨tgt, itr, tests, 0⟩] scp ps0) scp X.env ps1 newDict false (eval itr X.env) use) Qf X.xe s := by
  have freed : ∀ y ∈ scp.names, y.2 = .free → ∃ c, X.env.cells.lookup y.1 = some c := fun y hy e => by
    rcases blo.free y hy e with k | k
    · exact I.ok.has _ (.inl k)
    · exact I.ok.has _ (.inr k)
  refine wpAny_comprehension_free (use := use) rfl fol (closure_ok freed) blo.kind (fun y hy e => by rw [blo.uniq y hy, e])
    (thn (pit.run pins s σ H _ I hyp) fun xva s1 ehx => thn ehx fun itva sh2 eh2 => ?_)
  obtain ⟨itt, foot, tur, J, Hp2, e, In2, Tn, sta2, fo2, qu⟩ := eh2
  subst e
  refine wpAny_newObj_type (newEnv_comp ?_)
  generalize eD : sh2.heap.objs.size = D
  have newD : Hp2 D = none := In2.hok.fresh (Nat.le_of_eq eD)
  obtain ⟨Wt, ⟨mm, ww⟩, each⟩ := qu D newD
  -- the new list
  generalize es3 : ({ sh2 with heap := sh2.heap.push { cls := .type "dict", data := .dict #[] } } : Shared) = sh3
  have In3 : Inv X pins σ (upd Hp2 D (.dT [])) sh3 := by
    rw [← es3]
    refine In2.laid (t' := sh2.toks) (fun b o e => Heap.get?_push_of_some _ e) (Nat.le_of_eq eD) ?_
    rw [← eD]
    exact dt_empty sh2.heap In2.big
  have eh3 : sh3.heap = sh2.heap.push { cls := .type "dict", data := .dict #[] } := by rw [← es3]
  have size : ∀ b ∈ foot, b < sh2.heap.objs.size := fun b hb => by
    obtain ⟨o, e, _⟩ := Tn.obj _ _ sta2 b hb
    exact Heap.lt_size e
  have fo3 : ∀ b ∈ foot, FpOk X pins (upd Hp2 D (.dT [])) b ∧ b < sh3.heap.objs.size := fun b hb => by
    have elt := size b hb
    refine ⟨⟨?_, (fo2 b hb).2⟩, by rw [eh3, Heap.size_push]; exact Nat.lt_succ_of_lt elt⟩
    rw [upd_ne (by rw [← eD]; exact Nat.ne_of_lt elt)]
    exact (fo2 b hb).1
  have sta3 : tur 0 sh3.heap := Tn.keep _ _ _ sta2 fun b _ o e => by rw [eh3]; exact Heap.get?_push_of_some _ e
  have In4 := block_start In3 blo ndn fo3
  have pga := pgo sh3 (upd Hp2 D (.dT [])) sh3.heap.objs.size (cellsFrom (sh3.heap.objs.size + 1) scp.names (cloFrom X.env.cells scp.names [])) foot
  have pta := pts0 sh3 (upd Hp2 D (.dT [])) sh3.heap.objs.size (cellsFrom (sh3.heap.objs.size + 1) scp.names (cloFrom X.env.cells scp.names [])) foot
  have pka := pke sh3 (upd Hp2 D (.dT [])) sh3.heap.objs.size (cellsFrom (sh3.heap.objs.size + 1) scp.names (cloFrom X.env.cells scp.names [])) foot
  have pea := pee sh3 (upd Hp2 D (.dT [])) sh3.heap.objs.size (cellsFrom (sh3.heap.objs.size + 1) scp.names (cloFrom X.env.cells scp.names [])) foot
  show codeAny _ _ (.compStart (.DictComp ke ve [⟨tgt, itr, tests, 0⟩] scp ps0) 0 (.ref itt) (.ref D) (compEnvC scp (cellsFrom (sh3.heap.objs.size + 1) scp.names (cloFrom X.env.cells scp.names [])) sh3.heap.objs.size X.env)) (compPost (model X.prog X.w) X.A X.xe use Qf (.ref D) sh3.heap.objs.size) { sh3 with heap := pushCells (sh3.heap.push { cls := .type "dict", data := .dict #[] }) scp.names }
  have nof : ∀ b ∈ foot, (upd Hp2 D (.dT [])) b = none := fun b hb => (fo3 b hb).1.1
  generalize ecen : compEnvC scp (cellsFrom (sh3.heap.objs.size + 1) scp.names (cloFrom X.env.cells scp.names [])) sh3.heap.objs.size X.env = cen at In4 pga pta pka pea ⊢
  have eloc : cen.locals = sh3.heap.objs.size := by subst ecen; rfl
  generalize eH3 : upd Hp2 D (.dT []) = Hp3 at In3 In4 pga pta pka pea ww nof fo3
  generalize es4 : ({ sh3 with heap := pushCells (sh3.heap.push { cls := .type "dict", data := .dict #[] }) scp.names } : Shared) = sh4 at In4 ⊢
  have sta4 : tur 0 sh4.heap := Tn.keep _ _ _ sta3 fun b _ o e => by rw [← es4]; exact pushCells_keeps _ _ _ _ (Heap.get?_push_of_some _ e)
  have stati : ∀ {σ' : L2.St} {H' : Hp} {s' : Shared}, Inv (X.blk sh3 Hp3 scp cen foot) [] σ' H' s' → (∀ b ∈ foot, H' b = none) → ∀ b ∈ foot, FpOk (X.blk sh3 Hp3 scp cen foot) [] H' b := fun {σ' H' s'} I' ehn b hb =>
    ⟨ehn b hb, (I'.ok.exf b hb).1, I'.ok.exfs b hb, .inl hb, fun x c e => (I'.ok.exf b hb).2 x c e, fun p hp => absurd (show p ∈ ([] : List (Addr × Obj)) ++ [] from hp) (by simp)⟩
  have looped : codeAny (model X.prog X.w) X.A (.compLoop (.DictComp ke ve [⟨tgt, itr, tests, 0⟩] scp ps0) 0 (.ref itt) (.ref D) cen) (compPost (model X.prog X.w) X.A X.xe use Qf (.ref D) sh3.heap.objs.size) sh4 := by
    refine compLoop_anyD (fun n s' => ∃ i H', Inv (X.blk sh3 Hp3 scp cen foot) [] (wipe σ (mine.map (·.2))) H' s' ∧ tur i s'.heap ∧ (∀ b ∈ foot, H' b = none) ∧ Wt i n H') ?_ mm ⟨0, Hp3, In4, sta4, nof, ww⟩
    rintro n sh5 ⟨i, Hp5, In5, sta5, no5, wt5⟩
    rcases each i n Hp5 wt5 with ⟨stops, qfin⟩ | ⟨going, Next, eNext, stepped⟩
    · have tdo := Tn.done (X.blk sh3 Hp3 scp cen foot) rfl rfl rfl cal i [] sh5 _ Hp5 (fun _ _ => False) In5 (stati In5 no5) sta5 stops
      refine thnF tdo fun r sh6 ⟨ehr, In6⟩ => ?_
      subst ehr
      -- back in the def's context
      have In7 : Inv X pins σ Hp5 sh6 := In3.call' (ch := foot) In6.os In6.base In6.hok In6.bare fun b hb => ⟨(fo3 b hb).1.2.2.2.1, (fo3 b hb).1.2.1, (fo3 b hb).1.2.2.2.2.1, (fo3 b hb).1.2.2.2.2.2⟩
      have noC : Hp5 sh3.heap.objs.size = none := by
        have z : Hp5 cen.locals = none := In6.free
        rw [eloc] at z
        exact z
      obtain ⟨m, ehn, _⟩ := In6.loc
      have ehn : sh6.heap.Ns cen.locals m := ehn
      rw [eloc] at ehn
      exact fini D sh3.heap.objs.size sh6 m Hp5 In7 qfin ehn (In3.fpOk (Nat.le_refl _) noC)
    · have tit := Tn.item (X.blk sh3 Hp3 scp cen foot) rfl rfl rfl cal i [] sh5 _ Hp5 (fun _ _ => False) In5 (stati In5 no5) sta5 going
      refine thnF tit fun r sh6 ⟨u, ehr, eh6⟩ => ?_
      subst ehr
      refine thnF eh6 fun _ sh7 ⟨x, Hp7, In7, re7, ye7, sta7, no7⟩ => ?_
      have In7' := In7.pinned (stati In7 no7) (Tn.obj _ _ sta7)
      refine thnF (pga.run _ sh7 _ Hp7 x u _ In7' re7 (stepped x Hp7 ye7)) fun _ sh8 ⟨σ8, Hp8, In8, ew8, qu8⟩ => ?_
      refine thnF (pta.run _ sh8 σ8 Hp8 _ In8 qu8) fun b sh9 ⟨Hp9, In9, qu9⟩ => ?_
      -- the turn's end
      have fin_ : ∀ {s' : Shared} {H' : Hp}, Inv (X.blk sh3 Hp3 scp cen foot) ([] ++ pinsAt foot sh7.heap) σ8 H' s' → Next H' → ∃ m, m < n ∧ ∃ i H', Inv (X.blk sh3 Hp3 scp cen foot) [] (wipe σ (mine.map (·.2))) H' s' ∧ tur i s'.heap ∧ (∀ b ∈ foot, H' b = none) ∧ Wt i m H' := fun {s' H'} I' nxt => by
        obtain ⟨m', ehm, wt'⟩ := eNext H' nxt
        have pinned_ : ∀ b ∈ foot, ∀ o, sh7.heap.get? b = some o → s'.heap.get? b = some o ∧ H' b = none := fun b hb o e =>
          let z := I'.pin (b, o) (List.mem_append_right _ (List.mem_append_right _ (mem_pinsAt hb e)))
          ⟨z.1, z.2.1⟩
        have ehl : (wipe σ (mine.map (·.2))).length = σ8.length := by rw [← ew8, wipe_length]
        refine ⟨m', ehm, i + 1, H', (I'.unpinned (pins := [])).weak ehl (fun j v e => ?_), Tn.keep _ _ _ sta7 fun b hb o e => (pinned_ b hb o e).1, fun b hb => ?_, wt'⟩
        · rw [← ew8] at e
          exact (wipe_some e).1
        · obtain ⟨o, e, _⟩ := Tn.obj _ _ sta7 b hb
          exact (pinned_ b hb o e).2
      cases b with
      | false =>
        simp only [Bool.false_eq_true, if_false] at qu9 ⊢
        exact fin_ In9 qu9
      | true =>
        simp only [if_true] at qu9 ⊢
        refine thnF (pka.run _ sh9 σ8 Hp9 _ In9 qu9) fun z sh10 ⟨yke, Hp10, In10, re10, qu10⟩ => ?_
        refine thnF (pea.run _ sh10 σ8 Hp10 _ In10 qu10) fun zz sh11 ⟨yva, Hp11, In11, re11, kvs, k, bb, eke, ebb, eD11, ez11, nxt⟩ => ?_
        subst eke
        obtain rfl : z = Value.ref bb := re10
        exact d_dictSetT (X := X.blk sh3 Hp3 scp cen foot) hu In11 ebb eD11 ez11 re11 fun sh12 In12 => fin_ In12 nxt
  exact codeAny_compStart_dict looped (Tn.self X.A 0 _ _ _ sta4 looped)
/-- as a value -/
theorem pe_dcT {ke ve tgt itr : Expr} {tests : List Expr} {scp : Scope} {mine : List (Str × Nat)} {ps0 : Pos} {wit : TI} {gt : TG} {tst : TT} {tke tva : TE} (cal : X.calm = true) (hu : X.A.units < cLine) (ndn : X.N.Nodup) (pit : PI X tgt itr wit) (blo : BlkOk X.N X.env.scope scp mine)
    (pgo : ∀ (s : Shared) (H : Hp) (C : Addr) (cl : List (Str × Addr)) (foot : List Addr), PG (X.blk s H scp (compEnvC scp cl C X.env) foot) tgt gt) (pts0 : ∀ (s : Shared) (H : Hp) (C : Addr) (cl : List (Str × Addr)) (foot : List Addr), PTs (X.blk s H scp (compEnvC scp cl C X.env) foot) tests tst)
    (pke : ∀ (s : Shared) (H : Hp) (C : Addr) (cl : List (Str × Addr)) (foot : List Addr), PE (X.blk s H scp (compEnvC scp cl C X.env) foot) ke tke)
    (pee : ∀ (s : Shared) (H : Hp) (C : Addr) (cl : List (Str × Addr)) (foot : List Addr), PE (X.blk s H scp (compEnvC scp cl C X.env) foot) ve tva) (fol : ∀ x, foldedSetIterable itr X.env x = pure x := by intro _; rfl) :
    PE X (.DictComp ke ve [⟨tgt, itr, tests, 0⟩] scp ps0) (tDcT wit gt tst tke tva (mine.map (·.2))) := by
  refine ⟨fun pins s σ H Q I hyp => ?_⟩
  rw [arm_eval_DictComp]
  refine dcT_core cal hu ndn I pit blo pgo pts0 pke pee fol hyp fun D C s' m H' I' qu ehn f => ⟨m, ehn, fun h'' sb => ?_⟩
  obtain ⟨e0, e1, fo2, fo3, f4, f5⟩ := f
  exact ⟨.ref D, H', I'.turned (t' := s'.toks) (fun b o hb e => (sb.2 b hb).trans e) e0 e1 fo3 f4 f5, rfl, qu⟩
end
end Ah
set_option Elab.async false
set_option linter.all false
set_option maxRecDepth 100000
set_option maxHeartbeats 4000000
namespace Ah
open PySem PySem.Spec PyProof.Rows L2
open PySem.W (AllAlike Sortable)
/-! ### a dict whose keys are pairs, all of them True -/
def keyP (p : Str × Str) : List Key := [.inr p.1, .inr p.2]
def kvsOf (ks : List (Str × Str)) : List (List Key × V) := ks.map fun p => (keyP p, V.bl true)
def putP (ks : List (Str × Str)) (p : Str × Str) : List (Str × Str) := if p ∈ ks then ks else ks ++ [p]
theorem keyP_inj {p q : Str × Str} (h : keyP p = keyP q) : p = q := by
  unfold keyP at h
  injection h with h1 h2
  injection h2 with h2 _
  exact Prod.ext (Sum.inr.inj h1) (Sum.inr.inj h2)
theorem valV_kvs (ks : List (Str × Str)) (p : Str × Str) : (valV (kvsOf ks) (keyP p)).isSome = decide (p ∈ ks) := by
  induction ks with
  | nil => rfl
  | cons q r ih =>
    by_cases e : q = p
    · subst e
      rw [show kvsOf (q :: r) = (keyP q, V.bl true) :: kvsOf r from rfl, valV_pos rfl, decide_eq_true (List.mem_cons_self ..)]
      rfl
    · rw [show kvsOf (q :: r) = (keyP q, V.bl true) :: kvsOf r from rfl, valV_neg (fun z => e (keyP_inj z)), ih]
      have : p ∈ q :: r ↔ p ∈ r := ⟨fun h => (List.mem_cons.mp h).resolve_left fun z => e z.symm, List.mem_cons_of_mem _⟩
      simp only [this]
theorem putK_kvs (ks : List (Str × Str)) (p : Str × Str) : putK (kvsOf ks) (keyP p) (V.bl true) = kvsOf (putP ks p) := by
  unfold putK putP
  have e1 : ((kvsOf ks).any fun kv => decide (kv.1 = keyP p)) = decide (p ∈ ks) := by
    rw [Bool.eq_iff_iff, List.any_eq_true, decide_eq_true_iff]
    constructor
    · rintro ⟨kv, h1, h2⟩
      obtain ⟨q, hq, rfl⟩ := List.mem_map.mp h1
      exact keyP_inj (of_decide_eq_true h2) ▸ hq
    · intro h
      exact ⟨_, List.mem_map.mpr ⟨p, h, rfl⟩, decide_eq_true rfl⟩
  rw [e1]
  by_cases h : p ∈ ks
  · rw [if_pos (decide_eq_true h), if_pos h]
    unfold kvsOf
    rw [List.map_map]
    refine List.map_congr_left fun q _ => ?_
    show (if keyP q = keyP p then (keyP q, V.bl true) else (keyP q, V.bl true)) = _
    split <;> rfl
  · rw [if_neg (fun z => h (of_decide_eq_true z)), if_neg h]
    unfold kvsOf
    rw [List.map_append]
    rfl
theorem putP_mem {ks : List (Str × Str)} {p q : Str × Str} : q ∈ putP ks p ↔ q ∈ ks ∨ q = p := by
  unfold putP
  split
  · rename_i h
    exact ⟨.inl, fun z => z.elim id fun e => e ▸ h⟩
  · rw [List.mem_append, List.mem_singleton]
theorem putP_nodup {ks : List (Str × Str)} {p : Str × Str} (h : ks.Nodup) : (putP ks p).Nodup := by
  unfold putP
  split
  · exact h
  · rename_i hp
    rw [List.nodup_append]
    exact ⟨h, List.nodup_cons.mpr ⟨List.not_mem_nil, List.nodup_nil⟩, fun a ha b hb e => hp (by rw [← List.mem_singleton.mp hb, ← e]; exact ha)⟩
theorem putP_len (ks : List (Str × Str)) (p : Str × Str) : (putP ks p).length ≤ ks.length + 1 := by
  unfold putP
  split
  · omega
  · rw [List.length_append]; exact Nat.le_refl _
theorem keyD_kvs (ks : List (Str × Str)) : ((kvsOf ks).map fun kv => keyD kv.1) = ks.map prD := by
  unfold kvsOf
  rw [List.map_map]
  rfl
theorem kvs_len (ks : List (Str × Str)) : (kvsOf ks).length = ks.length := List.length_map ..
/-- what sorted tells of the keys -/
theorem keys_sorted {H : Hp} {ks ds : List (Str × Str)} {bs : List Addr} {zs : List (V × PyData)} (isk : IsKeys H (kvsOf ks) bs) (pm : zs.Perm ((bs.map V.ref).zip (ks.map prD))) (e : zs.map (·.2) = ds.map prD) : PrsV H (zs.map (·.1)) ds := by
  have inj : ∀ p q : Str × Str, prD p = prD q → p = q := fun p q h => by
    unfold prD at h
    injection h with h
    injection h with h1 h2
    injection h2 with h2 _
    injection h1 with h1
    injection h2 with h2
    exact Prod.ext h1 h2
  have all : ∀ z ∈ (bs.map V.ref).zip (ks.map prD), ∃ p, z.2 = prD p ∧ PrV H z.1 p := by
    clear pm e
    unfold IsKeys at isk
    induction ks generalizing bs with
    | nil =>
      intro z hz
      rw [List.map_nil, List.zip_nil_right] at hz
      cases hz
    | cons p r ih =>
      cases isk with
      | cons h t =>
        intro z hz
        rcases List.mem_cons.mp hz with e | hz
        · subst e
          exact ⟨p, rfl, _, rfl, h⟩
        · exact ih t z hz
  have all2 : ∀ z ∈ zs, ∃ p, z.2 = prD p ∧ PrV H z.1 p := fun z hz => all z (pm.mem_iff.mp hz)
  clear pm isk all
  induction zs generalizing ds with
  | nil =>
    cases ds with
    | nil => trivial
    | cons d r => cases e
  | cons z zs ih =>
    cases ds with
    | nil => cases e
    | cons d r =>
      rw [List.map_cons, List.map_cons] at e
      injection e with e1 e2
      obtain ⟨p, h1, h2⟩ := all2 z (List.mem_cons_self ..)
      have : p = d := inj _ _ (h1.symm.trans e1)
      subst this
      exact ⟨h2, ih e2 fun y hy => all2 y (List.mem_cons_of_mem _ hy)⟩
end Ah
set_option Elab.async false
set_option linter.all false
set_option maxRecDepth 100000
set_option maxHeartbeats 4000000
namespace Ah
open PySem PySem.Spec PyProof.Rows L2
/-- a dict comprehension, keys tuples, over what stands still -/
theorem dcT_gen {J : It} {n : Nat} {item : Nat → V} {g : TG} {tt : TT} {tk tv : TE} {vs : List Nat} {σ : L2.St} {H1 : Hp} {D : Addr} {Qd : Hp → Prop} (Pv : Nat → Hp → Prop) (h0 : Pv 0 (upd H1 D (.dT [])))
    (hgo : ∀ i H, i < n → Pv i H → J.go i H) (hst : ∀ H, Pv n H → J.stop n H) (hy : ∀ i H x H', i < n → Pv i H → J.yld i H x H' → H' = H ∧ x = item i)
    (hs : ∀ i H, i < n → Pv i H → g (item i) (wipe σ vs) H fun σ2 H2 => wipe σ2 vs = wipe σ vs ∧ tt σ2 H2 fun b H3 =>
      if b = true then tk σ2 H3 fun y H4 => tv σ2 H4 fun z H5 => ∃ (kvs : List (List Key × V)) (k : List Key) (b : Addr), y = .ref b ∧ H5 b = some (.tup (k.map kV)) ∧ H5 D = some (.dT kvs) ∧ kvs.length < sizeLine ∧ Pv (i + 1) (upd H5 D (.dT (putK kvs k z))) else Pv (i + 1) H3) (hd : ∀ H, Pv n H → Qd H) :
    ∃ Wt : Nat → Nat → Hp → Prop, (∃ m, Wt 0 m (upd H1 D (.dT []))) ∧ ∀ i m H, Wt i m H →
      (J.stop i H ∧ Qd H) ∨ (J.go i H ∧ ∃ Next : Hp → Prop, (∀ H', Next H' → ∃ m', m' < m ∧ Wt (i + 1) m' H') ∧ ∀ x H', J.yld i H x H' → g x (wipe σ vs) H' fun σ2 H2 => wipe σ2 vs = wipe σ vs ∧ tt σ2 H2 fun b H3 =>
        if b = true then tk σ2 H3 fun y H4 => tv σ2 H4 fun z H5 => ∃ (kvs : List (List Key × V)) (k : List Key) (b : Addr), y = .ref b ∧ H5 b = some (.tup (k.map kV)) ∧ H5 D = some (.dT kvs) ∧ kvs.length < sizeLine ∧ Next (upd H5 D (.dT (putK kvs k z))) else Next H3) := by
  refine ⟨fun i m H => m = n - i ∧ i ≤ n ∧ Pv i H, ⟨n, rfl, Nat.zero_le _, h0⟩, ?_⟩
  rintro i m H ⟨rfl, hi, p⟩
  rcases Nat.lt_or_ge i n with hlt | hge
  · refine .inr ⟨hgo i H hlt p, Pv (i + 1), fun H' p' => ⟨n - (i + 1), by omega, rfl, hlt, p'⟩, fun x H' y => ?_⟩
    obtain ⟨rfl, rfl⟩ := hy i H x H' hlt p y
    exact hs i _ hlt p
  · obtain rfl : i = n := by omega
    exact .inl ⟨hst H p, hd H p⟩
/-- what walks a list or a tuple -/
structure Goer (J : It) (L : Hp → Prop) (xs : List V) : Prop where
  go : ∀ i H, i < xs.length → L H → J.go i H
  stop : ∀ H, L H → J.stop xs.length H
  yld : ∀ i H x H', L H → i < xs.length → J.yld i H x H' → H' = H ∧ x = xs.getD i .non
  keep : ∀ H H', Same H H' → L H → L H'
theorem goer_l (K : PySem.W.Frag) (a : Addr) (xs : List V) : Goer (Itl K a) (fun H => H a = some (.lst xs)) xs where
  go i H hi h := ⟨xs, xs[i], SqL.of h, List.getElem?_eq_getElem hi⟩
  stop H h := ⟨xs, SqL.of h, Nat.le_refl _⟩
  yld i H x H' h hi y := by
    obtain ⟨e, y⟩ := y
    refine ⟨e, ?_⟩
    have := y xs (SqL.of h)
    rw [List.getD_eq_getElem?_getD, this]
    rfl
  keep H H' s h := s _ _ h
theorem goer_t (K : PySem.W.Frag) (a : Addr) (xs : List V) : Goer (Itt K a) (fun H => Rd H a (.tup xs)) xs where
  go i H hi h := ⟨xs, xs[i], .inl h, List.getElem?_eq_getElem hi⟩
  stop H h := ⟨xs, .inl h, Nat.le_refl _⟩
  yld i H x H' h hi y := by
    obtain ⟨e, y⟩ := y
    refine ⟨e, ?_⟩
    have := y xs (.inl h)
    rw [List.getD_eq_getElem?_getD, this]
    rfl
  keep H H' s h := rd_same s h
theorem iOr_by {K : PySem.W.Frag} {tl : TE} {a : Addr} {xs : List V} {σ : L2.St} {H H1 : Hp} {R : It → Hp → Prop} (ht : ∀ Q : VK, Q (.ref a) H1 → tl σ H Q) (h : LTu H1 a xs) (k : ∀ J L, Goer J L xs → L H1 → R J H1) : iOr (iList K tl) (iTup K tl) σ H R := by
  rcases h with h | h
  · exact .inl (ht _ ⟨a, rfl, ⟨xs, SqL.of h⟩, k _ _ (goer_l K a xs) h⟩)
  · exact .inr (ht _ ⟨a, rfl, ⟨xs, .inl h⟩, k _ _ (goer_t K a xs) h⟩)
/-- the dict of these keys -/
def HeldT (H : Hp) (D : Addr) (ks : List (Str × Str)) : Prop := H D = some (.dT (kvsOf ks))
def putPs (ks : List (Str × Str)) : List (Str × Str) := ks.foldl putP []
theorem putPs_snoc (ks : List (Str × Str)) (p : Str × Str) : putPs (ks ++ [p]) = putP (putPs ks) p := by
  unfold putPs
  rw [List.foldl_append]
  rfl
theorem putPs_mem (ks : List (Str × Str)) : ∀ q, q ∈ putPs ks ↔ q ∈ ks := by
  have : ∀ (l acc : List (Str × Str)) q, q ∈ l.foldl putP acc ↔ q ∈ acc ∨ q ∈ l := by
    intro l
    induction l with
    | nil => intro acc q; simp
    | cons p r ih =>
      intro acc q
      rw [List.foldl_cons, ih, putP_mem, List.mem_cons, or_assoc]
  intro q
  exact (this ks [] q).trans (by simp)
theorem putPs_nodup (ks : List (Str × Str)) : (putPs ks).Nodup := by
  have : ∀ (l acc : List (Str × Str)), acc.Nodup → (l.foldl putP acc).Nodup := by
    intro l
    induction l with
    | nil => exact fun _ h => h
    | cons p r ih => exact fun acc h => ih _ (putP_nodup h)
  exact this ks [] List.nodup_nil
theorem putPs_len (ks : List (Str × Str)) : (putPs ks).length ≤ ks.length := by
  have : ∀ (l acc : List (Str × Str)), (l.foldl putP acc).length ≤ acc.length + l.length := by
    intro l
    induction l with
    | nil => exact fun _ => Nat.le_refl _
    | cons p r ih =>
      intro acc
      have h1 := ih (putP acc p)
      have h2 := putP_len acc p
      rw [List.foldl_cons, List.length_cons]
      omega
  have q := this ks []
  rw [List.length_nil, Nat.zero_add] at q
  exact q
abbrev sIsWeb : Stmt := topS 7
section
variable {P : Program} {w : World} {K : PySem.W.Frag} {mg : Str → Option Value} {base : Heap}
theorem scIsWeb : FnScope ["hands", "thing", "held", "pair", "a", "b", "other", "c"] ["hands", "thing"] (defScope sIsWeb) := ⟨rfl, rfl, rfl, by decide +kernel, rfl, by decide +kernel, by decide +kernel⟩
/-- of a web -/
def spIsWeb : Sp := fun vs H Q _ => ∃ (g t : Addr) (us : List V) (hs : List Str) (ps : List (Str × Str)), vs = [.ref g, .ref t] ∧ LTu H g (hs.map V.str) ∧ Rd H t (.tup us) ∧ PrsV H us ps ∧ ps.Pairwise pLt ∧ ps.length ≤ 64 ∧ (∀ x y, (x, y) ∈ ps → x ∈ hs ∧ y ∈ hs ∧ x ≠ y) ∧
  (∀ x y z, (x, y) ∈ ps → (y, z) ∈ ps → (x, z) ∈ ps) ∧ ∀ H', Same H H' → Q (.bl true) H'
theorem ok_isWeb {f f1 f2 : Addr} {fd fd1 fd2 : FuncData} (F : Fun K "is_web" "is_web" sIsWeb f fd) (B : Blt2 mg) (D1 : Df P w K mg base CX0 "is_pair" 1 f1 fd1 ["hands", "thing"] spIsPair) (D2 : Df P w K mg base CX0 "is_rising" 1 f2 fd2 ["things"] spRising) : FnOk P w K mg base CX0 2 f fd ["hands", "thing"] spIsWeb := by
  refine F.ok scIsWeb (fun vs H Q E h => ?_) (fun cdv A outer s H vs Q E hr h => ?_)
  · obtain ⟨g, t, us, hs, ps, rfl, _⟩ := h
    rfl
  · obtain ⟨g, t, us, hs, ps, rfl, hg, ht, hps, hp, hl, hin, htr, k⟩ := h
    have nd := scIsWeb.nd
    have hu := hu_of hr
    have hu1 : (A.deeper (envOfC "is_web" (defScope sIsWeb) s.heap.objs.size f cdv)).units < cLine := by
      have := hu
      omega
    refine ⟨_, pss_cons (ps_if (PW.pt (pw_or (pt_not (pt_val (pe_callB call_isi (by rfl) B.isinstance (by decide +kernel) (pa_cons (pv 1) (pa_cons (pe_bltn (v := .ty "tuple") (by rfl) B.tuple (by decide +kernel) rfl) pa_nil)))))
          (pw_or1 (pt_not (pt_val (pe_callB (cr_all rfl) (by rfl) B.all (by decide +kernel) (pa_cons (pe_lc (own := [("pair", 3)]) (g := gName 3) (tt := tYes) (te := tCall spIsPair [] E0 (tCons (tVar 0) (tCons (tVar 3) tNil))) rfl nd (pi_tup (pv 1))
            (blkOk_by (N := ["hands", "thing", "held", "pair", "a", "b", "other", "c"]) (sc := defScope sIsWeb) (by decide +kernel)) (fun _ _ _ _ _ => pg_name (i := 3) nd rfl (Or.inl rfl)) (fun _ _ _ _ _ => pts_nil)
            (fun _ _ _ _ _ => pe_call D1.ok hr rfl D1.g D1.kp D1.b .nil pass0 (pa_cons (pv 0) (pa_cons (pv 3) pa_nil)))) pa_nil))))))) (pss_one (ps_ret pe_bl)) pss_nil)
      (pss_cons (ps_if (pt_not (pt_val (pe_call D2.ok hr rfl D2.g D2.kp D2.b .nil pass0 (pa_cons (pv 1) pa_nil)))) (pss_one (ps_ret pe_bl)) pss_nil)
      (pss_cons (ps_set (i := 2) nd rfl (.inr rfl) (pe_dcT (mine := [("pair", 3)]) (tst := tYes) (gt := gName 3) (tke := tVar 3) (tva := tC (.bl true)) rfl hu1 nd (pi_tup (pv 1)) (blkOk_by (N := ["hands", "thing", "held", "pair", "a", "b", "other", "c"]) (sc := defScope sIsWeb) (by decide +kernel))
          (fun _ _ _ _ _ => pg_name (i := 3) nd rfl (Or.inl rfl)) (fun _ _ _ _ _ => pts_nil) (fun _ _ _ _ _ => pv 3) (fun _ _ _ _ _ => pe_bl)))
      (pss_one (ps_ret (pe_callB (cr_all rfl) (by rfl) B.all (by decide +kernel) (pa_cons (pe_lc2 (own := [("a", 4), ("b", 5), ("other", 6), ("c", 7)]) (vs1 := [6, 7]) (tt := tYes) (g := gTup K 2 (gCons (gName 4) (gCons (gName 5) gNil))) (wi1 := iTup K (tVar 1)) (g1 := gTup K 2 (gCons (gName 6) (gCons (gName 7) gNil))) (tt1 := tTest (tOp rEq (tVar 6) (tVar 5))) (te := tDIn (tTup (tCons (tVar 4) (tCons (tVar 7) tNil))) (tVar 2)) rfl nd (pi_tup (pv 1))
          (blkOk_by (N := ["hands", "thing", "held", "pair", "a", "b", "other", "c"]) (sc := defScope sIsWeb) (by decide +kernel)) (by decide)
          (fun _ _ _ _ _ => pg_tup rfl (pgs_cons (pg_name (i := 4) nd rfl (Or.inl rfl)) (pgs_cons (pg_name (i := 5) nd rfl (Or.inl rfl)) pgs_nil))) (fun _ _ _ _ _ => pts_nil)
          (fun _ _ _ _ _ => pi_tup (pv 1)) (fun _ _ _ _ _ => pg_tup rfl (pgs_cons (pg_name (i := 6) nd rfl (Or.inl rfl)) (pgs_cons (pg_name (i := 7) nd rfl (Or.inl rfl)) pgs_nil)))
          (fun _ _ _ _ _ => pts_one (pt_cmpR op_eq (pv 6) (pv 5) (nomark _)))
          (fun _ _ _ _ _ => pe_cmp (pc_din hu (pe_tup (pa_cons (pv 4) (pa_cons (pv 7) pa_nil))) (pv 2)))) pa_nil)))))), ?_⟩
    have lu := hps.len
    refine ⟨_, rfl, .ref t, .ty "tuple", _, _, true, rfl, .ty "tuple", ty_tup ht, kit_ty (by decide +kernel), _, rfl, ?_⟩
    refine iteF ⟨_, rfl, t, rfl, ⟨_, .inl ht⟩, fun D0 hD0 => ?_⟩
    refine lc_tup (K := K) (a := t) (xs := us) (fun i H2 => Same H H2 ∧ H2 D0 = some (.lst ((List.replicate i true).map V.bl))) ⟨same_new hD0, upd_same⟩ (fun i H2 _ q => .inl (rd_same q.1 ht)) ?_ ?_
    · rintro i x H2 hx ⟨s2, e2⟩
      obtain ⟨p, hp', vp⟩ := hps.get hx
      have hpm : (p.1, p.2) ∈ ps := List.mem_of_getElem? hp'
      have hil := (List.getElem?_eq_some_iff.mp hx).1
      refine ⟨rfl, _, rfl, _, rfl, g, x, hs, p, rfl, hg.same s2, vp.same s2, ?_⟩
      rw [decide_eq_true (hin _ _ hpm)]
      refine ⟨_, e2, ?_, same_mut s2 hD0, ?_⟩
      · rw [List.length_map, List.length_replicate]
        exact small1000 (by omega)
      · rw [upd_same, List.replicate_succ', List.map_append]
        rfl
    rintro H2 ⟨s2, e2⟩
    refine ⟨D0, _, rfl, SqL.of e2, true, ?_, ?_⟩
    · rw [List.all_replicate]
      split <;> rfl
    refine iteF ⟨_, rfl, t, us, ps, rfl, rd_same s2 ht, hps.same s2, hp, by omega, fun H3 s3 => ⟨true, rfl, ?_⟩⟩
    have s23 := s2.trans s3
    refine iteF ⟨_, rfl, t, rfl, ⟨_, .inl (rd_same s23 ht)⟩, fun D1 hD1 => ?_⟩
    refine dcT_gen (n := us.length) (item := fun i => us.getD i .non) (fun i H4 => Same H3 H4 ∧ HeldT H4 D1 (putPs (ps.take i))) ⟨same_new hD1, upd_same⟩ (fun i H4 hi q => (goer_t K t us).go i H4 hi (rd_same (s23.trans q.1) ht)) (fun H4 q => (goer_t K t us).stop H4 (rd_same (s23.trans q.1) ht)) (fun i H4 x H' hi q y => (goer_t K t us).yld i H4 x H' (rd_same (s23.trans q.1) ht) hi y) ?_ ?_
    · rintro i H4 hi ⟨s4, e4⟩
      have hx : us[i]? = some us[i] := List.getElem?_eq_getElem hi
      obtain ⟨p, hp', vp⟩ := hps.get hx
      obtain ⟨T, eT, hT⟩ := vp.same (s23.trans s4)
      have ex : us.getD i .non = .ref T := by
        rw [List.getD_eq_getElem?_getD, hx]
        exact eT
      have et : ps.take (i + 1) = ps.take i ++ [p] := by rw [List.take_succ, hp']; rfl
      rw [ex, et, putPs_snoc]
      refine ⟨rfl, _, rfl, _, keyP p, T, rfl, hT, e4, ?_, same_mut s4 hD1, ?_⟩
      · have h1 := putPs_len (ps.take i)
        rw [List.length_take] at h1
        rw [kvs_len]
        exact small1000 (by omega)
      · show upd H4 D1 _ D1 = _
        rw [upd_same, putK_kvs]
    rintro H4 ⟨s4, e4⟩
    rw [lu, List.take_length] at e4
    have s24 := s23.trans s4
    refine ⟨_, rfl, t, rfl, ⟨_, .inl (rd_same s24 ht)⟩, fun D2 hD2 => ?_⟩
    have ps_at : ∀ (i : Nat) (x : V) (H5 : Hp), us[i]? = some x → Same H4 H5 → ∃ p T, ps[i]? = some p ∧ x = .ref T ∧ H5 T = some (.tup [.str p.1, .str p.2]) := fun i x H5 hx s5 => by
      obtain ⟨p, hp', vp⟩ := hps.get hx
      obtain ⟨T, eT, hT⟩ := vp.same (s24.trans s5)
      exact ⟨p, T, hp', eT, hT⟩
    refine out_tup (K := K) (a := t) (xs := us) (fun i H5 => Same H4 H5 ∧ ∃ m, m ≤ 64 * i ∧ H5 D2 = some (.lst ((List.replicate m true).map V.bl))) ⟨same_new hD2, 0, Nat.le_refl _, upd_same⟩ (fun i H5 _ q => .inl (rd_same (s24.trans q.1) ht)) ?_ ?_
    · rintro i x H5 hx ⟨s5, m, lm, e5⟩
      obtain ⟨p, T, hp', rfl, hT⟩ := ps_at i x H5 hx s5
      have hil := (List.getElem?_eq_some_iff.mp hx).1
      refine ⟨T, _, rfl, .inl (.inl hT), rfl, _, _, rfl, _, _, rfl, rfl, rfl, ?_⟩
      refine ⟨_, rfl, t, rfl, ⟨_, .inl (rd_same (s24.trans s5) ht)⟩, ?_⟩
      refine out_tup (K := K) (a := t) (xs := us) (fun j H6 => Same H4 H6 ∧ ∃ m, m ≤ 64 * i + j ∧ H6 D2 = some (.lst ((List.replicate m true).map V.bl))) ⟨s5, m, lm, e5⟩ (fun j H6 _ q => .inl (rd_same (s24.trans q.1) ht)) ?_ ?_
      · rintro j y H6 hy ⟨s6, m6, l6, e6⟩
        obtain ⟨q, T2, hq', rfl, hT2⟩ := ps_at j y H6 hy s6
        have hjl := (List.getElem?_eq_some_iff.mp hy).1
        refine ⟨T2, _, rfl, .inl (.inl hT2), rfl, _, _, rfl, _, _, rfl, rfl, rfl, ?_⟩
        refine ⟨_, rfl, _, rfl, rfl, _, rfl, ?_⟩
        by_cases c : q.1 = p.2
        · rw [decide_eq_true (congrArg V.str c)]
          have hin3 : (p.1, q.2) ∈ ps := htr p.1 p.2 q.2 (List.mem_of_getElem? hp') (c ▸ List.mem_of_getElem? hq')
          refine iteT ⟨_, rfl, _, rfl, by show 2 ≤ sizeLine; decide, fun T3 hT3 => ?_⟩
          have s7 : Same H6 (upd H6 T3 (.tup [.str p.1, .str q.2])) := same_new hT3
          refine ⟨_, rfl, D1, _, rfl, DGet.t (k := keyP (p.1, q.2)) (s7 _ _ (s6 _ _ e4)) upd_same, ?_⟩
          rw [valV_kvs, decide_eq_true ((putPs_mem ps _).mpr hin3)]
          refine ⟨_, s7 _ _ e6, ?_, same_mut (s6.trans s7) hD2, m6 + 1, by omega, ?_⟩
          · rw [List.length_map, List.length_replicate, sizeLine_eq]
            omega
          · rw [upd_same, List.replicate_succ', List.map_append]
            rfl
        · rw [decide_eq_false fun z => c (V.str.inj z)]
          exact iteF ⟨s6, m6, by omega, e6⟩
      · rintro H6 ⟨s6, m6, l6, e6⟩
        exact ⟨s6, m6, by omega, e6⟩
    · rintro H5 ⟨s5, m, lm, e5⟩
      refine ⟨D2, _, rfl, SqL.of e5, ?_⟩
      rw [List.all_replicate]
      have := k H5 (s24.trans s5)
      split
      · exact this
      · exact this
end
end Ah
set_option Elab.async false
set_option linter.all false
set_option maxRecDepth 100000
set_option maxHeartbeats 2000000
namespace PySem
namespace LowX
open PySem.W PySem.Calls PyProof.Rows PySem.HandSPX
/-! ### the text of __init__ -/
def iA (p1 p2 : Pos) : Arguments := { posonlyargs := [], args := [{ arg := "self", annotation := none, pos := p1 }, { arg := "circle", annotation := none, pos := p2 }], vararg := none, kwonlyargs := [], kw_defaults := [], kwarg := none, defaults := [] }
def iB (q1 q2 q3 q4 : Pos) : List Stmt := [.Assign [.Attribute (.Name "self" q1) "circle" q2] (.Name "circle" q3) q4]
def iS : Scope := { kind := .function, names := [(PySem.Str.ofString "self", .local), (PySem.Str.ofString "circle", .local)], isGenerator := false, isCoroutine := false, more := [] }
/-- what the written part says of Low, at C, and of its __init__, at fI -/
structure LowTxt (K : Frag) (mg : Str → Option Value) (C fI : Addr) : Prop where
  gC : mg "Knot" = some (.ref C)
  cls : ∃ nm q N bs bm sn sub ab col dd k0 k1 k2 k3 k5, K.lookup C = some (excClassObj nm q C N bs bm true sn sub ab col dd k0 k1 k2 k3 k5 "ValueError.__new__") ∧ refsVE bm = true
  sa : findIn K (.ref C) "__setattr__" = some (some (.builtin "object.__setattr__"))
  ga : findIn K (.ref C) "__getattribute__" = some (some (.builtin "BaseException.__getattribute__"))
  gg : findIn K (.ref C) "__getattr__" = some none
  noN : findIn K (.ref C) "circle" = some none
  iC : findIn K (.ref C) "__init__" = some (some (.ref fI))
  tC : typeIn K (.ref fI) = some (.type "function")
  kC : keepIn K (.ref C) = true
  exC : subIn K (.ref C) (.type "BaseException") = some true
  tyC : typeIn K (.ref C) = some (.type "type")
  hdC : hasDictIn K C = true
  te : exmOne K (.ref C) (.ref C) = some true
  fn : ∃ (oc : Value) (od : Option Addr) (doc pm : Value) (an : Option Addr) (cdv ct : Value) (osl : Array (Option Value)) (p1 p2 q1 q2 q3 q4 : Pos),
    K.lookup fI = some ⟨oc, od, .func (fnOf "__init__" "Knot.__init__" (iA p1 p2) (iB q1 q2 q3 q4) iS .none .none doc pm an cdv ct), osl⟩ ∧ codeIn K cdv "Knot.__init__" = true
theorem one_size (v : Value) : [v].length ≤ sizeLine := by
  rw [sizeLine_eq]
  exact (by decide : 1 ≤ 16777216)
theorem kept_but {K : Frag} {h h' : Heap} {x : Addr} (X : K.In h) (hx : K.lookup x = none) (k : ∀ b o, b ≠ x → h.get? b = some o → h'.get? b = some o) : K.In h' := fun a o e =>
  k a o (fun z => by rw [z, hx] at e; cases e) (X a o e)
theorem ldC {M : Model} {s : Shared} {name : Str} {scope : Scope} {L a : Addr} {cd : Value} {m : Str → Option Value} {x : Str} {pos : Pos} {v : Value} {Q : Value → Shared → Prop} {A : Around} {E : Value → Shared → Prop} (hn : s.heap.Ns L m) (hv : m x = some v) (h : Q v s)
    (hk : scope.kind = .function := by rfl) (hl : (envOfC name scope L a cd).kindOf x = some .local := by rfl) (hd : (x == ("__debug__" : Str)) = false := by decide) :
    wpAny M A (eval (.Name x pos) (envOfC name scope L a cd)) Q E s := wpAny_Name (wpAny_loadName_local hk hl hn hv h) hd
/-- what __init__ leaves of a fresh exception at x -/
structure InitEnd (h h' : Heap) (x C dx t1 : Addr) (v : Value) : Prop where
  keep : ∀ b o, b ≠ x → h.get? b = some o → h'.get? b = some o
  obj : h'.get? x = some { cls := .ref C, dict := some dx, data := .fields #[.ref t1, .none, .none, .none, .bool false, .none] }
  dbig : h.objs.size ≤ dx
  dne : dx ≠ x
  ns : h'.Ns1 dx (fun y => if y = "circle" then some v else none)
/-- a made Low -/
structure OwnMade (h h' : Heap) (e C d : Addr) (v : Value) : Prop where
  keep : ∀ b o, h.get? b = some o → h'.get? b = some o
  new : h.objs.size ≤ e
  obj : ∃ oe vs, h'.get? e = some oe ∧ oe.cls = .ref C ∧ oe.dict = some d ∧ oe.data = .fields vs ∧ vs[1]? = some .none
  dbig : h.objs.size ≤ d
  dne : d ≠ e
  ns : h'.Ns1 d (fun y => if y = "circle" then some v else none)
section
variable {prog : Program} {w : World} {A : Around} {E : Value → Shared → Prop} {R : Result → Shared → Prop} {s : Shared} {K : Frag} {mg : Str → Option Value} {C fI : Addr}
theorem low_init (T : LowTxt K mg C fI) {x t0 : Addr} {v : Value} (X : K.In s.heap) (hlim : s.heap.NoLimit) (hx : s.heap.get? x = some (excO C t0)) (hnx : K.lookup x = none) (hroom : A.depth < recursionLimit)
    (hq : ∀ h' tk dx, InitEnd s.heap h' x C dx t0 v → R (.ok (.ret .none)) { s with heap := h', toks := tk }) :
    codeAny (model prog w) A (.call (.ref fI) ⟨[.ref x, v], []⟩) R s := by
  obtain ⟨oc, od, doc, pm, an, cdv, ct, osl, p1, p2, q1, q2, q3, q4, ho, hcd⟩ := T.fn
  obtain ⟨nm, q, N, bs, bm, sn, sub, ab, col, dd, k0, k1, k2, k3, k5, hC, hbm⟩ := T.cls
  have hcl : clsIn K C = some { name := nm, bases := bs, mro := .ref C :: bm, ns := N, qualname := q, hasDict := true, slotNames := sn, subclasses := sub, abstract := ab, collection := col, hasDel := false } := by unfold clsIn; rw [hC] <;> rfl
  refine Att.call_fn (binds := [("self", .ref x), ("circle", v)]) X hlim ho hcd hroom (BindsTo.of_eq (by first | rfl | with_unfolding_all rfl)) (by first | rfl | decide | with_unfolding_all rfl) (fun s₁ IC => ?_) rfl rfl rfl
  obtain ⟨h₁, tk₁, rfl⟩ := IC.toInCall.same
  have k : ∀ b o, s.heap.get? b = some o → h₁.get? b = some o := IC.toInCall.keep
  have hn := IC.toInCall.ns
  have hxL : s.heap.objs.size ≠ x := Nat.ne_of_gt (Heap.lt_size hx)
  have X₁ : K.In h₁ := X.keeps k
  have hx₁ := k _ _ hx
  -- self.by = by
  show wpAny _ _ (execs _ _) _ _ _
  refine wpAny_execs_cons (plainObj_wpAny_Assign_Attribute ?_)
  refine ldC (v := v) hn (by first | rfl | with_unfolding_all rfl | kernel_rfl) (ldC (v := .ref x) hn (by first | rfl | with_unfolding_all rfl | kernel_rfl) ?_)
  refine set_plain X₁ (ox := excO C t0) (od := none) ⟨hx₁, rfl, rfl, trivial⟩ T.sa ?_
  refine exc_osa X₁ hx₁ hcl (show refsVE (.ref C :: bm) = true from hbm) rfl T.noN (fun h₃ tk₃ dx k₃ dn dne hx₃ hn₃ => ?_)
  show wpAny _ _ (execs _ _) _ _ _
  have z : s.heap.objs.size < h₁.objs.size := hn.lt
  exact wpAny_execs_nil (hq h₃ tk₃ dx ⟨fun b o hb e => k₃ b o hb (k b o e), hx₃, Nat.le_of_lt (Nat.lt_of_lt_of_le z dn), dne, hn₃⟩)
theorem low_made (T : LowTxt K mg C fI) {v : Value} (X : K.In s.heap) (hlim : s.heap.NoLimit) (hroom : A.depth + 1 < recursionLimit)
    (hq : ∀ h' tk e d, OwnMade s.heap h' e C d v → R (.ok (.ret (.ref e))) { s with heap := h', toks := tk }) :
    codeAny (model prog w) A (.call (.ref C) ⟨[v], []⟩) R s := by
  obtain ⟨nm, q, N, bs, bm, sn, sub, ab, col, dd, k0, k1, k2, k3, k5, hC, hbm⟩ := T.cls
  obtain ⟨hp, g, dr, tk, os⟩ := s
  have k : ∀ b o, hp.get? b = some o → ((hp.push (kdv_tup [v])).push (excO C hp.objs.size)).get? b = some o := fun b o e => Heap.get?_push_of_some _ (Heap.get?_push_of_some _ e)
  have hget : ((hp.push (kdv_tup [v])).push (excO C hp.objs.size)).get? (hp.objs.size + 1) = some (excO C hp.objs.size) := by heap_get
  have hnx : K.lookup (hp.objs.size + 1) = none := by
    cases e : K.lookup (hp.objs.size + 1) with
    | none => rfl
    | some o =>
      have z : hp.get? (hp.objs.size + 1) = some o := X _ _ e
      exact absurd (Nat.lt_of_succ_lt (Heap.lt_size z)) (Nat.lt_irrefl _)
  refine call_own F.excBase_ValueError (fun X => refsVE_contains X bm hbm) (X _ _ hC) (looks_findIn X T.iC) (fun self => bind_fn X self T.tC) (one_size v) ?_
  refine low_init (s := ⟨(hp.push (kdv_tup [v])).push (excO C hp.objs.size), g, dr, tk, os⟩) T (X.keeps k) (hlim.keeps k) hget hnx ?_ fun h' tk' dx ⟨k', hx, dn, dne, hns⟩ => ?_
  · show A.depth + 1 < recursionLimit
    exact hroom
  · have old : ∀ b o, hp.get? b = some o → h'.get? b = some o := fun b o e => k' b o (Nat.ne_of_lt (Nat.lt_succ_of_lt (Heap.lt_size e))) (k b o e)
    have z : hp.objs.size + 1 + 1 ≤ dx := by
      first
        | (simpa only [Heap.size_push] using dn)
        | exact dn
        | (have q := dn; rw [Heap.size_push, Heap.size_push] at q; exact q)
    exact ⟨rfl, hq h' tk' (hp.objs.size + 1) dx ⟨old, Nat.le_succ _, ⟨_, _, hx, rfl, rfl, rfl, rfl⟩, Nat.le_trans (Nat.le_trans (Nat.le_succ _) (Nat.le_succ _)) z, dne, hns⟩⟩
end
end LowX
end PySem
namespace L2
open PySem PySem.Spec PyProof.Rows
theorem relO_low {v : V} {v' : Value} (r : RelV v v') (f : Str) : RelO (List.lookup f [(("circle" : Str), v)]) (if f = "circle" then some v' else none) := by
  by_cases hw : f = "circle"
  · subst hw
    rw [if_pos rfl]
    have q : List.lookup ("circle" : Str) [(("circle" : Str), v)] = some v := by simp [List.lookup]
    rw [q]
    exact r
  · rw [if_neg hw]
    have qw : (f == ("circle" : Str)) = false := by simpa using hw
    have q2 : List.lookup f [(("circle" : Str), v)] = none := by simp [List.lookup, qw]
    rw [q2]
    trivial
section
variable {X : Cx} {C fI : Addr}
/-- Low(e) -/
def tMkLow (C : Addr) (ta : TA) : St → Hp → XK → Prop := fun σ H Q => ta σ H fun vs H1 => ∃ v, vs = [v] ∧ ∀ d, H1 d = none → Q (.ref C) (some d) (upd H1 d (.xd [(("circle" : Str), v)]))
theorem pmk_low {a : Expr} {ta : TA} {p pos : Pos} {k : Nat} (T : PySem.LowX.LowTxt X.K X.mg C fI) (hr : Room k X.A) (ha : PA X [a] ta) (hg : Gl X "Knot" := by rfl)
    (he : starEach (a :: []) X.env = (false, eval a X.env) :: starEach [] X.env := by rfl) (hpl : (backTo pos (starEach [] X.env)).any (·.1) = false := by rfl) :
    PMk X (.Call (.Name "Knot" p) [a] [] pos) (tMkLow C ta) := by
  intro pins s σ H Q I h
  refine wpAny_Call_Name_kw (ld_glob I hg T.gC ?_)
  refine PySem.W.callWith_K (h₀ := X.base) I.ok.mod.kin T.kC (thn (ha.run pos pins s σ H _ I h) fun us s1 hh => ?_) he hpl
  obtain ⟨vs, H1, I1, r1, v, ev, q1⟩ := hh
  subst ev
  refine ⟨I1.kIn, ?_⟩
  cases r1 with
  | cons rv rn =>
    rename_i v' us'
    cases rn
    show wpAny _ _ (call (.ref C) [v']) _ _ _
    have hlim := I1.nolimit
    obtain ⟨hp, g, dr, tk, os⟩ := s1
    refine wpAny_call (PySem.LowX.low_made T I1.kIn hlim (by have := hr.dp; omega) fun h' tk' e d M => ?_)
    show MkP X pins σ Q (.ref e) ⟨h', g, dr, tk', os⟩
    obtain ⟨oe, fv, hoe, hc, hd, hdat, h1⟩ := M.obj
    have hns := M.ns
    obtain ⟨G', g1, g2⟩ := restrict h' fun b => decide (b ≠ e)
    have gk : ∀ b, b ≠ e → G'.get? b = h'.get? b := fun b hb => g1 b (decide_eq_true hb)
    have ge : G'.get? e = none := g2 e (by simp)
    have old : ∀ b o, hp.get? b = some o → G'.get? b = some o := fun b o q => (gk b (Nat.ne_of_lt (Nat.lt_of_lt_of_le (Heap.lt_size q) M.new))).trans (M.keep b o q)
    have ob : ObjOk X.prog X.w (upd H1 d (.xd [(("circle" : Str), v)])) G' d (.xd [(("circle" : Str), v)]) :=
      ⟨_, hns.at (fun o q => (gk d M.dne).trans q), fun f => relO_low rv f⟩
    have J : Inv X pins σ (upd H1 d (.xd [(("circle" : Str), v)])) ⟨G', g, dr, tk', os⟩ := I1.laid (t' := tk') old M.dbig ob
    refine ⟨e, oe, fv, ⟨G', g, dr, tk', os⟩, _, .ref C, some d, rfl, J, fun b o q => ?_, ge, hoe, ⟨hc, hd⟩, hdat, h1, ?_, rfl, I1.bare, raises_own T.exC T.tyC, q1 d (I1.hok.fresh M.dbig)⟩
    · by_cases hb : b = e
      · have q' : G'.get? b = some o := q
        rw [hb, ge] at q'; cases q'
      · exact (gk b hb).symm.trans q
    · rw [upd_ne (Ne.symm M.dne)]
      exact I1.hok.fresh M.new
/-- raise Low(e) -/
def tRaiseLow (C : Addr) (W : WX) (ta : TA) : TS := fun _ σ H => tMkLow C ta σ H fun cls d H' => W cls d σ H'
theorem ps_raiseLow {a : Expr} {ta : TA} {W : WX} {p pos pos2 : Pos} {k : Nat} (hc : X.calm = true) (T : PySem.LowX.LowTxt X.K X.mg C fI) (hr : Room k X.A) (tk : Takes X W) (ha : PA X [a] ta) (hg : Gl X "Knot" := by rfl)
    (he : starEach (a :: []) X.env = (false, eval a X.env) :: starEach [] X.env := by rfl) (hpl : (backTo pos (starEach [] X.env)).any (·.1) = false := by rfl) :
    PS X (.Raise (some (.Call (.Name "Knot" p) [a] [] pos)) none pos2) (tRaiseLow C W ta) := ps_raise hc tk (pmk_low T hr ha hg he hpl)
/-- low.by, low the exception that the suite holds (at a; its class cls, its dict d) -/
def tByLow (C : Addr) (a : Addr) (cls : Value) (d : Option Addr) (te : TE) : TE := fun σ H Q => te σ H fun x H1 => x = .ref a ∧ cls = .ref C ∧ ∃ (dd : Addr) (v : V), d = some dd ∧ H1 dd = some (.xd [(("circle" : Str), v)]) ∧ Q v H1
theorem pe_byLow {a : Addr} {oe : Obj} {cls : Value} {d : Option Addr} {pn : List (Addr × Obj)} {e : Expr} {te : TE} {pos : Pos} (T : PySem.LowX.LowTxt X.K X.mg C fI) (hz : Zc cls d oe) (hf : ∃ vs, oe.data = .fields vs) (he : PE (X.suite a ((a, oe) :: pn)) e te)
    (hb : attributeBase e "circle" X.env (eval e X.env) = eval e X.env := by rfl) :
    PE (X.suite a ((a, oe) :: pn)) (.Attribute e "circle" pos) (tByLow C a cls d te) := by
  refine ⟨fun pins s σ H Q I h => ?_⟩
  refine attr_of hb (thn (he.run pins s σ H _ I h) fun u s1 hh => ?_)
  obtain ⟨x, H1, I1, rx, ex, ec, dd, v, ed, ea, q⟩ := hh
  subst ex
  obtain rfl : u = Value.ref a := rx
  subst ec
  subst ed
  obtain ⟨ha, _⟩ := I1.pin (a, oe) (List.mem_append_left _ List.mem_cons_self)
  obtain ⟨vs, hd⟩ := hf
  have hx : ObjOk X.prog X.w H1 s1.heap dd (.xd [(("circle" : Str), v)]) := I1.hok dd _ ea
  obtain ⟨mA, hns, hr⟩ := hx
  obtain ⟨od, ho, hl⟩ := lookIn_ns hns
  have l : List.lookup ("circle" : Str) [(("circle" : Str), v)] = some v := by simp [List.lookup]
  obtain ⟨u, hu, ru⟩ := RelO.some_of (v := v) (o := mA "circle") (by rw [← l]; exact hr "circle")
  have J : PySem.W.InstAt s1.heap a oe C (some od) := ⟨ha, hz.1, by unfold PySem.W.notCls; rw [hd] <;> rfl, by rw [hz.2]; exact ho⟩
  exact HandSPX.exc_get I1.kIn J T.ga T.gg T.exC (PySem.W.findObj_own T.hdC T.noN rfl (by rw [hl, hu])) (handed_of ru) ⟨v, H1, I1.tok _, ru, q⟩
end
end L2

namespace L2
open PySem PySem.Spec PyProof.Rows
/-- an if whose test is known -/
theorem if_true_of {c : Bool} {A B : Prop} (hc : c = true) (h : A) : if c = true then A else B := by
  rw [if_pos hc]
  exact h
theorem if_false_of {c : Bool} {A B : Prop} (hc : c = false) (h : B) : if c = true then A else B := by
  rw [hc, if_neg Bool.false_ne_true]
  exact h
end L2
set_option Elab.async false
set_option linter.all false
set_option maxRecDepth 100000
set_option maxHeartbeats 4000000
namespace PySem.W
open PySem PySem.Spec PySem.Calls PyProof.Rows
section
variable {prog : Program} {w : World} {A : Around} {E : Value → Shared → Prop} {s : Shared} {K : Frag} {x D : Addr} {ox : Obj}
theorem findObj_dataO {C : Addr} {name : Str} {a gn : Value} (ec : (clsIn K C).isSome = true) (aa : findIn K (.ref C) name = some (some a)) (hg : specialIn K a "__get__" = some (some gn)) (ht : takesIn K a = some true) : findObj K C od name = some (.bind gn a) := by
  obtain ⟨cc, ec⟩ := Option.isSome_iff_exists.mp ec
  unfold findObj
  rw [ec, Option.bind_some, aa, Option.bind_some]
  simp [hg, ht]
theorem kin_classO {Q : Option Value → Shared → Prop} (gga : findIn K (.ref D) "__getattribute__" = some (some (.builtin "BaseException.__getattribute__"))) (ggt : findIn K (.ref D) "__getattr__" = some none) (ssub : subIn K (.ref D) (.type "BaseException") = some true)
    (ddct : hasDictIn K D = true) (aa : findIn K (.ref D) "__class__" = some (some (.builtin "object.__class__")))
    (nn : specialIn K (.builtin "object.__class__") "__get__" = some (some (.builtin "getset_descriptor.__get__"))) (ttk : takesIn K (.builtin "object.__class__") = some true) (mm : mroIn K D (.type "object") = some true)
    (Y : K.In s.heap) (J : InstAt s.heap x ox D od) (hyp : Q (some (.ref D)) { s with toks := s.toks + 1 }) : wpAny (model prog w) A (getAttr? (.ref x) "__class__") Q E s := by
  have fnd : findObj K D od "__class__" = some (.bind (.builtin "getset_descriptor.__get__") (.builtin "object.__class__")) := findObj_dataO (by obtain ⟨cc, ec, _⟩ := any_some ddct; rw [ec]; rfl) aa nn ttk
  obtain ⟨hh, gn, dr, tk, os⟩ := s
  have k0 := J.type (M := model prog w)
  have k1 := looks_findIn (M := model prog w) Y gga
  have k2 := looks_findIn (M := model prog w) Y ggt
  have k3 := looks_find (M := model prog w) Y J fnd
  have ksub : Looks (model prog w) hh (isInstance (.ref x) (.type "BaseException")) true := k0.andThen (looks_subIn Y ssub)
  have z0 : (false && onTheHeap (Value.builtin "BaseException.__getattribute__")) = false := rfl
  have z2 : (Value.builtin "BaseException.__getattribute__" == Value.builtin "object.__getattribute__") = false := by decide +kernel
  have z1 : (onTheHeap (Value.ref D) && Value.builtin "BaseException.__getattribute__" == Value.builtin "object.__getattribute__") = false := by rw [z2]; rfl
  unfold getAttr? getAttrBy? getAttrBy
  refine wpAny_bind (wpAny_mkText (wpAny_bind (wpAny_attempt (wpAny_holding (wpAny_bind (k0.at (wpAny_bind (k1.at ?_))))))))
  show wpAny _ _ (if (onTheHeap (Value.ref D) && Value.builtin "BaseException.__getattribute__" == Value.builtin "object.__getattribute__") = true then _ else _) _ _ _
  rw [z1, if_neg Bool.false_ne_true]
  unfold getAttrByItsOwn hookBefore
  refine wpAny_bind ?_
  rw [if_pos (show onTheHeap (Value.ref D) = true from rfl)]
  refine k2.at ?_
  refine wpAny_bind (wpAny_attempt (wpAny_holding ?_))
  unfold callGetattribute
  rw [z0, if_neg Bool.false_ne_true]
  unfold boundAndCalled
  rw [PySem.F.excAttr_ValueError.ga.bind (.ref x)]
  refine wpAny_bind (wpAny_pure ?_)
  show wpAny _ _ (call (.builtin "BaseException.__getattribute__") [.ref x, .str "__class__" tk]) _ _ _
  refine wpAny_call (codeAny_call_builtin PySem.F.excAttr_ValueError.ga.plain PySem.F.entry_bexc_ga ?_)
  refine @check_slot (model prog w) _ _ ⟨hh, gn, dr, tk + 1, os⟩ "BaseException.__getattribute__" "BaseException" "__getattribute__" (.ref x) [.str "__class__" tk] [] _ (by decide +kernel) (by decide +kernel) ksub (PySem.F.args_bexc_ga (.ref x) (.str "__class__" tk)) ?_
  unfold Builtin.«object.__getattribute__»
  refine wpAny_bind (wpAny_of_eq (a := ((Value.ref x : Value), [Value.str "__class__" tk])) (by first | rfl | (simp only [slotArgs]; rfl)) ?_)
  refine wpAny_bind (wpAny_pure (wpAny_bind (k0.at (wpAny_bind (k3.at ?_)))))
  show wpAny _ _ (holding [Value.builtin "object.__class__"] (call (.builtin "getset_descriptor.__get__") [.builtin "object.__class__", .ref x, .ref D]) >>= ret) _ _ _
  refine wpAny_bind (wpAny_holding (wpAny_call (class_get (s := ⟨hh, gn, dr, tk + 1, os⟩) (ox := ox) (od := od) Y J mm ?_)))
  refine wpAny_pure ?_
  show wpAny _ _ (handedOut (.ref D)) _ _ _
  rw [handedOut_of (v := .ref D) rfl]
  first
    | exact wpAny_pure (wpAny_pure hyp)
    | exact wpAny_pure hyp
    | exact wpAny_pure (wpAny_bind (wpAny_pure (wpAny_pure hyp)))
theorem kitx_excO (gga : findIn K (.ref D) "__getattribute__" = some (some (.builtin "BaseException.__getattribute__"))) (ggt : findIn K (.ref D) "__getattr__" = some none) (ssub : subIn K (.ref D) (.type "BaseException") = some true) (ddct : hasDictIn K D = true) (aa : findIn K (.ref D) "__class__" = some (some (.builtin "object.__class__")))
    (nn : specialIn K (.builtin "object.__class__") "__get__" = some (some (.builtin "getset_descriptor.__get__"))) (ttk : takesIn K (.builtin "object.__class__") = some true) (mm : mroIn K D (.type "object") = some true) :
    KitX K (.ref x) (.ref D) (fun hyp => InstAt hyp x ox D od) where
  ty := fun _ _ _ J => J.type
  it := fun _ _ Y _ => by
    obtain ⟨ccD, ecD, _⟩ := any_some ddct
    unfold clsIn at ecD
    split at ecD
    · rename_i c1 d1 cd1 sl1 eo
      intro A' Q' E' s' kk qq
      unfold isType loadHead
      exact wpAny_bind (wpAny_loadPart (kk _ _ (Y _ _ eo)) (wpAny_pure qq))
    · cases ecD
  ne := fun hyp tp dd its n sl Y etp => by
    obtain ⟨ccD, ecD, _⟩ := any_some ddct
    refine Bool.eq_false_iff.mpr fun qq => ?_
    have ee : D = tp := Value.ref.inj (beq_iff_eq.mp qq)
    subst ee
    unfold clsIn at ecD
    split at ecD
    · rename_i c1 d1 cd1 sl1 eo
      have zz := (Y _ _ eo).symm.trans etp
      cases zz
    · cases ecD
  ca := fun Y J kk => kin_classO gga ggt ssub ddct aa nn ttk mm Y J kk
end
end PySem.W
set_option Elab.async false
set_option linter.all false
set_option maxRecDepth 100000
set_option maxHeartbeats 4000000
namespace Ah
open PySem PySem.Spec PyProof.Rows L2
/-! isinstance(e, c), e the exception of an own class with fields that the suite holds -/
def rIsO (K : PySem.W.Frag) (D a : Addr) (cls : Value) (d : Option Addr) : List V → Hp → VK → Prop := fun xs H Q => ∃ (c : V) (cv : Value) (b : Bool), xs = [.ref a, c] ∧ (∀ u, RelV c u → u = cv) ∧ PySem.W.kitOne K (.ref D) cv = some b ∧ cls = .ref D ∧ (∃ (dd : Addr) (f : Str) (v : V), d = some dd ∧ H dd = some (.xd [(f, v)])) ∧ Q (.bl b) H
theorem call_isO {X : Cx} {a D : Addr} {oe : Obj} {cls : Value} {d : Option Addr} {pn : List (Addr × Obj)} (C : ExcC X.K D) (hz : Zc cls d oe) (hf : ∃ vs, oe.data = .fields vs) : CallR (X.suite a ((a, oe) :: pn)) (.builtin "isinstance") (rIsO X.K D a cls d) := by
  intro pins s σ H xs us Q I r h
  obtain ⟨c, cv, b, rfl, hcv, e, rfl, ⟨dd, f, v, rfl, ea⟩, q⟩ := h
  obtain ⟨u1, us1, r1, rr, rfl⟩ : ∃ u1 us1, RelV (.ref a) u1 ∧ Vals [c] us1 ∧ us = u1 :: us1 := by
    cases r with
    | cons h1 h2 => exact ⟨_, _, h1, h2, rfl⟩
  obtain ⟨u2, rfl, r2⟩ := rr.one
  cases r1
  obtain rfl := hcv _ r2
  obtain ⟨ha, _⟩ := I.pin (a, oe) (List.mem_append_left _ List.mem_cons_self)
  obtain ⟨vs, hd⟩ := hf
  have hx : ObjOk X.prog X.w H s.heap dd (.xd [(f, v)]) := I.hok dd _ ea
  obtain ⟨mA, hns, hr⟩ := hx
  obtain ⟨od, ho, hl⟩ := lookIn_ns hns
  have J : PySem.W.InstAt s.heap a oe D (some od) := ⟨ha, hz.1, by unfold PySem.W.notCls; rw [hd] <;> rfl, by rw [hz.2]; exact ho⟩
  exact PySem.W.kia_one (PySem.W.kitx_excO C.hg C.hk C.hs C.hd C.ha C.hn C.ht C.hm) I.kIn J e (fun z => nomatch z) fun tk => ⟨.bl b, H, I.kept (t' := tk) fun _ _ z => z, rfl, q⟩
/-! t.count(x) -/
theorem eqv_txt (x y : Str) : PyData.eqv (.str x) (.str y) = (x == y) := by simp only [PyData.eqv]
theorem plain_txts (ys : List Str) : PyData.plainAll (ys.map PyData.str) = true ∧ PyData.depthAll (ys.map PyData.str) = 0 := by
  induction ys with
  | nil => exact ⟨by simp [PyData.plainAll], by simp [PyData.depthAll]⟩
  | cons y r ih => exact ⟨by simp [PyData.plainAll, PyData.plain, ih.1], by simp [PyData.depthAll, PyData.depth, ih.2]⟩
theorem mt_tcount {X : Cx} (hu : X.A.units + 1 < cLine) : MtR X "tuple.count" (fun x xs H Q => ∃ p, ∃ ys : List Str, ∃ z, x = .ref p ∧ xs = [.str z] ∧ SqT X.K H p (ys.map V.str) ∧ Q (.int ((ys.count z : Nat) : Int)) H) := by
  intro pins s σ H x xs v us Q I rx rs h
  obtain ⟨p, ys, z, rfl, rfl, hq, q⟩ := h
  cases rx
  obtain ⟨u, rfl, ru⟩ := vals1 rs
  obtain ⟨as, rd⟩ := Dp.reads I (.tuple (ys.map PyData.str)) (.ref p) (.ref p) (.tup hq (dp_strs ys)) rfl
  obtain ⟨bs, ru⟩ := Dp.reads I (.str z) (.str z) u (.str z) ru
  cases rd with
  | tuple h1 h2 h3 h4 =>
    refine PySem.SeqAt.count_tuple_data ⟨_, h1, h2, _, h3⟩ (by simpa using h4) ru (plain_txts ys).1 (by simp [PyData.plain]) (by rw [(plain_txts ys).2]; simp; exact hu) ?_
    refine ⟨.int _, H, I.tok _, ⟨_, rfl⟩, ?_⟩
    rw [List.countP_map]
    have e : ((fun y => PyData.eqv y (PyData.str z)) ∘ PyData.str) = fun y => y == z := funext fun y => eqv_txt y z
    rw [e]
    exact q
/-! tuple(reversed(xs)) -/
def tTupRev (K : PySem.W.Frag) (te : TE) : TE := fun σ H Q => te σ H fun x H1 => ∃ (a : Addr) (xs : List V), x = .ref a ∧ SqL K H1 a xs ∧ NewF H1 xs.reverse Q
theorem pe_tupRev {X : Cx} {e : Expr} {te : TE} {p1 p2 pos1 pos2 : Pos} (hc : X.calm = true) (hg1 : Gl X "tuple") (hm1 : X.mg "tuple" = none) (hg2 : Gl X "reversed") (hm2 : X.mg "reversed" = none) (he : PE X e te)
    (na : starEach [e] X.env = (false, eval e X.env) :: starEach [] X.env := by rfl) (nb : starEach [Expr.Call (.Name "reversed" p2) [e] [] pos2] X.env = (false, eval (.Call (.Name "reversed" p2) [e] [] pos2) X.env) :: starEach [] X.env := by rfl) :
    PE X (.Call (.Name "tuple" p1) [.Call (.Name "reversed" p2) [e] [] pos2] [] pos1) (tTupRev X.K te) := by
  refine ⟨fun pins s σ H Q I h => ?_⟩
  have inner : wpAny (model X.prog X.w) X.A (eval (.Call (.Name "reversed" p2) [e] [] pos2) X.env) (fun v s1 => ∃ (s0 : Shared) (H1 : Hp) (a : Addr) (xs : List V) (its : List Value), Inv X pins σ H1 s0 ∧ Vals xs its ∧ xs.length ≤ sizeLine ∧ NewF H1 xs.reverse Q ∧ v = .ref s0.heap.objs.size ∧ s0.heap.IsList a its.toArray ∧
      s1 = { s0 with heap := s0.heap.push { cls := .type "list_reverseiterator", data := .fields #[.ref a, rawInt ((its.toArray.size : Nat) - 1)] } }) X.xe s := by
    refine Call_ (ld_blt I hg2 hm2 PyProof.Rows.boot_reversed (PyProof.Rows.callWith_type1 (one_arg he I h (fun v s2 x H2 I2 r q => ?_) na) na))
    obtain ⟨a, xs, rfl, hq, q⟩ := q
    obtain rfl : v = .ref a := r
    obtain ⟨its, rv, p', hz⟩ := I2.list hq
    exact call_reversed_list p'.isList ⟨s2, H2, a, xs, its, I2, rv, hz, q, rfl, p'.isList, rfl⟩
  refine Call_ (ld_blt I hg1 hm1 boot_tuple (PyProof.Rows.callWith_type1 (args_cons (thn inner fun v s1 hv => args_nil ?_) nb) nb))
  obtain ⟨s0, H1, a, xs, its, I1, rv, hz, q, rfl, hl, rfl⟩ := hv
  have hlen := rv.length
  have hne : a ≠ s0.heap.objs.size := fun z => by
    obtain ⟨o, ho, _⟩ := hl
    exact absurd (Heap.lt_size ho) (by rw [z]; exact Nat.lt_irrefl _)
  refine RT.call_tuple_rev (items := its.toArray) (I1.ok.hd hc) ⟨_, Heap.get?_push_size _ rfl, rfl, rfl⟩ (hl.push _) hne (by rw [List.size_toArray]; omega) fun h' tk acc keep hacc => ?_
  have keep0 : ∀ b o, s0.heap.get? b = some o → h'.get? b = some o := fun b o e => keep b o (Nat.ne_of_lt (Heap.lt_size e)) (Heap.get?_push_of_some _ e)
  have I2 : Inv X pins σ H1 { s0 with heap := h', toks := tk } := I1.kept (t' := tk) keep0
  have ev : acc.toList = its.reverse := by
    have la : acc.toList.length = its.length := by rw [Array.length_toList, hacc.1, List.size_toArray]
    refine List.ext_getElem? fun i => ?_
    by_cases hi : i < its.length
    · rw [List.getElem?_reverse hi]
      have h1 := hacc.2 i acc[i]! (by
        rw [getElem!_pos acc i (by rw [← Array.length_toList, la]; exact hi)]
        exact Array.getElem?_eq_getElem _)
      rw [List.size_toArray, List.getElem?_toArray] at h1
      rw [h1, Array.getElem?_toList, getElem!_pos acc i (by rw [← Array.length_toList, la]; exact hi)]
      exact Array.getElem?_eq_getElem _
    · rw [List.getElem?_eq_none (by omega), List.getElem?_eq_none (by rw [List.length_reverse]; omega)]
  have ea : acc = its.reverse.toArray := by
    rw [← ev, Array.toArray_toList]
  refine ⟨.ref h'.objs.size, _, I2.laid (t' := tk) (o := .frz { cls := .type "tuple", data := .seq acc } (.tup xs.reverse)) (fun b u e => Heap.get?_push_of_some _ e) (Nat.le_refl _) ?_, rfl, q _ _ rfl (I2.hok.fresh (Nat.le_refl _))⟩
  refine ⟨Heap.get?_push_size _ rfl, by rw [List.length_reverse]; exact hz, its.reverse, rv.reverse, ?_⟩
  rw [ea]
  exact IsTup.new _ _
end Ah
set_option Elab.async false
set_option linter.all false
set_option maxRecDepth 100000
set_option maxHeartbeats 4000000
namespace Ah
open PySem PySem.Spec PyProof.Rows L2
abbrev sCircle : Stmt := topS 13
theorem pss_dead {X : Cx} {st : List Stmt} : PSs X st (fun _ _ _ => False) := ⟨fun _ _ _ _ _ _ h => h.elim⟩
section
variable {P : Program} {w : World} {K : PySem.W.Frag} {mg : Str → Option Value} {base : Heap}
theorem scCircle : FnScope ["knotted", "pairs", "walk", "earlier"] ["knotted", "pairs"] (defScope sCircle) := ⟨rfl, rfl, rfl, by decide +kernel, rfl, by decide +kernel, by decide +kernel⟩
def spCircle : Sp := fun vs H Q _ => ∃ (a b : Addr) (ls : List Str) (us : List V) (ps : List (Str × Str)), vs = [.ref a, .ref b] ∧ H a = some (.lst (ls.map V.str)) ∧ LTu H b us ∧ PrsV H us ps ∧ (∀ x ∈ ls, PyData.strOk x = true) ∧ PrsOk ps ∧ ls.length ≤ 60 ∧ ls ≠ [] ∧ peel ps ls = ls ∧ (∀ x, (x, x) ∉ ps) ∧
  ∀ (t : Addr) (cs : List Str) (H' : Hp), Same H H' → Ftp H' t (cs.map V.str) → Circ ps cs → (∀ x ∈ cs, x ∈ ls) → Q (.ref t) H'
theorem ok_circle {f f1 : Addr} {fd fd1 : FuncData} (F : Fun K "circle_of" "circle_of" sCircle f fd) (B : Blt2 mg) (Br : mg "reversed" = none) (D : Df P w K mg base CX0 "told_ahead" 1 f1 fd1 ["hands", "pairs", "hand"] spAhead) : FnOk P w K mg base CX0 2 f fd ["knotted", "pairs"] spCircle := by
  refine F.ok scCircle (fun vs H Q E h => ?_) (fun cdv A outer s H vs Q E hr h => ?_)
  · obtain ⟨a, b, ls, us, ps, rfl, _⟩ := h
    rfl
  · obtain ⟨a, b, ls, us, ps, rfl, ha, hb, hps, ok, okp, hl, ne, st, irr, k⟩ := h
    have nd := scCircle.nd
    refine ⟨_, pss_cons (ps_set (i := 2) nd rfl (.inl rfl) (pe_lst (pa_cons (pe_ix (r := rIxL K) ix_list (pv 0) pe_int (fun _ _ => rfl)) pa_nil)))
      (pss_cons (ps_set (i := 3) nd rfl (.inl rfl) (pe_ix (r := rIxL K) ix_list (pe_call D.ok hr rfl D.g D.kp D.b .nil pass0 (pa_cons (pv 0) (pa_cons (pv 1) (pa_cons (pe_ix (r := rIxL K) ix_list (pv 2) (pe_un un_neg pe_int) (fun _ _ => rfl)) pa_nil)))) pe_int (fun _ _ => rfl)))
      (pss_cons (ps_while PassesOwn.never (pt_cmpR (r := rIn K true) op_notIn_seq (pv 3) (pv 2) (by rfl))
        (pss_cons (ps_expr (pe_bm PySem.F.plainAttrs_list PySem.F.slot_list_append PySem.F.type_list_append mt_append (pv 2) (pa_cons (pv 3) pa_nil)))
        (pss_one (ps_set (i := 3) nd rfl (.inl rfl) (pe_ix (r := rIxL K) ix_list (pe_call D.ok hr rfl D.g D.kp D.b .nil pass0 (pa_cons (pv 0) (pa_cons (pv 1) (pa_cons (pe_ix (r := rIxL K) ix_list (pv 2) (pe_un un_neg pe_int) (fun _ _ => rfl)) pa_nil)))) pe_int (fun _ _ => rfl))))))
      (pss_one (ps_ret (pe_tupRev rfl (by rfl) B.tuple (by rfl) Br (pe_slice sl_list (pv 2) (po_some (pe_bm PySem.F.plainAttrs_list PySem.F.slot_list_index PySem.F.type_list_index mt_index (pv 2) (pa_cons (pv 3) pa_nil))) po_none)))))), ?_⟩
    obtain ⟨k0, rest, rfl⟩ : ∃ k0 rest, ls = k0 :: rest := by
      cases ls with
      | nil => exact absurd rfl ne
      | cons x r => exact ⟨x, r, rfl⟩
    have first : ∀ (l : Str), l ∈ k0 :: rest → ∃ e r, aheadOf ps (k0 :: rest) l = e :: r ∧ e ∈ k0 :: rest ∧ (e, l) ∈ ps := fun l hl => by
      cases q : aheadOf ps (k0 :: rest) l with
      | nil => exact absurd q (ahead_some st hl)
      | cons e r =>
        have := ahead_mem (ps := ps) (l := k0 :: rest) (b := l) (a := e) (by rw [q]; exact List.mem_cons_self ..)
        exact ⟨e, r, rfl, this.1, this.2⟩
    refine ⟨_, rfl, a, _, (0 : Nat), .str k0, rfl, rfl, SqL.of ha, atI_nat rfl, by show 1 ≤ sizeLine; decide, fun W hW => ?_⟩
    have sW : Same H (upd H W (.lst [.str k0])) := same_new hW
    have eW : (upd H W (.lst [.str k0])) W = some (.lst (([] ++ [k0]).map V.str)) := upd_same
    generalize upd H W (.lst [.str k0]) = H1 at sW eW ⊢
    -- the one ahead of the last
    have turn : ∀ (H2 : Hp) (w0 : List Str) (l : Str) (Q' : VK), Same H H2 → H2 W = some (.lst ((w0 ++ [l]).map V.str)) → l ∈ k0 :: rest → (∀ (e : Str) (H3 : Hp), Same H2 H3 → e ∈ k0 :: rest → (e, l) ∈ ps → Q' (.str e) H3) →
        rIxL K (.ref W) (.int (-1)) H2 fun v H3 => spAhead [.ref a, .ref b, v] H3 (fun q H4 => rIxL K q (.int 0) H4 Q') E0 := fun H2 w0 l Q' s2 e2 hlm kk => by
      obtain ⟨e, r, he, hem, hel⟩ := first l hlm
      refine ⟨W, (w0.map V.str) ++ [.str l], -1, .str l, rfl, rfl, SqL.of (by rw [e2, List.map_append]; rfl), atI_last _ _, ?_⟩
      refine ⟨a, b, k0 :: rest, us, ps, l, rfl, s2 _ _ ha, hb.same s2, hps.same s2, ok, ok _ hlm, okp, hl, fun q H3 s3 e3 => ?_⟩
      rw [he] at e3
      exact ⟨q, _, 0, .str e, rfl, rfl, SqL.of e3, atI_nat (j := 0) rfl, kk e H3 s3 hem hel⟩
    refine ⟨_, rfl, _, rfl, _, rfl, 1, rfl, turn H1 [] k0 _ sW eW (List.mem_cons_self ..) fun e H2 s2 hem hel => ?_⟩
    refine ⟨fun m σ H2 => ∃ (w0 : List Str) (l e : Str), m = (k0 :: rest).length - (w0.length + 1) ∧ σ = [some (.ref a), some (.ref b), some (.ref W), some (.str e)] ∧ Same H H2 ∧ H2 W = some (.lst ((w0 ++ [l]).map V.str)) ∧ Walked ps (k0 :: rest) (w0 ++ [l]) ∧ e ∈ k0 :: rest ∧ (e, l) ∈ ps,
      ⟨_, [], k0, e, rfl, rfl, sW.trans s2, s2 _ _ eW, Walked.one (List.mem_cons_self ..), hem, hel⟩, ?_⟩
    rintro m σ H3 ⟨w0, l, e, rfl, rfl, s3, e3, wk, hem, hel⟩
    have lw : (w0 ++ [l]).length = w0.length + 1 := by rw [List.length_append]; rfl
    have hlast : (w0 ++ [l])[(w0 ++ [l]).length - 1]? = some l := by rw [lw, Nat.add_sub_cancel, List.getElem?_append_right (Nat.le_refl _), Nat.sub_self]; rfl
    have lle := nodup_sub_le wk.nd wk.sub
    refine ⟨_, rfl, _, rfl, W, _, rfl, .inl (SqL.of e3), rfl, flat_strs _, _, rfl, ?_⟩
    rw [if_pos rfl, inV_txts]
    by_cases c : e ∈ w0 ++ [l]
    · rw [decide_eq_true c]
      refine iteF ?_
      have hj := idx_at c
      have hjl := (List.getElem?_eq_some_iff.mp hj).1
      generalize hjj : (w0 ++ [l]).idxOf e = j at hj hjl
      refine ⟨_, rfl, _, rfl, .inl ⟨rfl, _, SqL.of e3⟩, _, rfl, W, (w0 ++ [l]).map V.str, .str e, j, .str e, rfl, rfl, SqL.of e3, rfl, flat_strs _, by rw [List.getElem?_map, hj]; rfl, by simp [eqV], fun m z hm hz => ?_, ?_⟩
      · obtain ⟨x, hx, rfl, _⟩ := str_at hz
        have : x ≠ e := fun q => by
          subst q
          have := (List.getElem?_inj (by omega) wk.nd).mp (hx.trans hj.symm)
          omega
        simp [eqV, this]
      · refine ⟨_, rfl, ?_⟩
        dsimp only [tNoPart]
        refine ⟨W, _, rfl, SqL.of e3, fun q hq => ?_⟩
        rw [cutV_from (by rw [List.length_map]; omega), ← List.map_drop]
        refine ⟨q, _, rfl, SqL.of upd_same, newF fun t H4 s4 f4 => ?_⟩
        rw [← List.map_reverse] at f4
        refine k t _ H4 ((s3.trans (same_new hq)).trans s4) f4 (wk.circ hlast hel hj irr) fun x hx => wk.sub x (List.mem_of_mem_drop (List.mem_reverse.mp hx))
    · rw [decide_eq_false c]
      have wk' := wk.snoc hlast hem c hel
      have lle' := nodup_sub_le wk'.nd wk'.sub
      rw [List.length_append, lw, List.length_singleton] at lle'
      refine iteT ⟨fun σ' H' => ∃ e', σ' = [some (.ref a), some (.ref b), some (.ref W), some (.str e')] ∧ Same H H' ∧ H' W = some (.lst (((w0 ++ [l]) ++ [e]).map V.str)) ∧ e' ∈ k0 :: rest ∧ (e', e) ∈ ps, ?_, ?_⟩
      · rintro σ' H' ⟨e', rfl, s', e4, h1, h2⟩
        exact ⟨_, by rw [lw]; omega, w0 ++ [l], e, e', rfl, rfl, s', e4, wk', h1, h2⟩
      refine ⟨_, rfl, .inl ⟨rfl, _, SqL.of e3⟩, _, rfl, W, _, .str e, rfl, rfl, e3, small1000 (by rw [List.length_map]; omega), ?_⟩
      refine ⟨_, rfl, _, rfl, _, rfl, 1, rfl, turn _ (w0 ++ [l]) e _ (same_mut s3 hW) (by rw [upd_same, List.map_append (l₁ := w0 ++ [l])]; rfl) hem fun e' H4 s4 h1 h2 => ?_⟩
      exact ⟨e', rfl, (same_mut s3 hW).trans s4, s4 _ _ (by rw [upd_same, List.map_append (l₁ := w0 ++ [l])]; rfl), h1, h2⟩
end
end Ah
set_option Elab.async false
set_option linter.all false
set_option maxRecDepth 100000
set_option maxHeartbeats 4000000
namespace Ah
open PySem PySem.Spec PyProof.Rows L2
theorem for_gen {J : It} {L : Hp → Prop} {xs : List V} (G : Goer J L xs) {g : TG} {tb : TS} {D : Ends} {σ : L2.St} {H : Hp} (Pv : Nat → L2.St → Hp → Prop) (h0 : Pv 0 σ H) (hl : ∀ i σ H, i ≤ xs.length → Pv i σ H → L H)
    (hs : ∀ i σ H, i < xs.length → Pv i σ H → g (xs.getD i .non) σ H fun σ2 H2 => tb { D with nx := Pv (i + 1), ct := Pv (i + 1), bk := D.nx } σ2 H2) (hd : ∀ σ H, Pv xs.length σ H → D.nx σ H) :
    ∃ W : Nat → Nat → L2.St → Hp → Prop, (∃ m, W 0 m σ H) ∧ ∀ i m σ H, W i m σ H →
      (J.stop i H ∧ D.nx σ H) ∨ (J.go i H ∧ ∃ N : L2.St → Hp → Prop, (∀ σ' H', N σ' H' → ∃ m', m' < m ∧ W (i + 1) m' σ' H') ∧ ∀ x H', J.yld i H x H' → g x σ H' fun σ2 H2 => tb { D with nx := N, ct := N, bk := D.nx } σ2 H2) := by
  refine ⟨fun i m σ H => m = xs.length - i ∧ i ≤ xs.length ∧ Pv i σ H, ⟨xs.length, rfl, Nat.zero_le _, h0⟩, ?_⟩
  rintro i m σ H ⟨rfl, hi, p⟩
  have q := hl i σ H hi p
  rcases Nat.lt_or_ge i xs.length with hlt | hge
  · refine .inr ⟨G.go i H hlt q, Pv (i + 1), fun σ' H' p' => ⟨xs.length - (i + 1), by omega, rfl, hlt, p'⟩, fun x H' y => ?_⟩
    obtain ⟨rfl, rfl⟩ := G.yld i H x H' q hlt y
    exact hs i σ _ hlt p
  · obtain rfl : i = xs.length := by omega
    exact .inl ⟨G.stop H q, hd σ H p⟩
theorem getD_strs (xs : List Str) {i : Nat} (h : i < xs.length) : (xs.map V.str).getD i .non = .str (xs.getD i default) := by
  rw [List.getD_eq_getElem?_getD, List.getD_eq_getElem?_getD, List.getElem?_map, List.getElem?_eq_getElem h]
  rfl
/-- how many keys there can be -/
theorem keys_few {ks : List (Str × Str)} {xs : List Str} (nd : ks.Nodup) (h : ∀ a c, (a, c) ∈ ks → a ∈ xs ∧ c ∈ xs) : ks.length ≤ xs.length * xs.length :=
  Nat.le_trans (nodup_sub_le (m := dueOf (fun _ _ => true) xs) nd fun p hp => dueOf_mem.mpr ⟨(h p.1 p.2 hp).1, (h p.1 p.2 hp).2, rfl⟩) dueOf_len
theorem iOr_by2 {K : PySem.W.Frag} {tl : TE} {a : Addr} {xs : List V} {σ : L2.St} {H H1 : Hp} {R : It → Hp → Prop} (ht : ∀ Q : VK, Q (.ref a) H1 → tl σ H1 Q) (s : Same H H1) (h : LTu H a xs) (k : ∀ J L, Goer J L xs → L H → R J H1) : iOr (iList K tl) (iTup K tl) σ H1 R := by
  rcases h with h | h
  · exact .inl (ht _ ⟨a, rfl, ⟨xs, SqL.of (s _ _ h)⟩, k _ _ (goer_l K a xs) h⟩)
  · exact .inr (ht _ ⟨a, rfl, ⟨xs, .inl (rd_same s h)⟩, k _ _ (goer_t K a xs) h⟩)
theorem sorted_one {ys zs : List Str} (h : ys.Pairwise sLt) (k : zs.Pairwise sLt) (p : ys.Perm zs) : ys = zs :=
  List.Perm.eq_of_pairwise (le := sLt) (fun a b _ _ h k => absurd (sLt_trans h k) (sLt_irr a)) h k p
theorem sLt_nodup {hs : List Str} (h : hs.Pairwise sLt) : hs.Nodup := by
  unfold List.Nodup
  refine h.imp ?_
  intro a b h e
  subst e
  exact sLt_irr a h
abbrev sClosed : Stmt := topS 10
section
variable {P : Program} {w : World} {K : PySem.W.Frag} {mg : Str → Option Value} {base : Heap}
theorem scClosed : FnScope ["hands", "pairs", "knotted", "held", "b", "a", "before", "c", "behind", "pair"] ["hands", "pairs"] (defScope sClosed) := ⟨rfl, rfl, rfl, by decide +kernel, rfl, by decide +kernel, by decide +kernel⟩
/-- of any pairs of unlike hands -/
def spClosed (C : Addr) : Sp := fun vs H Q E => ∃ (a b : Addr) (xs : List Str) (us : List V) (ps : List (Str × Str)) (hs : List Str) (R : Str → Str → Bool), vs = [.ref a, .ref b] ∧ LTu H a (xs.map V.str) ∧ LTu H b us ∧ PrsV H us ps ∧ (∀ x ∈ xs, PyData.strOk x = true) ∧ PrsOk ps ∧ xs.length ≤ 8 ∧ ps.length ≤ 100 ∧
  (∀ x y, (x, y) ∈ ps → x ∈ xs ∧ y ∈ xs) ∧ xs.Perm hs ∧ hs.Pairwise sLt ∧ (∀ x y, R x y = true ↔ Lead ps x y) ∧ (∀ x, (x, x) ∉ ps) ∧
  (Nat.repeat (peel ps) hs.length hs = [] → ∀ (t : Addr) (ws : List V) (H' : Hp), Same H H' → Ftp H' t ws → PrsV H' ws (dueOf R hs) → Q (.ref t) H') ∧
  ∀ (t : Addr) (cs : List Str) (x : Addr) (H' : Hp), Same H H' → Ftp H' t (cs.map V.str) → Circ ps cs → (∀ z ∈ cs, z ∈ xs) → H x = none → H' x = some (.xd [("circle", .ref t)]) → E (.ref C) (some x) H'
theorem ok_closed {f C fI f1 f2 : Addr} {fd fd1 fd2 : FuncData} (F : Fun K "closed" "closed" sClosed f fd) (B : Blt2 mg) (T : PySem.LowX.LowTxt K mg C fI) (D : Df P w K mg base CX0 "knotted_hands" 2 f1 fd1 ["hands", "pairs"] spKnotted) (D2 : Df P w K mg base CX0 "circle_of" 2 f2 fd2 ["knotted", "pairs"] spCircle) : FnOk P w K mg base (L2.CX P w) 3 f fd ["hands", "pairs"] (spClosed C) := by
  refine F.okX scClosed (fun vs H Q E h => ?_) (fun cdv A outer s H vs Q E hr h => ?_)
  · obtain ⟨a, b, xs, us, ps, hs, R, rfl, _⟩ := h
    rfl
  · obtain ⟨a, b, xs, us, ps, hs, R, rfl, ha, hb, hps, ok, okp, hl, hl2, hin, hpm, hst, hR, irr, kN, kS⟩ := h
    have nd := scClosed.nd
    have hu := hu_of hr
    have hu1 : (A.deeper (envOfC "closed" (defScope sClosed) s.heap.objs.size f cdv)).units < cLine := by
      have := hu
      omega
    refine ⟨_, pss_cons (ps_set (i := 2) nd rfl (.inl rfl) (pe_call D.ok hr rfl D.g D.kp D.b .nil pass0 (pa_cons (pv 0) (pa_cons (pv 1) pa_nil))))
      (pss_cons (ps_if (pt_truth (pv 2) (by intro _; rfl)) (pss_one (ps_raiseLow rfl T hr (takes_of rfl rfl rfl rfl) (by exact (pa_cons (pe_call D2.ok hr rfl D2.g D2.kp D2.b .nil pass0 (pa_cons (pv 2) (pa_cons (pv 1) pa_nil))) pa_nil)))) pss_nil)
      (pss_cons (ps_set (i := 3) nd rfl (.inr rfl) (pe_dcT (mine := [("pair", 9)]) (tst := tYes) (gt := gName 9) (tke := tVar 9) (tva := tC (.bl true)) rfl hu1 nd (pi_or (pi_list (pv 1)) (pi_tup (pv 1))) (blkOk_by (N := ["hands", "pairs", "knotted", "held", "b", "a", "before", "c", "behind", "pair"]) (sc := defScope sClosed) (by decide +kernel))
          (fun _ _ _ _ _ => pg_name (i := 9) nd rfl (Or.inl rfl)) (fun _ _ _ _ _ => pts_nil) (fun _ _ _ _ _ => pv 9) (fun _ _ _ _ _ => pe_bl)))
      (pss_cons (ps_for (passes_of rfl) rfl (pi_or (pi_list (pv 0)) (pi_tup (pv 0))) (pg_name (i := 4) nd rfl (.inr rfl))
        (pss_cons (ps_setLc (i := 6) (own := [("a", 5)]) (g := gName 5) (tt := tB (tDIn (tTup (tCons (tVar 5) (tCons (tVar 4) tNil))) (tVar 3))) (te := tVar 5) rfl nd rfl rfl (by rfl) (pi_or (pi_list (pv 0)) (pi_tup (pv 0)))
            (blkOk_by (N := ["hands", "pairs", "knotted", "held", "b", "a", "before", "c", "behind", "pair"]) (sc := defScope sClosed) (by decide +kernel)) (fun _ _ _ _ _ => pg_name (i := 5) nd rfl (Or.inl rfl))
            (fun _ _ _ _ _ => pts_one (pt_cmp (pc_din hu (pe_tup (pa_cons (pv 5) (pa_cons (pv 4) pa_nil))) (pv 3)))) (fun _ _ _ _ _ => pv 5))
        (pss_cons (ps_setLc (i := 8) (own := [("c", 7)]) (g := gName 7) (tt := tB (tDIn (tTup (tCons (tVar 4) (tCons (tVar 7) tNil))) (tVar 3))) (te := tVar 7) rfl nd rfl rfl (by rfl) (pi_or (pi_list (pv 0)) (pi_tup (pv 0)))
            (blkOk_by (N := ["hands", "pairs", "knotted", "held", "b", "a", "before", "c", "behind", "pair"]) (sc := defScope sClosed) (by decide +kernel)) (fun _ _ _ _ _ => pg_name (i := 7) nd rfl (Or.inl rfl))
            (fun _ _ _ _ _ => pts_one (pt_cmp (pc_din hu (pe_tup (pa_cons (pv 4) (pa_cons (pv 7) pa_nil))) (pv 3)))) (fun _ _ _ _ _ => pv 7))
        (pss_one (ps_for (passes_of rfl) rfl (pi_list (pv 6)) (pg_name (i := 5) nd rfl (.inl rfl))
          (pss_one (ps_for (passes_of rfl) rfl (pi_list (pv 8)) (pg_name (i := 7) nd rfl (.inl rfl))
            (pss_one (ps_dput hu (pv 3) (pe_tup (pa_cons (pv 5) (pa_cons (pv 7) pa_nil))) pe_bl rfl)))))))))
      (pss_one (ps_ret (pe_callTy call_tuple_ofF (by rfl) B.tuple (by decide +kernel) (pa_cons (pe_callB (cr_sortedT rfl hr.units) (by rfl) B.sorted (by decide +kernel) (pa_cons (pv 3) pa_nil)) pa_nil))))))), ?_⟩
    have lu := hps.len
    have lm : (xs.map V.str).length = xs.length := List.length_map ..
    refine ⟨_, rfl, _, rfl, a, b, xs, us, ps, rfl, ha, hb, hps, ok, okp, by omega, fun q ys H1 s1 py sy e1 => ?_⟩
    have ndh := sLt_nodup hst
    have ndy : ys.Nodup := (py.trans hpm).nodup_iff.mpr ndh
    have eys : ys = hs := sorted_one (rises_of_sorted sy ndy) hst (py.trans hpm)
    subst eys
    by_cases emp : Nat.repeat (peel ps) ys.length ys = []
    rotate_left
    · refine ⟨_, rfl, _, .inl ⟨_, SqL.of e1, rfl⟩, ?_⟩
      have sub := repeat_sub (f := peel ps) (fun l x z => (List.mem_filter.mp z).1) (fun l => List.length_filter_le _ _) ys ys.length
      have st := peels_stand ps ys
      generalize Nat.repeat (peel ps) ys.length ys = ls at e1 emp sub st ⊢
      have ly := py.length_eq
      have eb : (!(ls.map V.str).isEmpty) = true := by
        cases ls with
        | nil => exact absurd rfl emp
        | cons => rfl
      rw [eb]
      refine iteT ⟨_, rfl, _, rfl, q, b, ls, us, ps, rfl, e1, hb.same s1, hps.same s1, fun x z => ok x (py.mem_iff.mp (sub.1 x z)), okp, by omega, emp, st, irr, fun t cs H2 s2 ft ci sb => ⟨.ref t, rfl, fun x hx => ?_⟩⟩
      refine kS t cs x _ ((s1.trans s2).trans (same_new hx)) (ft.same (same_new hx)) ci (fun z hz => py.mem_iff.mp (sub.1 z (sb z hz))) ?_ upd_same
      cases e : H x with
      | none => rfl
      | some o => rw [(s1.trans s2) x o e] at hx; cases hx
    rw [emp] at e1
    have k := kN emp
    refine ⟨_, rfl, _, .inl ⟨_, SqL.of e1, rfl⟩, ?_⟩
    refine iteF ?_
    refine iOr_by (fun Q q => ⟨_, rfl, q⟩) (hb.same s1) fun J L G hL => fun D1 hD1 => ?_
    have hD1H : H D1 = none := none_of s1 hD1
    refine dcT_gen (n := us.length) (item := fun i => us.getD i .non) (fun i H4 => Same H1 H4 ∧ HeldT H4 D1 (putPs (ps.take i))) ⟨same_new hD1, upd_same⟩ (fun i H4 hi q => G.go i H4 hi (G.keep _ _ q.1 hL)) (fun H4 q => G.stop H4 (G.keep _ _ q.1 hL)) (fun i H4 x H' hi q y => G.yld i H4 x H' (G.keep _ _ q.1 hL) hi y) ?_ ?_
    · rintro i H4 hi ⟨s4, e4⟩
      have hx : us[i]? = some us[i] := List.getElem?_eq_getElem hi
      obtain ⟨p, hp', vp⟩ := hps.get hx
      obtain ⟨T, eT, hT⟩ := vp.same (s1.trans s4)
      have ex : us.getD i .non = .ref T := by
        rw [List.getD_eq_getElem?_getD, hx]
        exact eT
      have et : ps.take (i + 1) = ps.take i ++ [p] := by rw [List.take_succ, hp']; rfl
      rw [ex, et, putPs_snoc]
      refine ⟨rfl, _, rfl, _, keyP p, T, rfl, hT, e4, ?_, same_mut s4 hD1, ?_⟩
      · have h1 := putPs_len (ps.take i)
        rw [List.length_take] at h1
        rw [kvs_len]
        exact small1000 (by omega)
      · show upd H4 D1 _ D1 = _
        rw [upd_same, putK_kvs]
    rintro H4 ⟨s4, e4⟩
    rw [lu, List.take_length] at e4
    have s14 := s1.trans s4
    refine iOr_by2 (fun Q q => ⟨_, rfl, q⟩) s14 ha fun J2 L2' G2 hL2 => ?_
    refine for_gen G2 (fun i σ H5 => ∃ (o4 o5 o6 o7 o8 : Option V) (ks : List (Str × Str)), σ = [some (.ref a), some (.ref b), some (.ref q), some (.ref D1), o4, o5, o6, o7, o8, none] ∧ Same H H5 ∧ HeldT H5 D1 ks ∧ ks.Nodup ∧ ∀ x y, (x, y) ∈ ks ↔ vias (fun x y => (x, y) ∈ ps) (xs.take i) x y)
      ⟨none, none, none, none, none, putPs ps, rfl, s14, e4, putPs_nodup ps, fun x y => putPs_mem ps _⟩ (fun i σ H5 _ ⟨_, _, _, _, _, _, _, z, _⟩ => G2.keep _ _ z hL2) ?_ ?_
    · rintro i σ H5 hi ⟨o4, o5, o6, o7, o8, ks, rfl, s5, e5, nd5, m5⟩
      rw [lm] at hi
      rw [getD_strs xs hi]
      have eti : xs.take (i + 1) = xs.take i ++ [xs.getD i default] := by rw [List.take_succ, getD_at hi]; rfl
      generalize hb' : xs.getD i default = b' at eti
      refine iOr_by2 (fun Q q => ⟨_, rfl, q⟩) s5 ha fun J6 L6 G3 hL6 => fun D6 hD6 => ?_
      refine lc_gen (n := (xs.map V.str).length) (item := fun i => (xs.map V.str).getD i .non) (fun j H6 => Same H5 H6 ∧ H6 D6 = some (.lst (((xs.take j).filter fun x => decide ((x, b') ∈ ks)).map V.str))) ⟨same_new hD6, upd_same⟩ (fun j H6 hj q => G3.go j H6 hj (G3.keep _ _ (s5.trans q.1) hL6)) (fun H6 q => G3.stop H6 (G3.keep _ _ (s5.trans q.1) hL6)) (fun j H6 x H' hj q y => G3.yld j H6 x H' (G3.keep _ _ (s5.trans q.1) hL6) hj y) ?_ ?_
      · rintro j H6 hj ⟨s6, e6⟩
        rw [lm] at hj
        rw [getD_strs xs hj]
        have et : xs.take (j + 1) = xs.take j ++ [xs.getD j default] := by rw [List.take_succ, getD_at hj]; rfl
        generalize xs.getD j default = x at et ⊢
        refine ⟨rfl, _, rfl, _, rfl, by show 2 ≤ sizeLine; decide, fun T hT => ?_⟩
        have s7 : Same H6 (upd H6 T (.tup [.str x, .str b'])) := same_new hT
        refine ⟨_, rfl, D1, _, rfl, DGet.t (k := keyP (x, b')) (s7 _ _ (s6 _ _ e5)) upd_same, _, rfl, ?_⟩
        rw [valV_kvs, et, List.filter_append, List.map_append]
        have e7 := s7 _ _ e6
        by_cases c : (x, b') ∈ ks
        · rw [decide_eq_true c, List.filter_cons, if_pos (decide_eq_true c)]
          refine iteT ⟨_, rfl, _, e7, ?_, same_mut (s6.trans s7) hD6, upd_same⟩
          rw [List.length_map]
          exact small1000 (Nat.le_trans (List.length_filter_le _ _) (by rw [List.length_take]; omega))
        · rw [decide_eq_false c, List.filter_cons, if_neg (by rw [decide_eq_false c]; exact Bool.false_ne_true)]
          refine iteF ⟨s6.trans s7, ?_⟩
          rw [e7]
          simp
      rintro H7 ⟨s6, e6⟩
      rw [lm, List.take_length] at e6
      have s57 := s5.trans s6
      have e5 := s6 _ _ e5
      refine iOr_by2 (fun Q q => ⟨_, rfl, q⟩) s57 ha fun J8 L8 G4 hL8 => fun D8 hD8 => ?_
      refine lc_gen (n := (xs.map V.str).length) (item := fun i => (xs.map V.str).getD i .non) (fun j H6 => Same H7 H6 ∧ H6 D8 = some (.lst (((xs.take j).filter fun x => decide ((b', x) ∈ ks)).map V.str))) ⟨same_new hD8, upd_same⟩ (fun j H6 hj q => G4.go j H6 hj (G4.keep _ _ (s57.trans q.1) hL8)) (fun H6 q => G4.stop H6 (G4.keep _ _ (s57.trans q.1) hL8)) (fun j H6 x H' hj q y => G4.yld j H6 x H' (G4.keep _ _ (s57.trans q.1) hL8) hj y) ?_ ?_
      · rintro j H6 hj ⟨s6, e6⟩
        rw [lm] at hj
        rw [getD_strs xs hj]
        have et : xs.take (j + 1) = xs.take j ++ [xs.getD j default] := by rw [List.take_succ, getD_at hj]; rfl
        generalize xs.getD j default = x at et ⊢
        refine ⟨rfl, _, rfl, _, rfl, by show 2 ≤ sizeLine; decide, fun T hT => ?_⟩
        have s7 : Same H6 (upd H6 T (.tup [.str b', .str x])) := same_new hT
        refine ⟨_, rfl, D1, _, rfl, DGet.t (k := keyP (b', x)) (s7 _ _ (s6 _ _ e5)) upd_same, _, rfl, ?_⟩
        rw [valV_kvs, et, List.filter_append, List.map_append]
        have e7 := s7 _ _ e6
        by_cases c : (b', x) ∈ ks
        · rw [decide_eq_true c, List.filter_cons, if_pos (decide_eq_true c)]
          refine iteT ⟨_, rfl, _, e7, ?_, same_mut (s6.trans s7) hD8, upd_same⟩
          rw [List.length_map]
          exact small1000 (Nat.le_trans (List.length_filter_le _ _) (by rw [List.length_take]; omega))
        · rw [decide_eq_false c, List.filter_cons, if_neg (by rw [decide_eq_false c]; exact Bool.false_ne_true)]
          refine iteF ⟨s6.trans s7, ?_⟩
          rw [e7]
          simp
      rintro H8 ⟨s8, e8⟩
      rw [lm, List.take_length] at e8
      have s58 := s57.trans s8
      have e5 : HeldT H8 D1 ks := s8 _ _ e5
      have e6 := s8 _ _ e6
      have hin5 : ∀ x y, (x, y) ∈ ks → x ∈ xs ∧ y ∈ xs := fun x y h => (vias_lead _ (fun _ _ h => Lead.one h) ((m5 x y).mp h)).left hin
      generalize hbf : (xs.filter fun x => decide ((x, b') ∈ ks)) = bf at e6
      generalize hbh : (xs.filter fun x => decide ((b', x) ∈ ks)) = bh at e8
      have mf : ∀ x, x ∈ bf ↔ (x, b') ∈ ks := fun x => by
        rw [← hbf, List.mem_filter]
        exact ⟨fun h => of_decide_eq_true h.2, fun h => ⟨(hin5 _ _ h).1, decide_eq_true h⟩⟩
      have mh : ∀ x, x ∈ bh ↔ (b', x) ∈ ks := fun x => by
        rw [← hbh, List.mem_filter]
        exact ⟨fun h => of_decide_eq_true h.2, fun h => ⟨(hin5 _ _ h).2, decide_eq_true h⟩⟩
      have l64 : xs.length * xs.length ≤ 8 * 8 := Nat.mul_le_mul hl hl
      refine ⟨_, rfl, D6, rfl, ⟨_, SqL.of e6⟩, ?_⟩
      refine for_list (K := K) (a := D6) (xs := bf.map V.str) (fun u σ H9 => ∃ (o5 o7 : Option V) (kl : List (Str × Str)), σ = [some (.ref a), some (.ref b), some (.ref q), some (.ref D1), some (.str b'), o5, some (.ref D6), o7, some (.ref D8), none] ∧ Same H H9 ∧ H9 D6 = some (.lst (bf.map V.str)) ∧ H9 D8 = some (.lst (bh.map V.str)) ∧ HeldT H9 D1 kl ∧ kl.Nodup ∧ ∀ x y, (x, y) ∈ kl ↔ (x, y) ∈ ks ∨ (x ∈ bf.take u ∧ y ∈ bh))
        ⟨_, _, ks, rfl, s58, e6, e8, e5, nd5, fun x y => ⟨.inl, fun z => z.elim id fun z => by simp at z⟩⟩ (fun u σ H9 _ ⟨_, _, _, _, _, z, _⟩ => SqL.of z) ?_ ?_
      · rintro u x σ H9 hx ⟨o5', o7', kl, rfl, s9, f6, f8, e9, nd9, m9⟩
        obtain ⟨x0, hx0, rfl, hxm⟩ := str_at hx
        have etu : bf.take (u + 1) = bf.take u ++ [x0] := by rw [List.take_succ, hx0]; rfl
        refine ⟨_, rfl, D8, rfl, ⟨_, SqL.of f8⟩, ?_⟩
        refine for_list (K := K) (a := D8) (xs := bh.map V.str) (fun v σ H10 => ∃ (o7 : Option V) (kl : List (Str × Str)), σ = [some (.ref a), some (.ref b), some (.ref q), some (.ref D1), some (.str b'), some (.str x0), some (.ref D6), o7, some (.ref D8), none] ∧ Same H H10 ∧ H10 D6 = some (.lst (bf.map V.str)) ∧ H10 D8 = some (.lst (bh.map V.str)) ∧ HeldT H10 D1 kl ∧ kl.Nodup ∧ ∀ x y, (x, y) ∈ kl ↔ ((x, y) ∈ ks ∨ (x ∈ bf.take u ∧ y ∈ bh)) ∨ (x = x0 ∧ y ∈ bh.take v))
          ⟨_, kl, rfl, s9, f6, f8, e9, nd9, fun x y => (m9 x y).trans ⟨.inl, fun z => z.elim id fun z => by simp at z⟩⟩ (fun u σ H9 _ ⟨_, _, _, _, _, z, _⟩ => SqL.of z) ?_ ?_
        · rintro v y σ H10 hy ⟨o7'', kl2, rfl, s10, g6, g8, e10, nd10, m10⟩
          obtain ⟨y0, hy0, rfl, hym⟩ := str_at hy
          have etv : bh.take (v + 1) = bh.take v ++ [y0] := by rw [List.take_succ, hy0]; rfl
          have in10 : ∀ x y, (x, y) ∈ kl2 → x ∈ xs ∧ y ∈ xs := fun x y h => by
            rcases (m10 x y).mp h with (h | h) | h
            · exact hin5 x y h
            · exact ⟨(hin5 _ _ ((mf x).mp (List.mem_of_mem_take h.1))).1, (hin5 _ _ ((mh y).mp h.2)).2⟩
            · exact ⟨h.1 ▸ (hin5 _ _ ((mf x0).mp hxm)).1, (hin5 _ _ ((mh y).mp (List.mem_of_mem_take h.2))).2⟩
          have few := keys_few nd10 in10
          refine ⟨_, rfl, _, rfl, _, rfl, by show 2 ≤ sizeLine; decide, fun T hT => ?_⟩
          have sT : Same H10 (upd H10 T (.tup [.str x0, .str y0])) := same_new hT
          refine ⟨D1, _, rfl, DPut.t (k := keyP (x0, y0)) (sT _ _ e10) upd_same ?_, _, putP kl2 (x0, y0), rfl, same_mut (s10.trans sT) hD1H, ?_, ?_, ?_, putP_nodup nd10, fun x y => ?_⟩
          · rw [kvs_len]
            exact small1000 (by omega)
          · exact (upd_ne fun z => by rw [z] at g6; rw [show H10 D1 = _ from e10] at g6; cases g6).trans (sT _ _ g6)
          · exact (upd_ne fun z => by rw [z] at g8; rw [show H10 D1 = _ from e10] at g8; cases g8).trans (sT _ _ g8)
          · show upd _ D1 _ D1 = _
            rw [upd_same, putK_kvs]
          · rw [putP_mem, m10, etv, List.mem_append, List.mem_singleton, Prod.mk.injEq, or_assoc, or_assoc, or_assoc]
            constructor
            · rintro (h | h | h | h)
              · exact .inl h
              · exact .inr (.inl h)
              · exact .inr (.inr ⟨h.1, .inl h.2⟩)
              · exact .inr (.inr ⟨h.1, .inr h.2⟩)
            · rintro (h | h | ⟨h1, h2 | h2⟩)
              · exact .inl h
              · exact .inr (.inl h)
              · exact .inr (.inr (.inl ⟨h1, h2⟩))
              · exact .inr (.inr (.inr ⟨h1, h2⟩))
        · rintro σ H10 ⟨o7'', kl2, rfl, s10, g6, g8, e10, nd10, m10⟩
          rw [List.length_map, List.take_length] at m10
          refine ⟨_, _, kl2, rfl, s10, g6, g8, e10, nd10, fun x y => (m10 x y).trans ?_⟩
          rw [etu, List.mem_append, List.mem_singleton]
          constructor
          · rintro ((h | h) | h)
            · exact .inl h
            · exact .inr ⟨.inl h.1, h.2⟩
            · exact .inr ⟨.inr h.1, h.2⟩
          · rintro (h | ⟨h1 | h1, h2⟩)
            · exact .inl (.inl h)
            · exact .inl (.inr ⟨h1, h2⟩)
            · exact .inr ⟨h1, h2⟩
      · rintro σ H9 ⟨o5', o7', kl, rfl, s9, f6, f8, e9, nd9, m9⟩
        rw [List.length_map, List.take_length] at m9
        refine ⟨_, _, _, _, _, kl, rfl, s9, e9, nd9, ?_⟩
        rw [eti]
        refine fun x y => ?_
        rw [vias_snoc]
        exact via_keys m5 (fun x y => by rw [m9, mf, mh]) x y
    · rintro σ H5 ⟨o4, o5, o6, o7, o8, ks, rfl, s5, e5, nd5, m5⟩
      rw [lm, List.take_length] at m5
      have few : ks.length ≤ xs.length * xs.length := keys_few nd5 fun x y h => ((vias_all hin).mp ((m5 x y).mp h)).left hin
      have l64 : xs.length * xs.length ≤ 8 * 8 := Nat.mul_le_mul hl hl
      refine ⟨_, rfl, D1, kvsOf ks, rfl, .inl e5, ?_, ?_, ?_, ?_, fun bs zs p isk pm e hp => ?_⟩
      · rw [keyD_kvs]; exact prs_alike ks
      · rw [keyD_kvs]; exact prs_sortable ks
      · rw [keyD_kvs]; exact prs_depth ks
      · rw [kvs_len]; omega
      rw [keyD_kvs] at pm e
      rw [closed_due hR (fun x y h => ⟨hpm.mem_iff.mp (hin x y h).1, hpm.mem_iff.mp (hin x y h).2⟩) hpm hst nd5 m5] at e
      have due := keys_sorted isk pm e
      have sp : Same H5 (upd H5 p (.lst (zs.map (·.1)))) := same_new hp
      refine ⟨p, zs.map (·.1), rfl, SqL.of upd_same, newF fun t H6 s6 f6 => ?_⟩
      exact k t _ H6 ((s5.trans sp).trans s6) f6 (due.same (sp.trans s6))
end
end Ah
set_option Elab.async false
set_option linter.all false
set_option maxRecDepth 100000
set_option maxHeartbeats 4000000
namespace Ah
open PySem PySem.Spec PyProof.Rows L2
abbrev sCheckWeb : Stmt := topS 9
abbrev sKeeps : Stmt := topS 14
theorem idx_first {xs : List Str} {x : Str} {m : Nat} (h : m < xs.idxOf x) : xs[m]? ≠ some x := fun e => by
  have hm := (List.getElem?_eq_some_iff.mp e).1
  induction xs generalizing m with
  | nil => cases e
  | cons y r ih =>
    rw [List.idxOf_cons] at h
    by_cases q : y = x
    · subst q
      simp at h
    · have q' : (y == x) = false := by simp [q]
      rw [q'] at h
      cases m with
      | zero => exact q (Option.some.inj e)
      | succ m =>
        have h' : m < r.idxOf x := by simpa using h
        exact ih h' (by simpa using e) (by simpa using hm)
section
variable {P : Program} {w : World} {K : PySem.W.Frag} {mg : Str → Option Value} {base : Heap}
theorem scCheckWeb : FnScope ["hands", "web"] ["hands", "web"] (defScope sCheckWeb) := ⟨rfl, rfl, rfl, by decide +kernel, rfl, by decide +kernel, by decide +kernel⟩
/-- what a web of hands is -/
structure WebAt (H : Hp) (t : Addr) (us : List V) (hs : List Str) (ps : List (Str × Str)) : Prop where
  at' : Rd H t (.tup us)
  prs : PrsV H us ps
  rises : ps.Pairwise pLt
  few : ps.length ≤ 64
  mem : ∀ x y, (x, y) ∈ ps → x ∈ hs ∧ y ∈ hs ∧ x ≠ y
  thru : ∀ x y z, (x, y) ∈ ps → (y, z) ∈ ps → (x, z) ∈ ps
theorem WebAt.same {H H' : Hp} {t : Addr} {us : List V} {hs : List Str} {ps : List (Str × Str)} (k : Same H H') (h : WebAt H t us hs ps) : WebAt H' t us hs ps :=
  ⟨rd_same k h.at', h.prs.same k, h.rises, h.few, h.mem, h.thru⟩
def spCheckWeb : Sp := fun vs H Q _ => ∃ (g t : Addr) (us : List V) (hs : List Str) (ps : List (Str × Str)), vs = [.ref g, .ref t] ∧ LTu H g (hs.map V.str) ∧ WebAt H t us hs ps ∧ ∀ H', Same H H' → Q .non H'
theorem ok_checkWeb {f f1 : Addr} {fd fd1 : FuncData} (F : Fun K "check_web" "check_web" sCheckWeb f fd) (D : Df P w K mg base CX0 "is_web" 2 f1 fd1 ["hands", "thing"] spIsWeb) : FnOk P w K mg base CX0 3 f fd ["hands", "web"] spCheckWeb := by
  refine F.ok scCheckWeb (fun vs H Q E h => ?_) (fun cdv A outer s H vs Q E hr h => ?_)
  · obtain ⟨g, t, us, hs, ps, rfl, _⟩ := h
    rfl
  · obtain ⟨g, t, us, hs, ps, rfl, hg, hw, k⟩ := h
    refine ⟨_, pss_one (ps_if (pt_not (pt_val (pe_call D.ok hr rfl D.g D.kp D.b .nil pass0 (pa_cons (pv 0) (pa_cons (pv 1) pa_nil))))) pss_dead pss_nil), ?_⟩
    exact ⟨_, rfl, _, rfl, g, t, us, hs, ps, rfl, hg, hw.at', hw.prs, hw.rises, hw.few, hw.mem, hw.thru, fun H' s => ⟨true, rfl, iteF (k H' s)⟩⟩
theorem scKeeps : FnScope ["web", "row", "a", "b"] ["web", "row"] (defScope sKeeps) := ⟨rfl, rfl, rfl, by decide +kernel, rfl, by decide +kernel, by decide +kernel⟩
def spKeeps : Sp := fun vs H Q _ => ∃ (t r : Addr) (us : List V) (row : List Str) (ps : List (Str × Str)), vs = [.ref t, .ref r] ∧ Ftp H r (row.map V.str) ∧ WebAt H t us row ps ∧ KeepR row ps ∧ ∀ H', Same H H' → Q (.bl true) H'
theorem ok_keeps {f f1 : Addr} {fd fd1 : FuncData} (F : Fun K "keeps" "keeps" sKeeps f fd) (B : Blt2 mg) (D : Df P w K mg base CX0 "check_web" 3 f1 fd1 ["hands", "web"] spCheckWeb) : FnOk P w K mg base CX0 4 f fd ["web", "row"] spKeeps := by
  refine F.ok scKeeps (fun vs H Q E h => ?_) (fun cdv A outer s H vs Q E hr h => ?_)
  · obtain ⟨t, r, us, row, ps, rfl, _⟩ := h
    rfl
  · obtain ⟨t, r, us, row, ps, rfl, hrr, hw, keep, k⟩ := h
    have nd := scKeeps.nd
    refine ⟨_, pss_cons (ps_expr (pe_call D.ok hr rfl D.g D.kp D.b .nil pass0 (pa_cons (pv 1) (pa_cons (pv 0) pa_nil))))
      (pss_one (ps_ret (pe_callB (cr_all rfl) (by rfl) B.all (by decide +kernel) (pa_cons (pe_lc (own := [("a", 2), ("b", 3)]) (g := gTup K 2 (gCons (gName 2) (gCons (gName 3) gNil))) (tt := tYes) (te := tOp (rI0 fun i j => .bl (decide (i < j))) (tTix K (tVar 1) (tCons (tVar 2) tNil)) (tTix K (tVar 1) (tCons (tVar 3) tNil))) rfl nd (pi_tup (pv 0))
          (blkOk_by (N := ["web", "row", "a", "b"]) (sc := defScope sKeeps) (by decide +kernel)) (fun _ _ _ _ _ => pg_tup rfl (pgs_cons (pg_name (i := 2) nd rfl (Or.inl rfl)) (pgs_cons (pg_name (i := 3) nd rfl (Or.inl rfl)) pgs_nil))) (fun _ _ _ _ _ => pts_nil)
          (fun _ _ _ _ _ => pe_cmpR op_lt (pe_tix (pv 1) (pa_cons (pv 2) pa_nil)) (pe_tix (pv 1) (pa_cons (pv 3) pa_nil)) (nomark _))) pa_nil)))), ?_⟩
    refine ⟨_, rfl, _, rfl, r, t, us, row, ps, rfl, .inr hrr.rd, hw, fun H1 s1 => ?_⟩
    have lu := hw.prs.len
    have lf := hw.few
    refine ⟨_, rfl, t, rfl, ⟨_, .inl (rd_same s1 hw.at')⟩, fun D0 hD0 => ?_⟩
    refine lc_tup (K := K) (a := t) (xs := us) (fun i H2 => Same H1 H2 ∧ H2 D0 = some (.lst ((List.replicate i true).map V.bl))) ⟨same_new hD0, upd_same⟩ (fun i H2 _ q => .inl (rd_same (s1.trans q.1) hw.at')) ?_ ?_
    · rintro i x H2 hx ⟨s2, e2⟩
      obtain ⟨p, hp, vp⟩ := hw.prs.get hx
      obtain ⟨T, rfl, hT⟩ := vp.same (s1.trans s2)
      have hil := (List.getElem?_eq_some_iff.mp hx).1
      obtain ⟨h1, h2, h3⟩ := keep p.1 p.2 (List.mem_of_getElem? hp)
      have fr := hrr.same (s1.trans s2)
      refine ⟨T, _, rfl, .inl (.inl hT), rfl, _, _, rfl, _, _, rfl, rfl, rfl, ?_⟩
      refine ⟨_, rfl, r, _, rfl, fr, _, rfl, row, p.1, row.idxOf p.1, rfl, .inl fr.rd, idx_at h1, fun m hm => idx_first hm, ?_⟩
      refine ⟨_, rfl, r, _, rfl, fr, _, rfl, row, p.2, row.idxOf p.2, rfl, .inl fr.rd, idx_at h2, fun m hm => idx_first hm, ?_⟩
      refine ⟨_, _, rfl, rfl, ?_⟩
      have hd : decide (((row.idxOf p.1 : Nat) : Int) < ((row.idxOf p.2 : Nat) : Int)) = true := decide_eq_true (by omega)
      have he : (fun i j : Int => V.bl (decide (i < j))) ((row.idxOf p.1 : Nat) : Int) ((row.idxOf p.2 : Nat) : Int) = V.bl true := congrArg V.bl hd
      generalize (fun i j : Int => V.bl (decide (i < j))) ((row.idxOf p.1 : Nat) : Int) ((row.idxOf p.2 : Nat) : Int) = v at he ⊢
      subst he
      refine ⟨_, e2, ?_, same_mut s2 hD0, ?_⟩
      · rw [List.length_map, List.length_replicate]
        exact small1000 (by omega)
      · rw [upd_same, List.replicate_succ', List.map_append]
        rfl
    · rintro H2 ⟨s2, e2⟩
      refine ⟨D0, _, rfl, SqL.of e2, ?_⟩
      rw [List.all_replicate]
      have := k H2 (s1.trans s2)
      split
      · exact this
      · exact this
end
end Ah
set_option Elab.async false
set_option linter.all false
set_option maxRecDepth 100000
set_option maxHeartbeats 4000000
namespace Ah
open PySem PySem.Spec PyProof.Rows L2
abbrev sTold : Stmt := topS 25
section
variable {P : Program} {w : World} {K : PySem.W.Frag} {mg : Str → Option Value} {base : Heap}
theorem scTold : FnScope ["folk", "pairs", "told", "e"] ["folk", "pairs"] (defScope sTold) := ⟨rfl, rfl, rfl, by decide +kernel, rfl, by decide +kernel, by decide +kernel⟩
def spTold : Sp := fun vs H Q E => ∃ (a b : Addr) (xs : List Str) (us : List V) (ps : List (Str × Str)) (hs : List Str) (R : Str → Str → Bool), vs = [.ref a, .ref b] ∧ LTu H a (xs.map V.str) ∧ LTu H b us ∧ PrsV H us ps ∧ (∀ x ∈ xs, PyData.strOk x = true) ∧ PrsOk ps ∧ xs.length ≤ 8 ∧ ps.length ≤ 100 ∧
  (∀ x y, (x, y) ∈ ps → x ∈ xs ∧ y ∈ xs) ∧ xs.Perm hs ∧ hs.Pairwise sLt ∧ (∀ x y, R x y = true ↔ Lead ps x y) ∧ (∀ x, (x, x) ∉ ps) ∧
  (Nat.repeat (peel ps) hs.length hs = [] → ∀ (t T : Addr) (ws : List V) (H' : Hp), Same H H' → Ftp H' t ws → PrsV H' ws (dueOf R hs) → H' T = some (.tup [.str "web", .ref t]) → Q (.ref T) H') ∧
  ∀ (t T : Addr) (cs : List Str) (H' : Hp), Same H H' → Ftp H' t (cs.map V.str) → Circ ps cs → (∀ z ∈ cs, z ∈ xs) → H' T = some (.tup [.str "knot", .ref t, .bl true]) → Q (.ref T) H'
theorem ok_told {f C fI f1 : Addr} {fd fd1 : FuncData} (F : Fun K "_law_told" "_law_told" sTold f fd) (B : Blt2 mg) (Bv : mg "ValueError" = none) (T : PySem.LowX.LowTxt K mg C fI) (EC : ExcC K C) (kv : PySem.W.kitOne K (.ref C) (.type "ValueError") = some true) (D : Df P w K mg base (L2.CX P w) "closed" 3 f1 fd1 ["hands", "pairs"] (spClosed C)) : FnOk P w K mg base CX0 4 f fd ["folk", "pairs"] spTold := by
  refine F.ok scTold (fun vs H Q E h => ?_) (fun cdv A outer s H vs Q E hr h => ?_)
  · obtain ⟨a, b, xs, us, ps, hs, R, rfl, _⟩ := h
    rfl
  · obtain ⟨a, b, xs, us, ps, hs, R, rfl, ha, hb, hps, ok, okp, hl, hl2, hin, hpm, hst, hR, irr, kW, kK⟩ := h
    have nd := scTold.nd
    refine ⟨_, pss_cons (ps_set (i := 2) nd rfl (Or.inl rfl) pe_non)
      (pss_cons (ps_try_as (i := 3) (tb := fun W => tAsg (tTup (tCons (tC (.str "web")) (tCons (tCallS (spClosed C) (WE W) (tCons (tVar 0) (tCons (tVar 1) tNil))) tNil))) (gName 2))
          (ts := fun a cls d => tAsg (tTup (tCons (tC (.str "knot")) (tCons (tByLow C a cls d (tVar 3)) (tCons (tCB (rIsO K C a cls d) (tCons (tVar 3) (tCons (tC (.ty "ValueError")) tNil))) tNil)))) (gName 2)) (Wout := fun _ _ _ _ => False) rfl rfl nd rfl rfl ⟨rfl, by decide, Or.inl T.gC⟩ takes0
          (fun W pn xe tk _ => pss_one (ps_set (i := 2) nd rfl (Or.inl rfl) (by exact (pe_tup (pa_cons pe_str (pa_cons (pe_callS D.ok hr rfl D.g D.kp D.b (fun σ => passAt tk σ) (by exact (pa_cons (pv 0) (pa_cons (pv 1) pa_nil)))) pa_nil))))))
          (fun a oe cls d pn hz hf => pss_one (ps_set (i := 2) nd rfl (Or.inl rfl) (by exact (pe_tup (pa_cons pe_str (pa_cons (pe_byLow T hz hf (pv 3)) (pa_cons (pe_callB (call_isO EC hz hf) (by rfl) B.isinstance (by decide +kernel) (pa_cons (pv 3) (pa_cons (pe_bltn (v := .ty "ValueError") (by rfl) Bv (by decide +kernel) rfl) pa_nil))) pa_nil))))))))
      (pss_one (ps_ret (pv 2)))), ?_⟩
    refine ⟨_, rfl, _, rfl, a, b, xs, us, ps, hs, R, rfl, ha, hb, hps, ok, okp, hl, hl2, hin, hpm, hst, hR, irr, fun emp t ws H' s' ft rt => ?_, fun t cs x H' s' ft ci sb hx ex => ?_⟩
    · refine ⟨by show 2 ≤ sizeLine; decide, fun T0 hT => ?_⟩
      have sT : Same H' (upd H' T0 (.tup [.str "web", .ref t])) := same_new hT
      exact ⟨_, rfl, kW emp t T0 ws _ (s'.trans sT) (ft.same sT) (rt.same sT) upd_same⟩
    · refine ⟨true, T.te, fun _ a0 _ => ?_, fun q => Bool.noConfusion q⟩
      refine ⟨_, rfl, rfl, rfl, x, .ref t, rfl, ex, ?_⟩
      refine ⟨_, rfl, .ty "ValueError", .type "ValueError", true, rfl, fun u hu => hu, kv, rfl, ⟨x, _, _, rfl, ex⟩, ?_⟩
      refine ⟨by show 3 ≤ sizeLine; decide, fun T0 hT => ?_⟩
      have sT : Same H' (upd H' T0 (.tup [.str "knot", .ref t, .bl true])) := same_new hT
      exact ⟨_, rfl, kK t T0 cs _ (s'.trans sT) (ft.same sT) ci sb upd_same⟩
end
end Ah
set_option Elab.async false
set_option linter.all false
set_option maxRecDepth 100000
set_option maxHeartbeats 4000000
namespace Ah
open PySem PySem.Spec PyProof.Rows L2
abbrev sNexts : Stmt := topS 21
abbrev sLaid : Stmt := topS 27
/-- hands that can come next behind a row -/
def lackOf (ps : List (Str × Str)) (row : List Str) : List Str := (ps.filter fun p => decide (p.1 ∉ row)).map fun p => p.2
def nextOf (ps : List (Str × Str)) (row ys : List Str) : List Str := ys.filter fun x => decide (x ∉ row ∧ x ∉ lackOf ps row)
theorem lackOf_mem {ps : List (Str × Str)} {row : List Str} {x : Str} : x ∈ lackOf ps row ↔ ∃ y, (y, x) ∈ ps ∧ y ∉ row := by
  unfold lackOf
  rw [List.mem_map]
  constructor
  · rintro ⟨p, hp, rfl⟩
    obtain ⟨h1, h2⟩ := List.mem_filter.mp hp
    exact ⟨p.1, h1, of_decide_eq_true h2⟩
  · rintro ⟨y, h1, h2⟩
    exact ⟨(y, x), List.mem_filter.mpr ⟨h1, decide_eq_true h2⟩, rfl⟩
section
variable {P : Program} {w : World} {K : PySem.W.Frag} {mg : Str → Option Value} {base : Heap}
theorem scNexts : FnScope ["hands", "web", "head", "lacking", "pair", "hand"] ["hands", "web", "head"] (defScope sNexts) := ⟨rfl, rfl, rfl, by decide +kernel, rfl, by decide +kernel, by decide +kernel⟩
def spNexts : Sp := fun vs H Q _ => ∃ (a b r : Addr) (hs row : List Str) (us : List V) (ps : List (Str × Str)), vs = [.ref a, .ref b, .ref r] ∧ H a = some (.lst (hs.map V.str)) ∧ H b = some (.lst us) ∧ PrsV H us ps ∧ Rd H r (.tup (row.map V.str)) ∧ hs.length ≤ 60 ∧ ps.length ≤ 100 ∧
  ∀ (q : Addr) (ys : List Str) (H' : Hp), Same H H' → ys.Perm hs → H' q = some (.lst ((nextOf ps row ys).map V.str)) → Q (.ref q) H'
theorem ok_nexts {f : Addr} {fd : FuncData} (F : Fun K "_law_nexts" "_law_nexts" sNexts f fd) (B : Blt2 mg) : FnOk P w K mg base CX0 1 f fd ["hands", "web", "head"] spNexts := by
  refine F.ok scNexts (fun vs H Q E h => ?_) (fun cdv A outer s H vs Q E hr h => ?_)
  · obtain ⟨a, b, r, hs, row, us, ps, rfl, _⟩ := h
    rfl
  · obtain ⟨a, b, r, hs, row, us, ps, rfl, ha, hb, hps, hrr, hl, hl2, k⟩ := h
    have nd := scNexts.nd
    have lu := hps.len
    refine ⟨_, pss_cons (ps_set (i := 3) nd rfl (.inr rfl) (pe_lc (own := [("pair", 4)]) (g := gName 4) (tt := tTest (tOp (rIn K true) (tOp (rIxT K) (tVar 4) (tC (.int 0))) (tVar 2))) (te := tOp (rIxT K) (tVar 4) (tC (.int 1))) rfl nd (pi_list (pv 1))
          (blkOk_by (N := ["hands", "web", "head", "lacking", "pair", "hand"]) (sc := defScope sNexts) (by decide +kernel)) (fun _ _ _ _ _ => pg_name (i := 4) nd rfl (Or.inl rfl))
          (fun _ _ _ _ _ => pts_one (pt_cmpR (r := rIn K true) op_notIn_seq (pe_ix (r := rIxT K) ix_tup (pv 4) pe_int (fun _ _ => rfl)) (pv 2) (by rfl)))
          (fun _ _ _ _ _ => pe_ix (r := rIxT K) ix_tup (pv 4) pe_int (fun _ _ => rfl))))
      (pss_one (ps_ret (pe_lc (own := [("hand", 5)]) (g := gName 5) (tt := tAnd (tTest (tOp (rIn K true) (tVar 5) (tVar 2))) (tTest (tOp (rIn K true) (tVar 5) (tVar 3)))) (te := tVar 5) rfl nd (pi_list (pe_callB cr_sortedTS (by rfl) B.sorted (by decide +kernel) (pa_cons (pv 0) pa_nil)))
          (blkOk_by (N := ["hands", "web", "head", "lacking", "pair", "hand"]) (sc := defScope sNexts) (by decide +kernel)) (fun _ _ _ _ _ => pg_name (i := 5) nd rfl (Or.inl rfl))
          (fun _ _ _ _ _ => pts_one (PW.pt (pw_and (pt_cmpR (r := rIn K true) op_notIn_seq (pv 5) (pv 2) (by rfl)) (pw_and1 (pt_cmpR (r := rIn K true) op_notIn_seq (pv 5) (pv 3) (by rfl))))))
          (fun _ _ _ _ _ => pv 5)))), ?_⟩
    refine ⟨_, rfl, b, rfl, ⟨_, SqL.of hb⟩, fun D0 hD0 => ?_⟩
    refine lc_list (K := K) (a := b) (xs := us) (fun i H2 => Same H H2 ∧ H2 D0 = some (.lst ((lackOf (ps.take i) row).map V.str))) ⟨same_new hD0, upd_same⟩ (fun i H2 _ q => SqL.of (q.1 _ _ hb)) ?_ ?_
    · rintro i x H2 hx ⟨s2, e2⟩
      obtain ⟨p, hp, vp⟩ := hps.get hx
      obtain ⟨T, rfl, hT⟩ := vp.same s2
      have et : ps.take (i + 1) = ps.take i ++ [p] := by rw [List.take_succ, hp]; rfl
      have hil := (List.getElem?_eq_some_iff.mp hx).1
      refine ⟨rfl, _, rfl, T, _, (0 : Nat), .str p.1, rfl, rfl, .inl (.inl hT), atI_nat rfl, _, rfl, r, _, rfl, .inr (.inl (rd_same s2 hrr)), rfl, flat_strs row, _, rfl, ?_⟩
      rw [if_pos rfl, inV_txts]
      have split : lackOf (ps.take (i + 1)) row = lackOf (ps.take i) row ++ (if p.1 ∈ row then [] else [p.2]) := by
        rw [et]
        unfold lackOf
        rw [List.filter_append, List.map_append, List.filter_cons]
        by_cases c : p.1 ∈ row
        · rw [if_neg (by rw [decide_eq_false (fun z => z c)]; exact Bool.false_ne_true), if_pos c]; rfl
        · rw [if_pos (decide_eq_true c), if_neg c]; rfl
      rw [split]
      by_cases c : p.1 ∈ row
      · rw [decide_eq_true c, if_pos c, List.append_nil]
        exact iteF ⟨s2, e2⟩
      · rw [decide_eq_false c, if_neg c]
        refine iteT ⟨_, rfl, T, _, (1 : Nat), .str p.2, rfl, rfl, .inl (.inl hT), atI_nat rfl, _, e2, ?_, same_mut s2 hD0, ?_⟩
        · rw [List.length_map]
          unfold lackOf
          rw [List.length_map]
          exact small1000 (Nat.le_trans (List.length_filter_le _ _) (by rw [List.length_take]; omega))
        · rw [upd_same, List.map_append]
          rfl
    · rintro H2 ⟨s2, e2⟩
      rw [lu, List.take_length] at e2
      refine ⟨_, rfl, a, hs, rfl, .inl (SqL.of (s2 _ _ ha)), by omega, fun ys q py sy hq => ⟨q, rfl, ⟨_, SqL.of upd_same⟩, fun D1 hD1 => ?_⟩⟩
      have sq : Same H2 (upd H2 q (.lst (ys.map V.str))) := same_new hq
      have eq : (upd H2 q (.lst (ys.map V.str))) q = some (.lst (ys.map V.str)) := upd_same
      generalize upd H2 q (.lst (ys.map V.str)) = H3 at sq eq hD1 ⊢
      have s3 := s2.trans sq
      have hlk : (lackOf ps row).length ≤ 100 := by
        unfold lackOf
        rw [List.length_map]
        exact Nat.le_trans (List.length_filter_le _ _) hl2
      refine lc_list (K := K) (a := q) (xs := ys.map V.str) (fun i H4 => Same H3 H4 ∧ H4 D1 = some (.lst ((nextOf ps row (ys.take i)).map V.str))) ⟨same_new hD1, upd_same⟩ (fun i H4 _ z => SqL.of (z.1 _ _ eq)) ?_ ?_
      · rintro i v H4 hv ⟨s4, e4⟩
        obtain ⟨x, hx, rfl, _⟩ := str_at hv
        have et : ys.take (i + 1) = ys.take i ++ [x] := by rw [List.take_succ, hx]; rfl
        have lys := py.length_eq
        refine ⟨rfl, _, rfl, _, rfl, r, _, rfl, .inr (.inl (rd_same (s3.trans s4) hrr)), rfl, flat_strs row, _, rfl, ?_⟩
        rw [if_pos rfl, inV_txts]
        have no : ¬ (x ∉ row ∧ x ∉ lackOf ps row) → Same H3 H4 ∧ H4 D1 = some (.lst ((nextOf ps row (ys.take (i + 1))).map V.str)) := fun c => by
          rw [et]
          unfold nextOf
          rw [List.filter_append, List.filter_cons, if_neg (by rw [decide_eq_false c]; exact Bool.false_ne_true)]
          exact ⟨s4, by rw [e4]; unfold nextOf; simp⟩
        by_cases c : x ∈ row
        · rw [decide_eq_true c]
          exact iteF (iteF (no fun z => z.1 c))
        · rw [decide_eq_false c]
          refine iteT ⟨_, rfl, _, rfl, D0, _, rfl, .inl (SqL.of ((sq.trans s4) _ _ e2)), rfl, flat_strs _, _, rfl, ?_⟩
          rw [if_pos rfl, inV_txts]
          by_cases c2 : x ∈ lackOf ps row
          · rw [decide_eq_true c2]
            exact iteF (no fun z => z.2 c2)
          · rw [decide_eq_false c2]
            refine iteT ⟨_, rfl, _, e4, ?_, same_mut s4 hD1, ?_⟩
            · rw [List.length_map]
              unfold nextOf
              exact small1000 (Nat.le_trans (List.length_filter_le _ _) (by rw [List.length_take]; omega))
            · rw [upd_same, et]
              unfold nextOf
              rw [List.filter_append, List.filter_cons, if_pos (decide_eq_true ⟨c, c2⟩), List.map_append]
              rfl
      · rintro H4 ⟨s4, e4⟩
        rw [List.length_map, List.take_length] at e4
        exact k D1 ys H4 (s3.trans s4) py e4
end
end Ah
set_option Elab.async false
set_option linter.all false
set_option maxRecDepth 100000
set_option maxHeartbeats 4000000
namespace Ah
open PySem PySem.Spec PyProof.Rows L2
section
variable {P : Program} {w : World} {K : PySem.W.Frag} {mg : Str → Option Value} {base : Heap}
theorem scLaid : FnScope ["hands", "pairs", "row", "k", "free"] ["hands", "pairs"] (defScope sLaid) := ⟨rfl, rfl, rfl, by decide +kernel, rfl, by decide +kernel, by decide +kernel⟩
def spLaid : Sp := fun vs H Q _ => ∃ (a b : Addr) (hs : List Str) (us : List V) (ps : List (Str × Str)) (l : List Str) (n : Nat), vs = [.ref a, .ref b] ∧ H a = some (.lst (hs.map V.str)) ∧ H b = some (.lst us) ∧ PrsV H us ps ∧ hs.length ≤ 8 ∧ ps.length ≤ 100 ∧ hs.Nodup ∧ hs.Perm l ∧ (∀ x y, (x, y) ∈ ps → x ∈ l ∧ y ∈ l) ∧ Nat.repeat (peel ps) n l = [] ∧
  ∀ (r : Addr) (row : List Str) (H' : Hp), Same H H' → Ftp H' r (row.map V.str) → row.Perm hs → KeepR row ps → Q (.ref r) H'
theorem ok_laid {f f1 : Addr} {fd fd1 : FuncData} (F : Fun K "_law_laid" "_law_laid" sLaid f fd) (B : Blt2 mg) (D : Df P w K mg base CX0 "_law_nexts" 1 f1 fd1 ["hands", "web", "head"] spNexts) : FnOk P w K mg base CX0 2 f fd ["hands", "pairs"] spLaid := by
  refine F.ok scLaid (fun vs H Q E h => ?_) (fun cdv A outer s H vs Q E hr h => ?_)
  · obtain ⟨a, b, hs, us, ps, l, n, rfl, _⟩ := h
    rfl
  · obtain ⟨a, b, hs, us, ps, l, n, rfl, ha, hb, hps, hl, hl2, ndh, pl, hin, emp, k⟩ := h
    have nd := scLaid.nd
    have lm : (hs.map V.str).length = hs.length := List.length_map ..
    refine ⟨_, pss_cons (ps_set (i := 2) nd rfl (.inl rfl) (pe_tupF pa_nil))
      (pss_cons (ps_for PassesOwn.never rfl (pi_range1 rfl B.range (pa_cons (pe_callB call_len_seq (by rfl) B.len PySem.boot_len (pa_cons (pv 0) pa_nil)) pa_nil)) (pg_name (i := 3) nd rfl (.inl rfl))
        (pss_cons (ps_set (i := 4) nd rfl (.inl rfl) (pe_call D.ok hr rfl D.g D.kp D.b .nil pass0 (pa_cons (pv 0) (pa_cons (pv 1) (pa_cons (pv 2) pa_nil)))))
        (pss_one (ps_set (i := 2) nd rfl (.inl rfl) (pe_op op_catF (pv 2) (pe_callTy call_tuple_ofF (by rfl) B.tuple (by decide +kernel) (pa_cons (pe_slice sl_list (pv 4) po_none (po_some pe_int)) pa_nil)))))))
      (pss_one (ps_ret (pv 2)))), ?_⟩
    refine ⟨Nat.zero_le _, newF fun r0 H1 s1 f1' => ?_⟩
    refine ⟨_, rfl, a, _, rfl, .inl (SqL.of (s1 _ _ ha)), _, rfl, by omega, by omega, ?_⟩
    rw [Int.toNat_natCast, lm]
    refine for_range (lo := 0) (n := hs.length) (fun i σ H2 => ∃ (o3 o4 : Option V) (r : Addr) (row : List Str), σ = [some (.ref a), some (.ref b), some (.ref r), o3, o4] ∧ Same H H2 ∧ Ftp H2 r (row.map V.str) ∧ row.length = i ∧ Laid ps row ∧ ∀ x ∈ row, x ∈ hs) ⟨none, none, r0, [], rfl, s1, f1', rfl, Laid.nil, fun _ z => by cases z⟩ ?_ ?_
    · rintro i σ H2 hi ⟨o3, o4, r, row, rfl, s2, fr, lr, ld, sub⟩
      refine ⟨_, rfl, _, rfl, _, rfl, a, b, r, hs, row, us, ps, rfl, s2 _ _ ha, s2 _ _ hb, hps.same s2, fr.rd, by omega, hl2, fun q ys H3 s3 py e3 => ?_⟩
      have more : ∃ x ∈ hs, x ∉ row := Classical.byContradiction fun z => by
        have : hs.length ≤ row.length := nodup_sub_le ndh fun x hx => Classical.byContradiction fun w => z ⟨x, hx, w⟩
        omega
      obtain ⟨f0, h0, n0, p0⟩ := laid_next pl hin emp more
      have m0 : f0 ∈ nextOf ps row ys := List.mem_filter.mpr ⟨py.mem_iff.mpr h0, decide_eq_true ⟨n0, fun z => by
        obtain ⟨y, h1, h2⟩ := lackOf_mem.mp z
        exact h2 (p0 y h1)⟩⟩
      obtain ⟨g, rest, eg⟩ : ∃ g rest, nextOf ps row ys = g :: rest := by
        cases e : nextOf ps row ys with
        | nil => rw [e] at m0; cases m0
        | cons g rest => exact ⟨g, rest, rfl⟩
      have mg' : g ∈ nextOf ps row ys := by rw [eg]; exact List.mem_cons_self ..
      obtain ⟨g1, g2⟩ := List.mem_filter.mp mg'
      obtain ⟨g3, g4⟩ := of_decide_eq_true g2
      rw [eg] at e3
      have s23 := s2.trans s3
      refine ⟨_, rfl, _, rfl, _, rfl, q, _, rfl, SqL.of e3, fun l1 hl1 => ?_⟩
      have ec : cutV ((g :: rest).map V.str) none (some 1) = [V.str g] := cutV_to (p := 1) (by simp)
      rw [ec]
      have s4 : Same H3 (upd H3 l1 (.lst [V.str g])) := same_new hl1
      refine ⟨l1, _, rfl, SqL.of upd_same, newF fun b2 H5 s5 f5 => ?_⟩
      have fr5 := ((fr.same s3).same s4).same s5
      refine catF fr5.rd f5.rd (fun _ => f5) (fun e => by cases e) (by rw [List.length_map, List.length_singleton]; omega) fun c H6 s6 f6 => ?_
      refine ⟨_, _, c, row ++ [g], rfl, (s23.trans (s4.trans s5)).trans s6, by rw [List.map_append]; exact f6, by rw [List.length_append, lr]; rfl, ld.snoc g3 fun x m => Classical.byContradiction fun z => g4 (lackOf_mem.mpr ⟨x, m, z⟩), fun x hx => ?_⟩
      rcases List.mem_append.mp hx with hx | hx
      · exact sub x hx
      · rw [List.mem_singleton.mp hx]
        exact py.mem_iff.mp g1
    · rintro σ H2 ⟨o3, o4, r, row, rfl, s2, fr, lr, ld, sub⟩
      have all : ∀ x ∈ hs, x ∈ row := fun x hx => Classical.byContradiction fun z => by
        have := nodup_sub_le (l := x :: row) (m := hs) (List.nodup_cons.mpr ⟨z, ld.nd⟩) fun y hy => by
          rcases List.mem_cons.mp hy with e | hy
          · rw [e]; exact hx
          · exact sub y hy
        rw [List.length_cons] at this
        omega
      have pm : row.Perm hs := (List.perm_ext_iff_of_nodup ld.nd ndh).mpr fun x => ⟨sub x, all x⟩
      exact ⟨_, rfl, k r row H2 s2 fr pm (ld.keepR fun x y m => all y (pl.mem_iff.mpr (hin x y m).2))⟩
end
end Ah
set_option Elab.async false
set_option linter.all false
set_option maxRecDepth 100000
set_option maxHeartbeats 4000000
namespace Ah
open PySem PySem.Spec PyProof.Rows L2
abbrev sLed : Stmt := topS 28
abbrev sRound : Stmt := topS 29
section
variable {P : Program} {w : World} {K : PySem.W.Frag} {mg : Str → Option Value} {base : Heap}
theorem scLed : FnScope ["pairs", "first", "found", "at", "pair"] ["pairs", "first"] (defScope sLed) := ⟨rfl, rfl, rfl, by decide +kernel, rfl, by decide +kernel, by decide +kernel⟩
def spLed : Sp := fun vs H Q _ => ∃ (a : Addr) (x : Str) (us : List V) (ps : List (Str × Str)) (hs : List Str), vs = [.ref a, .str x] ∧ H a = some (.lst us) ∧ PrsV H us ps ∧ (∀ x y, (x, y) ∈ ps → x ∈ hs ∧ y ∈ hs) ∧ x ∈ hs ∧ hs.length ≤ 8 ∧ ps.length ≤ 100 ∧
  ∀ (F : Addr) (tl : List Str) (H' : Hp), Same H H' → H' F = some (.lst ((x :: tl).map V.str)) → (x :: tl).Nodup → (x :: tl).length ≤ 8 → (∀ y, y ∈ x :: tl ↔ y = x ∨ Lead ps x y) → Q (.ref F) H'
theorem ok_led {f : Addr} {fd : FuncData} (F : Fun K "_law_led" "_law_led" sLed f fd) (B : Blt2 mg) : FnOk P w K mg base CX0 1 f fd ["pairs", "first"] spLed := by
  refine F.ok scLed (fun vs H Q E h => ?_) (fun cdv A outer s H vs Q E hr h => ?_)
  · obtain ⟨a, x, us, ps, hs, rfl, _⟩ := h
    rfl
  · obtain ⟨a, x, us, ps, hs, rfl, ha, hps, hin, hx, hl, hl2, k⟩ := h
    have nd := scLed.nd
    refine ⟨_, pss_cons (ps_par (i := 2) (j := 3) rfl nd rfl rfl (by decide) rfl rfl (pa_cons (pe_lst (pa_cons (pv 1) pa_nil)) (pa_cons pe_int pa_nil)) (by rfl))
      (pss_cons (ps_while PassesOwn.never (pt_cmpR op_lt (pv 3) (pe_callB call_len_seq (by rfl) B.len PySem.boot_len (pa_cons (pv 2) pa_nil)) (nomark _))
        (pss_cons (ps_for PassesOwn.never rfl (pi_list (pv 0)) (pg_name (i := 4) nd rfl (.inl rfl))
          (pss_one (ps_if (PW.pt (pw_and (pt_cmpR op_eq (pe_ix (r := rIxT K) ix_tup (pv 4) pe_int (fun _ _ => rfl)) (pe_ix (r := rIxL K) ix_list (pv 2) (pv 3) (fun _ _ => rfl)) (nomark _)) (pw_and1 (pt_cmpR (r := rIn K true) op_notIn_seq (pe_ix (r := rIxT K) ix_tup (pv 4) pe_int (fun _ _ => rfl)) (pv 2) (by rfl)))))
            (pss_one (ps_expr (pe_bm PySem.F.plainAttrs_list PySem.F.slot_list_append PySem.F.type_list_append mt_append (pv 2) (pa_cons (pe_ix (r := rIxT K) ix_tup (pv 4) pe_int (fun _ _ => rfl)) pa_nil)))) pss_nil)))
        (pss_one (ps_set (i := 3) nd rfl (.inl rfl) (pe_op op_add (pv 3) pe_int)))))
      (pss_one (ps_ret (pv 2)))), ?_⟩
    have lu := hps.len
    refine ⟨_, rfl, by show 1 ≤ sizeLine; decide, fun Fa hF => ?_⟩
    have sF : Same H (upd H Fa (.lst [.str x])) := same_new hF
    have eF : (upd H Fa (.lst [.str x])) Fa = some (.lst ((x :: []).map V.str)) := upd_same
    generalize upd H Fa (.lst [.str x]) = H1 at sF eF ⊢
    have eF1 := eF
    have sF1 := sF
    refine ⟨_, _, rfl, ?_⟩
    refine ⟨fun m σ H2 => ∃ (n : Nat) (tl : List Str) (o4 : Option V), m = hs.length - n ∧ σ = [some (.ref a), some (.str x), some (.ref Fa), some (.int (n : Int)), o4] ∧ Same H H2 ∧ H2 Fa = some (.lst ((x :: tl).map V.str)) ∧ Goes ps x (x :: tl) n, ⟨_, 0, [], none, rfl, rfl, sF1, eF1, Goes.init ps x⟩, ?_⟩
    rintro m σ H2 ⟨n, tl, o4, rfl, rfl, s2, e2, g⟩
    have lf := g.len hin hx
    have lm : ((x :: tl).map V.str).length = (x :: tl).length := List.length_map ..
    refine ⟨_, rfl, _, rfl, Fa, _, rfl, .inl (SqL.of e2), _, _, rfl, rfl, _, rfl, ?_⟩
    by_cases c : n < (x :: tl).length
    · have hc : decide ((n : Int) < (((x :: tl).map V.str).length : Int)) = true := decide_eq_true (by rw [lm]; omega)
      rw [hc]
      have hf0 : (x :: tl)[n]? = some ((x :: tl).getD n default) := getD_at c
      generalize (x :: tl).getD n default = f0 at hf0
      refine iteT ⟨fun σ' H' => ∃ (tl' : List Str) (o4 : Option V), σ' = [some (.ref a), some (.str x), some (.ref Fa), some (.int ((n + 1 : Nat) : Int)), o4] ∧ Same H H' ∧ H' Fa = some (.lst ((x :: tl').map V.str)) ∧ Goes ps x (x :: tl') (n + 1), ?_, ?_⟩
      · rintro σ' H' ⟨tl', o4', rfl, s', e', g'⟩
        exact ⟨_, by omega, n + 1, tl', o4', rfl, rfl, s', e', g'⟩
      refine ⟨_, rfl, a, rfl, ⟨_, SqL.of (s2 _ _ ha)⟩, ?_⟩
      refine for_list (K := K) (a := a) (xs := us) (fun i σ H3 => ∃ (new : List Str) (o4 : Option V), σ = [some (.ref a), some (.str x), some (.ref Fa), some (.int (n : Int)), o4] ∧ Same H H3 ∧ H3 Fa = some (.lst ((x :: tl ++ new).map V.str)) ∧ new.Nodup ∧ ∀ z, z ∈ new ↔ (f0, z) ∈ ps.take i ∧ z ∉ x :: tl) ⟨[], _, rfl, s2, by rw [List.append_nil]; exact e2, List.nodup_nil, fun z => by simp⟩ (fun i σ H3 _ ⟨_, _, _, q, _⟩ => SqL.of (q _ _ ha)) ?_ ?_
      · rintro i v σ H3 hv ⟨new, o4', rfl, s3, e3, ndn, mn⟩
        obtain ⟨p, hp, vp⟩ := hps.get hv
        obtain ⟨T, rfl, hT⟩ := vp.same s3
        have et : ps.take (i + 1) = ps.take i ++ [p] := by rw [List.take_succ, hp]; rfl
        have hil := (List.getElem?_eq_some_iff.mp hv).1
        have hf : (x :: tl ++ new)[n]? = some f0 := by rw [List.getElem?_append_left c]; exact hf0
        have lnew : new.length ≤ 8 := Nat.le_trans (nodup_sub_le ndn fun z hz => (hin _ _ (List.mem_of_mem_take ((mn z).mp hz).1)).2) hl
        refine ⟨_, rfl, T, _, (0 : Nat), .str p.1, rfl, rfl, .inl (.inl hT), atI_nat rfl, _, rfl, _, rfl, Fa, _, n, .str f0, rfl, rfl, SqL.of e3, atI_nat (by rw [List.getElem?_map, hf]; rfl), rfl, _, rfl, ?_⟩
        have no : ¬ (p.1 = f0 ∧ p.2 ∉ x :: tl ++ new) → ∀ z, z ∈ new ↔ (f0, z) ∈ ps.take (i + 1) ∧ z ∉ x :: tl := fun c2 z => by
          rw [mn, et, List.mem_append, List.mem_singleton]
          constructor
          · exact fun h => ⟨.inl h.1, h.2⟩
          · rintro ⟨h1 | h1, h2⟩
            · exact ⟨h1, h2⟩
            · refine Classical.byContradiction fun h3 => c2 ⟨by rw [← h1], fun h4 => ?_⟩
              rw [← h1] at h4
              rcases List.mem_append.mp h4 with h4 | h4
              · exact h2 h4
              · exact h3 ((mn z).mp h4)
        by_cases c1 : p.1 = f0
        · rw [decide_eq_true (congrArg V.str c1)]
          refine iteT ⟨_, rfl, T, _, (1 : Nat), .str p.2, rfl, rfl, .inl (.inl hT), atI_nat rfl, _, rfl, Fa, _, rfl, .inl (SqL.of e3), rfl, flat_strs _, _, rfl, ?_⟩
          rw [if_pos rfl, inV_txts]
          by_cases c2 : p.2 ∈ x :: tl ++ new
          · rw [decide_eq_true c2]
            refine iteF ⟨new, _, rfl, s3, e3, ndn, no fun z => z.2 c2⟩
          · rw [decide_eq_false c2]
            have c3 : p.2 ∉ new := fun z => c2 (List.mem_append_right _ z)
            refine iteT ⟨_, rfl, .inl ⟨rfl, _, SqL.of e3⟩, _, rfl, T, _, (1 : Nat), .str p.2, rfl, rfl, .inl (.inl hT), atI_nat rfl, ?_⟩
            refine ⟨Fa, _, .str p.2, rfl, rfl, e3, small1000 (by rw [List.length_map, List.length_append]; omega), ?_⟩
            refine ⟨new ++ [p.2], _, rfl, same_mut s3 hF, by rw [upd_same, ← List.append_assoc, List.map_append (l₂ := [p.2])]; rfl, ?_, fun z => ?_⟩
            · rw [List.nodup_append]
              exact ⟨ndn, List.nodup_cons.mpr ⟨List.not_mem_nil, List.nodup_nil⟩, fun a ha b hb e => c3 (by rw [← List.mem_singleton.mp hb, ← e]; exact ha)⟩
            · rw [List.mem_append, List.mem_singleton, mn, et, List.mem_append, List.mem_singleton]
              constructor
              · rintro (h | rfl)
                · exact ⟨.inl h.1, h.2⟩
                · exact ⟨.inr (by rw [← c1]), fun z => c2 (List.mem_append_left _ z)⟩
              · rintro ⟨h1 | h1, h2⟩
                · exact .inl ⟨h1, h2⟩
                · exact .inr (by rw [← h1])
        · rw [decide_eq_false fun z => c1 (V.str.inj z)]
          exact iteF (iteF ⟨new, _, rfl, s3, e3, ndn, no fun z => c1 z.1⟩)
      · rintro σ H3 ⟨new, o4', rfl, s3, e3, ndn, mn⟩
        rw [lu, List.take_length] at mn
        have g' := g.step hf0 ndn mn
        refine ⟨_, rfl, _, _, rfl, rfl, ?_⟩
        exact ⟨tl ++ new, _, rfl, s3, e3, g'⟩
    · have hc : decide ((n : Int) < (((x :: tl).map V.str).length : Int)) = false := decide_eq_false (by rw [lm]; omega)
      rw [hc]
      refine iteF ⟨_, rfl, k Fa tl H2 s2 e2 g.nd (by omega) fun y => g.done (by omega)⟩
end
end Ah
set_option Elab.async false
set_option linter.all false
set_option maxRecDepth 100000
set_option maxHeartbeats 4000000
namespace Ah
open PySem PySem.Spec PyProof.Rows L2
section
variable {X : Cx} {o e : Expr} {to : TE} {t : TA} {apos cpos : Pos}
/-- t.count(text), t a tuple of texts, its object known -/
def tTct (K : PySem.W.Frag) (to : TE) (t : TA) : TE := fun σ H Q => to σ H fun x H1 => ∃ a ys, x = .ref a ∧ Ftp H1 a ys ∧ t σ H1 fun vs H2 => ∃ (zs : List Str) (z : Str), vs = [.str z] ∧ SqT K H2 a (zs.map V.str) ∧ Q (.int ((zs.count z : Nat) : Int)) H2
theorem pe_tct (hu : X.A.units + 1 < cLine) (ho : PE X o to) (ha : PA X [e] t)
    (hbase : attributeBase o "count" X.env (eval o X.env) = eval o X.env := by rfl)
    (hfew : ((backTo cpos (starEach [e] X.env)).all (fun x => !x.1) && (backToKw cpos (keywordEach [] X.env)).all (fun x => x.1.isSome)
      && decide ([e].length + ([] : List Keyword).length + (if ([] : List Keyword).isEmpty then 0 else 1) < 30)) = true := by rfl)
    (hline : (apos.endLine == cpos.line) = true := by rfl) (hs : starEach [e] X.env = (false, eval e X.env) :: starEach [] X.env := by rfl) (hplain : (backTo cpos (starEach [] X.env)).any (·.1) = false := by rfl) :
    PE X (.Call (.Attribute o "count" apos) [e] [] cpos) (tTct X.K to t) := by
  refine ⟨fun pins s σ H Q I h => ?_⟩
  refine wpAny_Call_method_late hbase hfew hline rfl (thn (ho.run pins s σ H _ I h) fun v s1 ⟨x, H1, I1, r1, a, ys, ex, ⟨ob, hd, hob⟩, q1⟩ => ?_)
  subst ex
  cases r1
  obtain ⟨g1, _, its, _, isT⟩ := (show ObjOk X.prog X.w H1 s1.heap a (.frz ob (.tup ys)) from I1.hok a _ hob)
  refine ⟨"tuple", "tuple.count", PySem.F.plainAttrs_tuple, PySem.F.slot_tuple_count, PySem.F.type_tuple_count, isT.typeIs, fun b eb => ?_, ?_⟩
  · cases eb
    exact ⟨ob, g1, hd⟩
  · have hA := ha.run cpos pins s1 σ H1 _ I1 q1
    rw [hs] at hA ⊢
    refine Calls.callWith_builtin (by show (false || (backTo cpos (starEach [] X.env)).any (·.1)) = false; rw [hplain] <;> rfl) (Calls.evalArgs_plain ?_)
    exact thn hA fun us s2 ⟨vs, H2, I2, r2, zs, z, ev, q2, q5⟩ => mt_tcount hu pins s2 σ H2 (.ref a) vs (.ref a) us Q I2 rfl r2 ⟨a, zs, z, rfl, ev, q2, q5⟩
end
def rLenS (K : PySem.W.Frag) : List V → Hp → VK → Prop := fun xs H Q => ∃ p ys, xs = [.ref p] ∧ (SqL K H p ys ∨ SqT K H p ys) ∧ Q (.int ys.length) H
theorem cr_lenS {X : Cx} : CallR X (.builtin "len") (rLenS X.K) := call_len_seq
theorem count_one {xs : List Str} (nd : xs.Nodup) (x : Str) : xs.count x ≤ 1 := by
  induction xs with
  | nil => exact Nat.zero_le _
  | cons y r ih =>
    have h := List.nodup_cons.mp nd
    have ih := ih h.2
    rw [List.count_cons]
    by_cases q : y = x
    · subst q
      have : r.count y = 0 := List.count_eq_zero.mpr h.1
      rw [this]
      simp
    · have : (y == x) = false := by simp [q]
      rw [this]
      simpa using ih
section
variable {P : Program} {w : World} {K : PySem.W.Frag} {mg : Str → Option Value} {base : Heap}
theorem scRound : FnScope ["pairs", "told", "one", "k"] ["pairs", "told"] (defScope sRound) := ⟨rfl, rfl, rfl, by decide +kernel, rfl, by decide +kernel, by decide +kernel⟩
def spRound : Sp := fun vs H Q _ => ∃ (b t : Addr) (us : List V) (ps : List (Str × Str)) (cs : List Str), vs = [.ref b, .ref t] ∧ H b = some (.lst us) ∧ PrsV H us ps ∧ Ftp H t (cs.map V.str) ∧ Circ ps cs ∧ (∀ x ∈ cs, PyData.strOk x = true) ∧ PrsOk ps ∧ cs.length ≤ 8 ∧ ps.length ≤ 100 ∧ ∀ H', Same H H' → Q (.bl true) H'
theorem ok_round {f : Addr} {fd : FuncData} (F : Fun K "_law_goes_round" "_law_goes_round" sRound f fd) (B : Blt2 mg) : FnOk P w K mg base CX0 1 f fd ["pairs", "told"] spRound := by
  refine F.ok scRound (fun vs H Q E h => ?_) (fun cdv A outer s H vs Q E hr h => ?_)
  · obtain ⟨b, t, us, ps, cs, rfl, _⟩ := h
    rfl
  · obtain ⟨b, t, us, ps, cs, rfl, hb, hps, ht, ci, okc, okp, hl, hl2, k⟩ := h
    have nd := scRound.nd
    have hu := hu_of hr
    have hu65 : (A.deeper (envOfC "_law_goes_round" (defScope sRound) s.heap.objs.size f cdv)).units + 65 < cLine := by
      have := hr.un
      omega
    refine ⟨_, pss_cons (ps_if (PW.pt (pw_or (pt_not (pt_val (pe_callB call_isi (by rfl) B.isinstance (by decide +kernel) (pa_cons (pv 1) (pa_cons (pe_bltn (v := .ty "tuple") (by rfl) B.tuple (by decide +kernel) rfl) pa_nil)))))
          (pw_or (pt_cmpR op_lt (pe_callB call_len_seq (by rfl) B.len PySem.boot_len (pa_cons (pv 1) pa_nil)) pe_int (nomark _))
          (pw_or1 (pt_cmpR (op_neD hr.units) (pe_lc (own := [("one", 2)]) (g := gName 2) (tt := tTest (tOp (rI0 fun i j => .bl (decide (j < i))) (tTct K (tVar 1) (tCons (tVar 2) tNil)) (tC (.int 1)))) (te := tVar 2) rfl nd (pi_tup (pv 1))
            (blkOk_by (N := ["pairs", "told", "one", "k"]) (sc := defScope sRound) (by decide +kernel)) (fun _ _ _ _ _ => pg_name (i := 2) nd rfl (Or.inl rfl))
            (fun _ _ _ _ _ => pts_one (pt_cmpR op_gt (pe_tct hu (pv 1) (pa_cons (pv 2) pa_nil)) pe_int (nomark _))) (fun _ _ _ _ _ => pv 2)) (pe_lst pa_nil) (nomark _)))))) (pss_one (ps_ret pe_bl)) pss_nil)
      (pss_one (ps_ret (pe_cmpR (op_eqD hr.units) (pe_lc (own := [("k", 3)]) (g := gName 3) (tt := tTest (tOp (rNotInD K) (tTup (tCons (tOp (rIxT K) (tVar 1) (tVar 3)) (tCons (tOp (rIxT K) (tVar 1) (tOp (rI (fun _ j => 0 < j) fun i j => .int (i % j)) (tOp (rI0 fun i j => .int (i + j)) (tVar 3) (tC (.int 1))) (tCB (rLenS K) (tCons (tVar 1) tNil)))) tNil))) (tVar 0))) (te := tVar 3) rfl nd (pi_range1 rfl B.range (pa_cons (pe_callB call_len_seq (by rfl) B.len PySem.boot_len (pa_cons (pv 1) pa_nil)) pa_nil))
            (blkOk_by (N := ["pairs", "told", "one", "k"]) (sc := defScope sRound) (by decide +kernel)) (fun _ _ _ _ _ => pg_name (i := 3) nd rfl (Or.inl rfl))
            (fun _ _ _ _ _ => pts_one (pt_cmpR (op_notInD hu65) (pe_tup (pa_cons (pe_ix (r := rIxT K) ix_tup (pv 1) (pv 3) (fun _ _ => rfl)) (pa_cons (pe_ix (r := rIxT K) ix_tup (pv 1) (pe_op op_mod (pe_op op_add (pv 3) pe_int) (pe_callB (r := rLenS K) cr_lenS (by rfl) B.len PySem.boot_len (pa_cons (pv 1) pa_nil))) (fun _ _ => rfl)) pa_nil))) (pv 0) (by rfl)))
            (fun _ _ _ _ _ => pv 3)) (pe_lst pa_nil) (by rfl)))), ?_⟩
    have lm : (cs.map V.str).length = cs.length := List.length_map ..
    have two := ci.two
    refine ⟨_, rfl, .ref t, .ty "tuple", _, _, true, rfl, .ty "tuple", ty_tup ht.rd, kit_ty (by decide +kernel), _, rfl, ?_⟩
    refine iteF ⟨_, rfl, t, _, rfl, .inr (.inl ht.rd), _, _, rfl, rfl, _, rfl, ?_⟩
    have h2 : decide ((((cs.map V.str).length : Nat) : Int) < 2) = false := decide_eq_false (by rw [lm]; omega)
    rw [h2]
    refine iteF ⟨_, rfl, t, rfl, ⟨_, .inl ht.rd⟩, fun D0 hD0 => ?_⟩
    refine lc_tup (K := K) (a := t) (xs := cs.map V.str) (fun i H2 => Same H H2 ∧ H2 D0 = some (.lst [])) ⟨same_new hD0, upd_same⟩ (fun i H2 _ q => .inl (ht.same q.1).rd) ?_ ?_
    · rintro i x H2 hx ⟨s2, e2⟩
      obtain ⟨c, hc, rfl, _⟩ := str_at hx
      refine ⟨rfl, _, rfl, t, _, rfl, ht.same s2, _, rfl, cs, c, rfl, .inl (ht.same s2).rd, _, _, rfl, rfl, _, rfl, ?_⟩
      have h3 : decide ((1 : Int) < ((cs.count c : Nat) : Int)) = false := decide_eq_false (by have := count_one ci.nd c; omega)
      rw [h3]
      exact iteF ⟨s2, e2⟩
    rintro H2 ⟨s2, e2⟩
    refine ⟨Nat.zero_le _, fun L hL => ?_⟩
    have sL : Same H2 (upd H2 L (.lst [])) := same_new hL
    refine ⟨.list [], .list [], .lst (SqL.of (sL _ _ e2)) .nil, .lst (SqL.of upd_same) .nil, shp_nil, shp_nil, _, rfl, ?_⟩
    rw [eqv_nils]
    have s3 := s2.trans sL
    generalize upd H2 L (.lst []) = H3 at s3 ⊢
    refine iteF ⟨_, rfl, t, _, rfl, .inr (.inl (ht.same s3).rd), _, rfl, by omega, by omega, fun D1 hD1 => ?_⟩
    rw [Int.toNat_natCast, lm]
    refine lc_range (lo := 0) (n := cs.length) (fun i H4 => Same H3 H4 ∧ H4 D1 = some (.lst [])) ⟨same_new hD1, upd_same⟩ ?_ ?_
    · rintro i H4 hi ⟨s4, e4⟩
      have ft := ht.same (s3.trans s4)
      have e0 : (0 : Int) + (i : Int) = ((i : Nat) : Int) := by omega
      have hx : cs[i]? = some (cs.getD i default) := getD_at hi
      have hm : (i + 1) % cs.length < cs.length := Nat.mod_lt _ (by omega)
      have hy : cs[(i + 1) % cs.length]? = some (cs.getD ((i + 1) % cs.length) default) := getD_at hm
      have em : ((0 : Int) + (i : Int) + 1) % (((cs.map V.str).length : Nat) : Int) = (((i + 1) % cs.length : Nat) : Int) := by
        rw [lm, show (0 : Int) + (i : Int) + 1 = ((i + 1 : Nat) : Int) by omega]
        first
          | exact (Int.natCast_emod _ _).symm
          | exact (Int.ofNat_emod _ _).symm
          | rfl
      have hin := ci.next i _ _ hx hy
      generalize cs.getD i default = x at hx hin
      generalize cs.getD ((i + 1) % cs.length) default = y at hy hin
      refine ⟨rfl, _, rfl, _, rfl, t, _, _, .str x, rfl, rfl, .inl ft.rd, by rw [e0]; exact atI_nat (by rw [List.getElem?_map, hx]; rfl), ?_⟩
      refine ⟨_, rfl, _, rfl, _, _, rfl, rfl, _, rfl, t, _, rfl, .inr (.inl ft.rd), ?_⟩
      refine ⟨_, _, rfl, rfl, by rw [lm]; omega, t, _, _, .str y, rfl, rfl, .inl ft.rd, by rw [em]; exact atI_nat (by rw [List.getElem?_map, hy]; rfl), ?_⟩
      refine ⟨by show 2 ≤ sizeLine; decide, fun T hT => ?_⟩
      have sT : Same H4 (upd H4 T (.tup [.str x, .str y])) := same_new hT
      have s5 := (s3.trans s4).trans sT
      have shp : ∀ d ∈ ps.map prD, Shp d := fun d hd => by
        obtain ⟨z, q, rfl⟩ := List.mem_map.mp hd
        exact shp_pr (okp z q).1 (okp z q).2
      refine ⟨_, rfl, prD (x, y), ps.map prD, .tup (.inl (.inl upd_same)) (.cons (.str _) (.cons (.str _) .nil)), .lst (SqL.of (s5 _ _ hb)) (hps.same s5).dp, shp_sh (shp_pr (okp _ hin).1 (okp _ hin).2), shp_l shp, _, rfl, ?_⟩
      rw [any_pr, List.contains_iff_mem.mpr hin]
      exact iteF ⟨s4.trans sT, sT _ _ e4⟩
    · rintro H4 ⟨s4, e4⟩
      refine ⟨Nat.zero_le _, fun L2 hL2 => ?_⟩
      have sL2 : Same H4 (upd H4 L2 (.lst [])) := same_new hL2
      refine ⟨.list [], .list [], .lst (SqL.of (sL2 _ _ e4)) .nil, .lst (SqL.of upd_same) .nil, shp_nil, shp_nil, ?_⟩
      rw [eqv_nils]
      exact k _ ((s3.trans s4).trans sL2)
end
end Ah
set_option Elab.async false
set_option linter.all false
set_option maxRecDepth 100000
set_option maxHeartbeats 8000000
namespace Ah
open PySem PySem.Spec PyProof.Rows L2
abbrev sPairs2 : Stmt := topS 26
theorem ltu_kp {p a : Addr} {xs : List V} {H H' : Hp} (k : Kp p H H') {kvs : List (Key × V)} (hp : H p = some (.dK kvs)) (h : LTu H a xs) : LTu H' a xs :=
  h.imp (lk_kp k hp (fun _ z => by cases z)) (rd_kp k hp (fun _ z => by cases z))
def dueTo (R : Str → Str → Bool) (ys l : List Str) : List (Str × Str) := l.flatMap fun a => (ys.filter (R a)).map fun b => (a, b)
theorem dueTo_len {R : Str → Str → Bool} {ys : List Str} : ∀ l : List Str, (dueTo R ys l).length ≤ l.length * ys.length
  | [] => Nat.zero_le _
  | a :: l => by
    have ih := dueTo_len (R := R) (ys := ys) l
    have e : (dueTo R ys (a :: l)).length = (ys.filter (R a)).length + (dueTo R ys l).length := by
      unfold dueTo
      rw [List.flatMap_cons, List.length_append, List.length_map]
    have := List.length_filter_le (R a) ys
    rw [e, List.length_cons, Nat.succ_mul]
    omega
theorem dueTo_snoc {R : Str → Str → Bool} {ys l : List Str} {a : Str} : dueTo R ys (l ++ [a]) = dueTo R ys l ++ (ys.filter (R a)).map fun b => (a, b) := by
  unfold dueTo
  rw [List.flatMap_append, List.flatMap_cons, List.flatMap_nil, List.append_nil]
theorem prs_shp {ps : List (Str × Str)} (ok : PrsOk ps) : ∀ d ∈ ps.map prD, Shp d := fun d hd => by
  obtain ⟨y, q, rfl⟩ := List.mem_map.mp hd
  exact shp_pr (ok y q).1 (ok y q).2
theorem PrsV.take {H : Hp} : ∀ {vs : List V} {ps : List (Str × Str)} (n : Nat), PrsV H vs ps → PrsV H (vs.take n) (ps.take n)
  | [], [], _, _ => by simp [PrsV]
  | _ :: _, _ :: _, 0, _ => by simp [PrsV]
  | _ :: _, _ :: _, n + 1, ⟨h, t⟩ => ⟨h, t.take n⟩
  | [], _ :: _, _, h => h.elim
  | _ :: _, [], _, h => h.elim
theorem PrsV.drop {H : Hp} : ∀ {vs : List V} {ps : List (Str × Str)} (n : Nat), PrsV H vs ps → PrsV H (vs.drop n) (ps.drop n)
  | [], [], _, _ => by simp [PrsV]
  | _ :: _, _ :: _, 0, h => h
  | _ :: _, _ :: _, n + 1, ⟨_, t⟩ => t.drop n
  | [], _ :: _, _, h => h.elim
  | _ :: _, [], _, h => h.elim
def unl (a b : Str) : Bool := decide (b ≠ a)
/-- pairs of unlike hands of these -/
def Good (hs : List Str) (ps : List (Str × Str)) : Prop := ∀ x y, (x, y) ∈ ps → x ∈ hs ∧ y ∈ hs ∧ x ≠ y
section
variable {P : Program} {w : World} {K : PySem.W.Frag} {mg : Str → Option Value} {base : Heap}
theorem scPairs2 : FnScope ["pen", "hands", "rising", "every", "hand", "some", "part", "k", "at", "other", "pair", "one"] ["pen", "hands"] (defScope sPairs2) := ⟨rfl, rfl, rfl, by decide +kernel, rfl, by decide +kernel, by decide +kernel⟩
def spPairs2 : Sp := fun vs H Q _ => ∃ (p c q : Addr) (hs : List Str) (n : Nat), vs = [.ref p, .ref q] ∧ H q = some (.lst (hs.map V.str)) ∧ (∀ x ∈ hs, IsHand x) ∧ hs.Nodup ∧ 1 ≤ hs.length ∧ hs.length ≤ 8 ∧ PenAt H p c n ∧ n + 400 < 1000000 ∧
  ∀ (b : Addr) (us : List V) (ps : List (Str × Str)) (H' : Hp), H' b = some (.lst us) → PrsV H' us ps → Good hs ps → ps.length ≤ 80 → PenAt H' p c (n + 250) → Kp p H H' → Q (.ref b) H'
theorem ok_pairs2 {f f1 f2 f3 f4 : Addr} {fd fd1 fd2 fd3 fd4 : FuncData} (F : Fun K "_law_pairs" "_law_pairs" sPairs2 f fd) (B : Blt2 mg) (D1 : Df P w K mg base CX0 "_law_draw" 1 f1 fd1 ["pen", "many"] spDraw) (D2 : Df P w K mg base CX0 "_law_pick" 2 f2 fd2 ["pen", "some"] (spPick K)) (D3 : Df P w K mg base CX0 "_law_row" 3 f3 fd3 ["pen", "hands"] spLawRow) (D4 : Df P w K mg base CX0 "_law_pairs_of_row" 3 f4 fd4 ["pen", "row"] spPairsRow) : FnOk P w K mg base CX0 4 f fd ["pen", "hands"] spPairs2 := by
  refine F.ok scPairs2 (fun vs H Q E h => ?_) (fun cdv A outer s H vs Q E hr h => ?_)
  · obtain ⟨p, c, q, hs, n, rfl, _⟩ := h
    rfl
  · obtain ⟨p, c, q, hs, n, rfl, hq, hh, ndh, l1, l8, hp, hn, k⟩ := h
    have nd := scPairs2.nd
    have r1 : Room 1 _ := hr.mono (by decide)
    have r2 : Room 2 _ := hr.mono (by decide)
    refine ⟨_, pss_cons (ps_set (i := 2) nd rfl (.inl rfl) (pe_callB cr_sortedTS (by rfl) B.sorted (by decide +kernel) (pa_cons (pv 1) pa_nil)))
      (pss_cons (ps_set (i := 3) nd rfl (.inr rfl) (pe_lst pa_nil))
      (pss_cons (ps_for PassesOwn.never rfl (pi_list (pv 2)) (pg_name (i := 4) nd rfl (.inr rfl))
        (pss_one (ps_expr (pe_bm PySem.F.plainAttrs_list PySem.F.slot_list_extend PySem.F.type_list_extend mt_extend (pv 3) (pa_cons (pe_lc (own := [("other", 9)]) (g := gName 9) (tt := tTest (tOp rNe (tVar 9) (tVar 4))) (te := tTup (tCons (tVar 4) (tCons (tVar 9) tNil))) rfl nd (pi_list (pv 2))
            (blkOk_by (N := ["pen", "hands", "rising", "every", "hand", "some", "part", "k", "at", "other", "pair", "one"]) (sc := defScope sPairs2) (by decide +kernel)) (fun _ _ _ _ _ => pg_name (i := 9) nd rfl (Or.inl rfl))
            (fun _ _ _ _ _ => pts_one (pt_cmpR op_ne (pv 9) (pv 4) (nomark _))) (fun _ _ _ _ _ => pe_tup (pa_cons (pv 4) (pa_cons (pv 9) pa_nil)))) pa_nil)))))
      (pss_cons (ps_set (i := 5) nd rfl (.inl rfl) (pe_call D4.ok hr rfl D4.g D4.kp D4.b .nil pass0 (pa_cons (pv 0) (pa_cons (pe_call D3.ok hr rfl D3.g D3.kp D3.b .nil pass0 (pa_cons (pv 0) (pa_cons (pv 1) pa_nil))) pa_nil))))
      (C8.pss_cut (ps_if (PW.pt (pw_and (pt_cmpR (op_neD hr.units) (pv 3) (pe_lst pa_nil) (nomark _)) (pw_and1 (pt_cmpR op_eq (pe_call D1.ok r1 rfl D1.g D1.kp D1.b .nil pass0 (pa_cons (pv 0) (pa_cons pe_int pa_nil))) pe_int (nomark _)))))
        (pss_cons (ps_set (i := 6) nd rfl (.inr rfl) (pe_call D2.ok r2 rfl D2.g D2.kp D2.b .nil pass0 (pa_cons (pv 0) (pa_cons (pe_lst (pa_cons pe_int (pa_cons pe_int (pa_cons pe_int pa_nil)))) pa_nil))))
        (pss_one (ps_setLc (i := 5) (own := [("pair", 10)]) (g := gName 10) (tt := tTest (tOp rEq (tCall spDraw [] E0 (tCons (tVar 0) (tCons (tVar 6) tNil))) (tC (.int 0)))) (te := tVar 10) rfl nd rfl rfl (by rfl) (pi_list (pv 3))
            (blkOk_by (N := ["pen", "hands", "rising", "every", "hand", "some", "part", "k", "at", "other", "pair", "one"]) (sc := defScope sPairs2) (by decide +kernel)) (fun _ _ _ _ _ => pg_name (i := 10) nd rfl (Or.inl rfl))
            (fun _ _ _ _ _ => pts_one (pt_cmpR op_eq (pe_call D1.ok r1 rfl D1.g D1.kp D1.b .nil pass0 (pa_cons (pv 0) (pa_cons (pv 6) pa_nil))) pe_int (nomark _))) (fun _ _ _ _ _ => pv 10)))) pss_nil)
      (pss_cons (ps_for PassesOwn.never rfl (pi_range1 rfl B.range (pa_cons (pe_call D1.ok r1 rfl D1.g D1.kp D1.b .nil pass0 (pa_cons (pv 0) (pa_cons pe_int pa_nil))) pa_nil)) (pg_name (i := 7) nd rfl (.inl rfl))
        (pss_cons (ps_set (i := 8) nd rfl (.inl rfl) (pe_call D1.ok r1 rfl D1.g D1.kp D1.b .nil pass0 (pa_cons (pv 0) (pa_cons (pe_op op_add (pe_callB call_len_seq (by rfl) B.len PySem.boot_len (pa_cons (pv 5) pa_nil)) pe_int) pa_nil))))
        (pss_one (ps_set (i := 5) nd rfl (.inl rfl) (pe_op op_cat (pe_op op_cat (pe_slice sl_list (pv 5) po_none (po_some (pv 8))) (pe_lc (own := [("one", 11)]) (g := gName 11) (tt := tYes) (te := tCall (spPick K) [] E0 (tCons (tVar 0) (tCons (tVar 3) tNil))) rfl nd (pi_list (pe_slice sl_list (pv 3) po_none (po_some pe_int)))
            (blkOk_by (N := ["pen", "hands", "rising", "every", "hand", "some", "part", "k", "at", "other", "pair", "one"]) (sc := defScope sPairs2) (by decide +kernel)) (fun _ _ _ _ _ => pg_name (i := 11) nd rfl (Or.inl rfl))
            (fun _ _ _ _ _ => pts_nil) (fun _ _ _ _ _ => pe_call D2.ok r2 rfl D2.g D2.kp D2.b .nil pass0 (pa_cons (pv 0) (pa_cons (pv 3) pa_nil))))) (pe_slice sl_list (pv 5) (po_some (pv 8)) po_none))))))
      (pss_one (ps_ret (pv 5)))))))), ?_⟩
    refine ⟨_, rfl, q, hs, rfl, .inl (SqL.of hq), by omega, fun ys q2 py sy hq2 => ?_⟩
    have s1 : Same H (upd H q2 (.lst (ys.map V.str))) := same_new hq2
    have e1 : (upd H q2 (.lst (ys.map V.str))) q2 = some (.lst (ys.map V.str)) := upd_same
    generalize upd H q2 (.lst (ys.map V.str)) = H1 at s1 e1 ⊢
    refine ⟨Nat.zero_le _, fun Le hLe => ?_⟩
    have hLeH : H Le = none := none_of s1 hLe
    have nq : q2 ≠ Le := fun e => by rw [e, hLe] at e1; cases e1
    have s2 := s1.trans (same_new (o := .lst []) hLe)
    have e2 : (upd H1 Le (.lst [])) q2 = some (.lst (ys.map V.str)) := (upd_ne nq).trans e1
    have eLe : (upd H1 Le (.lst [])) Le = some (.lst []) := upd_same
    generalize upd H1 Le (.lst []) = H2 at s2 e2 eLe ⊢
    have lys : ys.length ≤ 8 := by rw [py.length_eq]; exact l8
    have lm : (ys.map V.str).length = ys.length := List.length_map ..
    have ndy : ys.Nodup := py.nodup_iff.mpr ndh
    refine ⟨_, rfl, q2, rfl, ⟨_, SqL.of e2⟩, ?_⟩
    refine for_list (K := K) (a := q2) (xs := ys.map V.str) (fun u σ H3 => ∃ (o4 : Option V) (ws : List V), σ = [some (.ref p), some (.ref q), some (.ref q2), some (.ref Le), o4, none, none, none, none, none, none, none] ∧ Same H H3 ∧ H3 q2 = some (.lst (ys.map V.str)) ∧ H3 Le = some (.lst ws) ∧ PrsV H3 ws (dueTo unl ys (ys.take u)))
      ⟨_, [], rfl, s2, e2, eLe, trivial⟩ (fun u σ H3 _ ⟨_, _, _, _, z, _⟩ => SqL.of z) ?_ ?_
    · rintro u x σ H3 hx ⟨o4, ws, rfl, s3, f2, fd2, r3⟩
      obtain ⟨f0, hf0, rfl, hfm⟩ := str_at hx
      have etu : ys.take (u + 1) = ys.take u ++ [f0] := by rw [List.take_succ, hf0]; rfl
      refine ⟨_, rfl, .inl ⟨rfl, _, SqL.of fd2⟩, ?_⟩
      refine ⟨_, rfl, q2, rfl, ⟨_, SqL.of f2⟩, fun D0 hD0 => ?_⟩
      refine lc_list (K := K) (a := q2) (xs := ys.map V.str) (fun v H4 => Same H3 H4 ∧ ∃ ws2, H4 D0 = some (.lst ws2) ∧ PrsV H4 ws2 (((ys.take v).filter (unl f0)).map fun b => (f0, b))) ⟨same_new hD0, [], upd_same, trivial⟩ (fun v H4 _ z => SqL.of (z.1 _ _ f2)) ?_ ?_
      · rintro v z H4 hz ⟨s4, ws2, e4, r4⟩
        obtain ⟨z0, hz0, rfl, hzm⟩ := str_at hz
        have etv : ys.take (v + 1) = ys.take v ++ [z0] := by rw [List.take_succ, hz0]; rfl
        have l4 := r4.len
        rw [List.length_map] at l4
        have lf := List.length_filter_le (unl f0) (ys.take v)
        rw [List.length_take] at lf
        refine ⟨rfl, _, rfl, _, rfl, rfl, _, rfl, ?_⟩
        by_cases c : z0 = f0
        · rw [decide_eq_true (congrArg V.str c)]
          refine iteF ⟨s4, ws2, e4, ?_⟩
          rw [etv, List.filter_append, List.filter_cons, if_neg (by unfold unl; rw [decide_eq_false (fun z => z c)]; exact Bool.false_ne_true)]
          simpa using r4
        · rw [decide_eq_false fun z => c (V.str.inj z)]
          refine iteT ⟨_, rfl, _, rfl, by show 2 ≤ sizeLine; decide, fun T2 hT2 => ?_⟩
          have s5 : Same H4 (upd H4 T2 (.tup [.str f0, .str z0])) := same_new hT2
          refine ⟨ws2, s5 _ _ e4, small1000 (by omega), same_mut (s4.trans s5) hD0, ws2 ++ [.ref T2], upd_same, ?_⟩
          rw [etv, List.filter_append, List.filter_cons, if_pos (show unl f0 z0 = true from decide_eq_true c), List.map_append]
          exact ((r4.same s5).append (show PrsV _ [.ref T2] [(f0, z0)] from ⟨⟨T2, rfl, upd_same⟩, trivial⟩)).mut (s5 _ _ e4)
      · rintro H4 ⟨s4, ws2, e4, r4⟩
        rw [lm, List.take_length] at r4
        have eL4 := s4 _ _ fd2
        have h1 := r3.len
        have h2 := r4.len
        have h3 := dueTo_len (R := unl) (ys := ys) (ys.take u)
        have h4 : (ys.take u).length * ys.length ≤ 8 * 8 := Nat.mul_le_mul (by rw [List.length_take]; omega) lys
        have h5 := List.length_filter_le (unl f0) ys
        rw [List.length_map] at h2
        refine ⟨Le, D0, ws, ws2, rfl, rfl, eL4, e4, Nat.le_of_lt (small1000 (by omega)), ?_⟩
        refine ⟨_, ws ++ ws2, rfl, same_mut (s3.trans s4) hLeH, (upd_ne nq).trans (s4 _ _ f2), upd_same, ?_⟩
        rw [etu, dueTo_snoc]
        exact ((r3.same s4).append r4).mut eL4
    rintro σ H3 ⟨o4, wse, rfl, s3, f2, eLe3, re3⟩
    rw [lm, List.take_length] at re3
    generalize hev : dueTo unl ys ys = ev at re3
    have lev : ev.length ≤ 64 := by
      have h1 := dueTo_len (R := unl) (ys := ys) ys
      have h2 : ys.length * ys.length ≤ 8 * 8 := Nat.mul_le_mul lys lys
      rw [hev] at h1
      omega
    have gev : Good hs ev := fun x y z => by
      rw [← hev] at z
      unfold dueTo at z
      obtain ⟨a, h1, h2⟩ := List.mem_flatMap.mp z
      obtain ⟨b, h3, h4⟩ := List.mem_map.mp h2
      obtain ⟨h5, h6⟩ := List.mem_filter.mp h3
      cases h4
      exact ⟨py.mem_iff.mp h1, py.mem_iff.mp h5, fun e => (of_decide_eq_true h6) e.symm⟩
    have okg : ∀ {ps : List (Str × Str)}, Good hs ps → PrsOk ps := fun g x z => ⟨(hh _ (g x.1 x.2 z).1).ok, (hh _ (g x.1 x.2 z).2.1).ok⟩
    have hp3 := hp.keep s3
    obtain ⟨kv3, hk3⟩ := hp3.dk
    refine ⟨_, rfl, _, rfl, _, rfl, p, c, q, hs, n, rfl, .inl (s3 _ _ hq), hh, by omega, hp3, by omega, fun b1 rw' H4 p4 f4 hp4 kp4 => ⟨p, c, b1, rw', _, rfl, f4.rd, by rw [p4.length_eq]; exact l8, hp4, by omega, fun b us ps H5 e5 r5 o5 l5 hp5 kp5 => ?_⟩⟩
    have kp45 := kp4.trans kp5
    have kp5' : Kp p H H5 := (Kp.same s3).trans kp45
    have eLe5 := lk_kp kp45 hk3 (fun _ z => by cases z) eLe3
    have re5 := re3.kp kp45 hk3
    have g5 : Good hs ps := fun x y z => by
      obtain ⟨i, j, hij, hx, hy⟩ := o5 x y z
      refine ⟨p4.mem_iff.mp (List.mem_of_getElem? hx), p4.mem_iff.mp (List.mem_of_getElem? hy), fun e => ?_⟩
      subst e
      have := (List.getElem?_inj (List.getElem?_eq_some_iff.mp hx).1 (p4.nodup_iff.mpr ndh)).mp (hx.trans hy.symm)
      omega
    have l5' : ps.length ≤ 64 := by have := p4.length_eq; omega
    obtain ⟨kv5, hk5⟩ := hp5.dk
    refine ⟨fun σ' H6 => ∃ (b : Addr) (us : List V) (ps : List (Str × Str)) (o4 o6 : Option V), σ' = [some (.ref p), some (.ref q), some (.ref q2), some (.ref Le), o4, some (.ref b), o6, none, none, none, none, none] ∧ H6 b = some (.lst us) ∧ PrsV H6 us ps ∧ Good hs ps ∧ ps.length ≤ 64 ∧ PenAt H6 p c (n + 180) ∧ Kp p H H6 ∧ H6 Le = some (.lst wse) ∧ PrsV H6 wse ev, ?_, ?_⟩
    · refine ⟨_, rfl, Nat.zero_le _, fun t0 ht0 => ?_⟩
      have st : Same H5 (upd H5 t0 (.lst [])) := same_new ht0
      refine ⟨.list (ev.map prD), .list [], .lst (SqL.of (st _ _ eLe5)) (re5.same st).dp, .lst (SqL.of upd_same) .nil, shp_l (prs_shp (okg gev)), shp_nil, _, rfl, ?_⟩
      rw [eqv_nils]
      have e6 := st _ _ e5
      have r6 := r5.same st
      have eLe6 := st _ _ eLe5
      have re6 := re5.same st
      have hp6 := hp5.keep st
      have kp6 := kp5'.trans (Kp.same st)
      generalize upd H5 t0 (.lst []) = H6 at e6 r6 eLe6 re6 hp6 kp6 ⊢
      refine ite2 (fun e => ?_) (fun e => ?_)
      · refine ⟨_, rfl, p, c, 4, _, rfl, hp6, by omega, by decide, by decide, fun d H7 d0 d4 hp7 kp7 => ⟨rfl, _, rfl, ?_⟩⟩
        obtain ⟨kv6, hk6⟩ := hp6.dk
        have e7 := lk_kp kp7 hk6 (fun _ z => by cases z) e6
        have r7 := r6.kp kp7 hk6
        have eLe7 := lk_kp kp7 hk6 (fun _ z => by cases z) eLe6
        have re7 := re6.kp kp7 hk6
        have kp7' := kp6.trans kp7
        refine ite2 (fun e => ?_) (fun e => ?_)
        · refine ⟨_, rfl, by show 3 ≤ sizeLine; decide, fun A0 hA0 => ?_⟩
          have sA : Same H7 (upd H7 A0 (.lst ([2, 4, 8].map V.int))) := same_new hA0
          refine ⟨p, c, .ref A0, [2, 4, 8].map V.int, _, rfl, .inl ⟨A0, rfl, SqL.of upd_same⟩, hp7.keep sA, by omega, by decide, by decide, fun i0 y H8 hy hp8 kp8 => ?_⟩
          obtain ⟨m, rfl, m0, m1⟩ : ∃ m : Int, y = V.int m ∧ 0 < m ∧ m < 100 := by
            have := List.mem_of_getElem? hy
            simp only [List.map_cons, List.map_nil, List.mem_cons, List.not_mem_nil, or_false] at this
            rcases this with e | e | e <;> exact ⟨_, e, by decide, by decide⟩
          obtain ⟨kvA, hkA⟩ := (hp7.keep sA).dk
          have eLe8 := lk_kp kp8 hkA (fun _ z => by cases z) (sA _ _ eLe7)
          have re8 := (re7.same sA).kp kp8 hkA
          have kp8' := (kp7'.trans (Kp.same sA)).trans kp8
          refine ⟨_, rfl, Le, rfl, ⟨_, SqL.of eLe8⟩, fun D0 hD0 => ?_⟩
          obtain ⟨kv8, hk8⟩ := hp8.dk
          have lwse := re8.len
          refine lc_list (K := K) (a := Le) (xs := wse) (fun i H9 => ∃ ws qs, H9 D0 = some (.lst ws) ∧ PrsV H9 ws qs ∧ (∀ z ∈ qs, z ∈ ev) ∧ qs.length ≤ i ∧ PenAt H9 p c (n + hs.length + 100 + 1 + 1 + i) ∧ Kp p H8 H9) ⟨[], [], upd_same, trivial, (fun _ z => by cases z), Nat.le_refl _, hp8.keep (same_new hD0), Kp.new hD0⟩ (fun i H9 _ ⟨_, _, _, _, _, _, _, z⟩ => SqL.of (lk_kp z hk8 (fun _ z => by cases z) eLe8)) ?_ ?_
          · rintro i v H9 hv ⟨ws, qs, e9, r9, m9, l9, hp9, kp9⟩
            obtain ⟨pr, hpr, vp⟩ := re8.get hv
            have hil := (List.getElem?_eq_some_iff.mp hv).1
            refine ⟨rfl, _, rfl, _, rfl, p, c, m, _, rfl, hp9, by omega, m0, by omega, fun d H10 _ _ hp10 kp10 => ⟨rfl, _, rfl, ?_⟩⟩
            obtain ⟨kv9, hk9⟩ := hp9.dk
            have e10 := lk_kp kp10 hk9 (fun _ z => by cases z) e9
            have r10 := r9.kp kp10 hk9
            have kp10' := kp9.trans kp10
            refine ite2 (fun e => ?_) (fun e => ?_)
            · refine ⟨_, rfl, ws, e10, small1000 (by have := r10.len; omega), ws ++ [v], qs ++ [pr], upd_same, ?_, fun z hz => ?_, by rw [List.length_append]; exact Nat.succ_le_succ l9, hp8.mut hD0 hp10, kp10'.mut hD0⟩
              · exact (r10.append (show PrsV H10 [v] [pr] from ⟨vp.kp kp10' hk8, trivial⟩)).mut e10
              · rcases List.mem_append.mp hz with hz | hz
                · exact m9 z hz
                · rw [List.mem_singleton.mp hz]
                  exact List.mem_of_getElem? hpr
            · exact ⟨ws, qs, e10, r10, m9, by omega, hp10, kp10'⟩
          · rintro H9 ⟨ws, qs, e9, r9, m9, l9, hp9, kp9⟩
            exact ⟨D0, ws, qs, _, _, rfl, e9, r9, fun x y z => gev x y (m9 _ z), by omega, hp9.mono (by omega), kp8'.trans kp9, lk_kp kp9 hk8 (fun _ z => by cases z) eLe8, re8.kp kp9 hk8⟩
        · exact ⟨b, us, ps, _, _, rfl, e7, r7, g5, l5', hp7.mono (by omega), kp7', eLe7, re7⟩
      · exact ⟨b, us, ps, _, _, rfl, e6, r6, g5, l5', hp6.mono (by omega), kp6, eLe6, re6⟩
    · rintro σ' H6 ⟨b, us, ps, o4', o6, rfl, e6, r6, g6, l6, hp6, kp6, eLe6, re6⟩
      obtain ⟨kv6, hk6⟩ := hp6.dk
      refine ⟨_, rfl, p, c, 3, _, rfl, hp6, by omega, by decide, by decide, fun d H7 d0 d3 hp7 kp7 => ⟨d, rfl, by omega, by omega, ?_⟩⟩
      obtain ⟨dn, rfl⟩ : ∃ dn : Nat, d = dn := ⟨d.toNat, by omega⟩
      rw [Int.toNat_natCast]
      refine for_range (lo := 0) (n := dn) (fun i σ H8 => ∃ (b : Addr) (us : List V) (ps : List (Str × Str)) (o4 o6 o7 o8 : Option V), σ = [some (.ref p), some (.ref q), some (.ref q2), some (.ref Le), o4, some (.ref b), o6, o7, o8, none, none, none] ∧ H8 b = some (.lst us) ∧ PrsV H8 us ps ∧ Good hs ps ∧ ps.length ≤ 64 + i ∧ PenAt H8 p c (n + 181 + 2 * i) ∧ Kp p H H8 ∧ H8 Le = some (.lst wse) ∧ PrsV H8 wse ev)
        ⟨b, us, ps, o4', o6, none, none, rfl, lk_kp kp7 hk6 (fun _ z => by cases z) e6, r6.kp kp7 hk6, g6, l6, hp7, kp6.trans kp7, lk_kp kp7 hk6 (fun _ z => by cases z) eLe6, re6.kp kp7 hk6⟩ ?_ ?_
      · rintro i σ H8 hi ⟨b, us, ps, o4, o6, o7, o8, rfl, e8, r8, g8, l8', hp8, kp8, eLe8, re8⟩
        obtain ⟨kv8, hk8⟩ := hp8.dk
        have lus := r8.len
        refine ⟨_, rfl, _, rfl, b, us, rfl, .inl (SqL.of e8), _, _, rfl, rfl, p, c, _, _, rfl, hp8, by omega, by omega, by omega, fun d2 H9 f0 f1 hp9 kp9 => ?_⟩
        obtain ⟨at', rfl⟩ : ∃ n : Nat, d2 = n := ⟨d2.toNat, by omega⟩
        have hat : at' ≤ us.length := by omega
        have e9 := lk_kp kp9 hk8 (fun _ z => by cases z) e8
        have r9 := r8.kp kp9 hk8
        have eLe9 := lk_kp kp9 hk8 (fun _ z => by cases z) eLe8
        have re9 := re8.kp kp9 hk8
        have kp9' := kp8.trans kp9
        have lwse := re9.len
        refine ⟨_, rfl, _, rfl, _, rfl, b, us, rfl, SqL.of e9, fun A1 hA1 => ?_⟩
        rw [cutV_to hat]
        have sA1 : Same H9 (upd H9 A1 (.lst (us.take at'))) := same_new hA1
        have eA1 : (upd H9 A1 (.lst (us.take at'))) A1 = some (.lst (us.take at')) := upd_same
        generalize upd H9 A1 (.lst (us.take at')) = H10 at sA1 eA1 ⊢
        refine ⟨_, rfl, _, rfl, Le, wse, rfl, SqL.of (sA1 _ _ eLe9), fun A2 hA2 => ?_⟩
        have ec : cutV wse none (some 1) = wse.take 1 := by
          by_cases z : 1 ≤ wse.length
          · exact cutV_to z
          · have : wse = [] := List.eq_nil_of_length_eq_zero (by omega)
            subst this
            rfl
        rw [ec]
        have sA2 : Same H10 (upd H10 A2 (.lst (wse.take 1))) := same_new hA2
        have eA2 : (upd H10 A2 (.lst (wse.take 1))) A2 = some (.lst (wse.take 1)) := upd_same
        generalize upd H10 A2 (.lst (wse.take 1)) = H11 at sA2 eA2 ⊢
        have s11 := sA1.trans sA2
        have hp11 := hp9.keep s11
        obtain ⟨kv11, hk11⟩ := hp11.dk
        have eLe11 := s11 _ _ eLe9
        have re11 := re9.same s11
        refine ⟨A2, rfl, ⟨_, SqL.of eA2⟩, fun D0 hD0 => ?_⟩
        refine lc_list (K := K) (a := A2) (xs := wse.take 1) (fun i2 H12 => ∃ ws qs, H12 D0 = some (.lst ws) ∧ PrsV H12 ws qs ∧ (∀ z ∈ qs, z ∈ ev) ∧ qs.length ≤ i2 ∧ PenAt H12 p c (n + 181 + 2 * i + 1 + i2) ∧ Kp p H11 H12) ⟨[], [], upd_same, trivial, (fun _ z => by cases z), Nat.le_refl _, hp11.keep (same_new hD0), Kp.new hD0⟩ (fun i2 H12 _ ⟨_, _, _, _, _, _, _, z⟩ => SqL.of (lk_kp z hk11 (fun _ z => by cases z) eA2)) ?_ ?_
        · rintro i2 v H12 hv ⟨ws, qs, e12, r12, m12, l12, hp12, kp12⟩
          have hvl := (List.getElem?_eq_some_iff.mp hv).1
          rw [List.length_take] at hvl
          obtain ⟨kv12, hk12⟩ := hp12.dk
          have eLe12 := lk_kp kp12 hk11 (fun _ z => by cases z) eLe11
          have re12 := re11.kp kp12 hk11
          refine ⟨rfl, _, rfl, _, rfl, p, c, .ref Le, wse, _, rfl, .inl ⟨Le, rfl, SqL.of eLe12⟩, hp12, by omega, by omega, by omega, fun i0 y H13 hy hp13 kp13 => ?_⟩
          obtain ⟨pr, hpr, vp⟩ := re12.get hy
          have e13 := lk_kp kp13 hk12 (fun _ z => by cases z) e12
          have r13 := r12.kp kp13 hk12
          refine ⟨ws, e13, small1000 (by have := r13.len; omega), ws ++ [y], qs ++ [pr], upd_same, (r13.append (show PrsV H13 [y] [pr] from ⟨vp.kp kp13 hk12, trivial⟩)).mut e13, fun z hz => ?_, by rw [List.length_append]; exact Nat.succ_le_succ l12, hp11.mut hD0 hp13, (kp12.trans kp13).mut hD0⟩
          rcases List.mem_append.mp hz with hz | hz
          · exact m12 z hz
          · rw [List.mem_singleton.mp hz]
            exact List.mem_of_getElem? hpr
        · rintro H12 ⟨ws, qs, e12, r12, m12, l12, hp12, kp12⟩
          rw [List.length_take] at l12 hp12
          have lws := r12.len
          have eA1' := lk_kp kp12 hk11 (fun _ z => by cases z) (sA2 _ _ eA1)
          have e12b := lk_kp kp12 hk11 (fun _ z => by cases z) (s11 _ _ e9)
          have r12b := (r9.same s11).kp kp12 hk11
          have eLe12 := lk_kp kp12 hk11 (fun _ z => by cases z) eLe11
          have re12 := re11.kp kp12 hk11
          have ltk := List.length_take (i := at') (l := us)
          refine ⟨A1, D0, us.take at', ws, rfl, rfl, eA1', e12, Nat.le_of_lt (small1000 (by omega)), fun A3 hA3 => ?_⟩
          have s13 : Same H12 (upd H12 A3 (.lst (us.take at' ++ ws))) := same_new hA3
          have e13 : (upd H12 A3 (.lst (us.take at' ++ ws))) A3 = some (.lst (us.take at' ++ ws)) := upd_same
          generalize upd H12 A3 (.lst (us.take at' ++ ws)) = H13 at s13 e13 ⊢
          refine ⟨_, rfl, _, rfl, _, rfl, b, us, rfl, SqL.of (s13 _ _ e12b), fun A4 hA4 => ?_⟩
          rw [cutV_from hat]
          have s14 : Same H13 (upd H13 A4 (.lst (us.drop at'))) := same_new hA4
          have e14 : (upd H13 A4 (.lst (us.drop at'))) A4 = some (.lst (us.drop at')) := upd_same
          generalize upd H13 A4 (.lst (us.drop at')) = H14 at s14 e14 ⊢
          have ldr := List.length_drop (i := at') (l := us)
          refine ⟨A3, A4, us.take at' ++ ws, us.drop at', rfl, rfl, s14 _ _ e13, e14, Nat.le_of_lt (small1000 (by rw [List.length_append]; omega)), fun A5 hA5 => ?_⟩
          have s15 : Same H14 (upd H14 A5 (.lst (us.take at' ++ ws ++ us.drop at'))) := same_new hA5
          have sz := (s13.trans s14).trans s15
          have lpt := List.length_take (i := at') (l := ps)
          have lpd := List.length_drop (i := at') (l := ps)
          refine ⟨A5, us.take at' ++ ws ++ us.drop at', ps.take at' ++ qs ++ ps.drop at', _, _, _, _, rfl, upd_same, ((r12b.take at').same sz |>.append (r12.same sz)).append ((r12b.drop at').same sz), fun x y hz => ?_, by rw [List.length_append, List.length_append]; omega, (hp12.keep sz).mono (by omega), ((kp9'.trans (Kp.same s11)).trans kp12).trans (Kp.same sz), sz _ _ eLe12, re12.same sz⟩
          rcases List.mem_append.mp hz with hz | hz
          · rcases List.mem_append.mp hz with hz | hz
            · exact g8 x y (List.mem_of_mem_take hz)
            · exact gev x y (m12 _ hz)
          · exact g8 x y (List.mem_of_mem_drop hz)
      · rintro σ H8 ⟨b, us, ps, o4, o6, o7, o8, rfl, e8, r8, g8, l8', hp8, kp8, eLe8, re8⟩
        exact ⟨_, rfl, k b us ps H8 e8 r8 g8 (by omega) (hp8.mono (by omega)) kp8⟩
end
end Ah
set_option Elab.async false
set_option linter.all false
set_option maxRecDepth 100000
set_option maxHeartbeats 4000000
namespace Ah
open PySem PySem.Spec PyProof.Rows L2
abbrev sPen : Stmt := topS 16
theorem pen_new (c : Addr) (a l : Int) : mergeK [] (penK c a l) = penK c a l := by
  have e1 : (putK ([] : List (Key × V)) (.inr "cells" : Key) (V.ref c)) = [((.inr "cells" : Key), V.ref c)] := rfl
  have n1 : valV [((.inr "cells" : Key), V.ref c)] (.inr "at" : Key) = none := (valV_neg fun e => k_ca (Sum.inr.inj e)).trans rfl
  have n2 : valV [((.inr "cells" : Key), V.ref c), (.inr "at", .int a)] (.inr "left" : Key) = none := (valV_neg fun e => k_cl (Sum.inr.inj e)).trans ((valV_neg fun e => k_al (Sum.inr.inj e)).trans rfl)
  show putK (putK (putK ([] : List (Key × V)) (.inr "cells" : Key) (V.ref c)) (.inr "at" : Key) (V.int a)) (.inr "left" : Key) (V.int l) = _
  rw [e1, putK_new _ n1]
  show putK [((.inr "cells" : Key), V.ref c), (.inr "at", .int a)] (.inr "left" : Key) (V.int l) = _
  rw [putK_new _ n2]
  rfl
section
variable {P : Program} {w : World} {K : PySem.W.Frag} {mg : Str → Option Value} {base : Heap}
theorem scPen : FnScope ["script"] ["script"] (defScope sPen) := ⟨rfl, rfl, rfl, by decide +kernel, rfl, by decide +kernel, by decide +kernel⟩
def spPen (K : PySem.W.Frag) : Sp := fun vs H Q _ => ∃ (a : Addr) (ns : List Int), vs = [.ref a] ∧ SqL K H a (ns.map V.int) ∧ ∀ (p c : Addr) (H' : Hp), PenAt H' p c 0 → Q (.ref p) H'
theorem ok_pen {f : Addr} {fd : FuncData} (F : Fun K "_law_pen" "_law_pen" sPen f fd) (B : Blt2 mg) : FnOk P w K mg base CX0 1 f fd ["script"] (spPen K) := by
  refine F.ok scPen (fun vs H Q E h => ?_) (fun cdv A outer s H vs Q E hr h => ?_)
  · obtain ⟨a, ns, rfl, _⟩ := h
    rfl
  · obtain ⟨a, ns, rfl, ha, k⟩ := h
    refine ⟨_, pss_one (ps_ret (pe_disp (pps_cons pe_str (pe_callTy call_list_of (by rfl) B.list (by decide +kernel) (pa_cons (pe_slice sl_list (pv 0) po_none (po_some pe_int)) pa_nil)) (pps_cons pe_str pe_int (pps_cons pe_str pe_int pps_nil))) rfl rfl (by simp) (by decide))), ?_⟩
    refine fun p hp => ⟨_, rfl, _, rfl, a, ns.map V.int, rfl, (same_new hp).seq ha, fun l1 hl1 => ?_⟩
    refine ⟨l1, _, rfl, .inl (SqL.of upd_same), fun l2 hl2 => ?_⟩
    have s12 := (same_new (o := .lst (cutV (ns.map V.int) none (some 63))) hl1).trans (same_new (o := .lst (cutV (ns.map V.int) none (some 63))) hl2)
    refine ⟨s12 _ _ upd_same, penK l2 0 0, rfl, (by show 3 ≤ 15; decide), ?_⟩
    rw [pen_new]
    have nlp : l2 ≠ p := fun e => by
      rw [e] at hl2
      have := (same_new (o := .lst (cutV (ns.map V.int) none (some 63))) hl1) p _ upd_same
      rw [hl2] at this
      cases this
    refine k p l2 _ ⟨(ns.take (min 63 ns.length)), 0, 0, upd_same, ?_, by decide, by decide, by decide⟩
    rw [upd_ne nlp, upd_same]
    have ec : cutV (ns.map V.int) none (some 63) = (ns.take (min 63 ns.length)).map V.int := by
      unfold cutV
      rw [HT.sIx_none, show (63 : Int) = ((63 : Nat) : Int) from rfl, HT.sIx_nat, List.drop_zero, Nat.sub_zero, List.length_map, List.map_take]
    rw [ec]
end
end Ah
set_option Elab.async false
set_option linter.all false
set_option maxRecDepth 100000
set_option maxHeartbeats 8000000
namespace Ah
open PySem PySem.Spec PyProof.Rows L2
abbrev sLaw : Stmt := topS 30
theorem eqv_prs (ds : List (Str × Str)) : PyData.eqvAll (ds.map prD) (ds.map prD) = true := by
  induction ds with
  | nil => simp [PyData.eqvAll]
  | cons p r ih =>
    have e : PyData.eqv (prD p) (prD p) = true := by rw [eqv_pr, decide_eq_true rfl]
    simp only [List.map_cons, PyData.eqvAll, e, ih, Bool.and_true]
theorem eqv_prsT (ds : List (Str × Str)) : PyData.eqv (.tuple (ds.map prD)) (.tuple (ds.map prD)) = true := by
  simp only [PyData.eqv]
  exact eqv_prs ds
section
variable {P : Program} {w : World} {K : PySem.W.Frag} {mg : Str → Option Value} {base : Heap}
theorem scLaw : FnScope ["script", "pen", "bout", "hands", "pairs", "told", "row", "web", "due", "hand", "other"] ["script"] (defScope sLaw) := ⟨rfl, rfl, rfl, by decide +kernel, rfl, by decide +kernel, by decide +kernel⟩
def spLaw (K : PySem.W.Frag) : Sp := fun vs H Q _ => ∃ (a : Addr) (ns : List Int), vs = [.ref a] ∧ SqL K H a (ns.map V.int) ∧ ns.length ≤ 63 ∧ ∀ H', Q (.bl true) H'
structure Defs (P : Program) (w : World) (K : PySem.W.Frag) (mg : Str → Option Value) (base : Heap) (g1 g2 g3 g4 g5 g6 g7 g8 g9 g10 : Addr) (h1 h2 h3 h4 h5 h6 h7 h8 h9 h10 : FuncData) : Prop where
  pen : Df P w K mg base CX0 "_law_pen" 1 g1 h1 ["script"] (spPen K)
  draw : Df P w K mg base CX0 "_law_draw" 1 g2 h2 ["pen", "many"] spDraw
  hands : Df P w K mg base CX0 "_law_hands" 3 g3 h3 ["pen", "many"] (spHands K)
  pairs : Df P w K mg base CX0 "_law_pairs" 4 g4 h4 ["pen", "hands"] spPairs2
  listed : Df P w K mg base CX0 "_law_listed" 3 g5 h5 ["pen", "hands"] spListed
  told : Df P w K mg base CX0 "_law_told" 4 g6 h6 ["folk", "pairs"] spTold
  round : Df P w K mg base CX0 "_law_goes_round" 1 g7 h7 ["pairs", "told"] spRound
  laid : Df P w K mg base CX0 "_law_laid" 2 g8 h8 ["hands", "pairs"] spLaid
  led : Df P w K mg base CX0 "_law_led" 1 g9 h9 ["pairs", "first"] spLed
  keeps : Df P w K mg base CX0 "keeps" 4 g10 h10 ["web", "row"] spKeeps
theorem ok_law {f g1 g2 g3 g4 g5 g6 g7 g8 g9 g10 : Addr} {fd h1 h2 h3 h4 h5 h6 h7 h8 h9 h10 : FuncData} (F : Fun K "law" "law" sLaw f fd) (B : Blt2 mg) (D : Defs P w K mg base g1 g2 g3 g4 g5 g6 g7 g8 g9 g10 h1 h2 h3 h4 h5 h6 h7 h8 h9 h10) : FnOk P w K mg base CX0 5 f fd ["script"] (spLaw K) := by
  refine F.ok scLaw (fun vs H Q E h => ?_) (fun cdv A outer s H vs Q E hr h => ?_)
  · obtain ⟨a, ns, rfl, _⟩ := h
    rfl
  · obtain ⟨a, ns, rfl, ha, hl, k⟩ := h
    have nd := scLaw.nd
    have r1 : Room 1 _ := hr.mono (by decide)
    have r2 : Room 2 _ := hr.mono (by decide)
    have r3 : Room 3 _ := hr.mono (by decide)
    refine ⟨_, pss_cons (ps_set (i := 1) nd rfl (.inl rfl) (pe_call D.pen.ok r1 rfl D.pen.g D.pen.kp D.pen.b .nil pass0 (pa_cons (pv 0) pa_nil)))
      (pss_cons (ps_for PassesOwn.never rfl (pi_range1 rfl B.range (pa_cons pe_int pa_nil)) (pg_name (i := 2) nd rfl (.inl rfl))
        (pss_cons (ps_set (i := 3) nd rfl (.inl rfl) (pe_call D.hands.ok r3 rfl D.hands.g D.hands.kp D.hands.b .nil pass0 (pa_cons (pv 1) (pa_cons (pe_op op_add pe_int (pe_call D.draw.ok r1 rfl D.draw.g D.draw.kp D.draw.b .nil pass0 (pa_cons (pv 1) (pa_cons pe_int pa_nil)))) pa_nil))))
        (pss_cons (ps_set (i := 4) nd rfl (.inl rfl) (pe_call D.pairs.ok hr rfl D.pairs.g D.pairs.kp D.pairs.b .nil pass0 (pa_cons (pv 1) (pa_cons (pv 3) pa_nil))))
        (pss_cons (ps_par (i := 5) (j := 6) rfl nd rfl rfl (by decide) rfl rfl (pa_cons (pe_call D.told.ok hr rfl D.told.g D.told.kp D.told.b .nil pass0 (pa_cons (pe_call D.listed.ok r3 rfl D.listed.g D.listed.kp D.listed.b .nil pass0 (pa_cons (pv 1) (pa_cons (pv 3) pa_nil)))
            (pa_cons (pe_ix (r := rIxL K) ix_list (pe_lst (pa_cons (pe_callTy call_list_of (by rfl) B.list (by decide +kernel) (pa_cons (pv 4) pa_nil)) (pa_cons (pe_callTy call_tuple_ofF (by rfl) B.tuple (by decide +kernel) (pa_cons (pv 4) pa_nil)) pa_nil))) (pe_call D.draw.ok r1 rfl D.draw.g D.draw.kp D.draw.b .nil pass0 (pa_cons (pv 1) (pa_cons pe_int pa_nil))) (fun _ _ => rfl)) pa_nil))) (pa_cons (pe_tupF pa_nil) pa_nil)) (by rfl))
        (pss_one (ps_if (pt_cmpR op_eq (pe_ix (r := rIxT K) ix_tup (pv 5) pe_int (fun _ _ => rfl)) pe_str (nomark _))
          (pss_one (ps_if (PW.pt (pw_or (pt_cmpR op_notBl (pe_ix (r := rIxT K) ix_tup (pv 5) pe_int (fun _ _ => rfl)) pe_bl (nomark _)) (pw_or1 (pt_not (pt_val (pe_call D.round.ok r1 rfl D.round.g D.round.kp D.round.b .nil pass0 (pa_cons (pv 4) (pa_cons (pe_ix (r := rIxT K) ix_tup (pv 5) pe_int (fun _ _ => rfl)) pa_nil)))))))) (pss_one (ps_ret pe_bl)) pss_nil))
          (pss_cons (ps_par (i := 6) (j := 7) rfl nd rfl rfl (by decide) rfl rfl (pa_cons (pe_call D.laid.ok r2 rfl D.laid.g D.laid.kp D.laid.b .nil pass0 (pa_cons (pv 3) (pa_cons (pv 4) pa_nil))) (pa_cons (pe_ix (r := rIxT K) ix_tup (pv 5) pe_int (fun _ _ => rfl)) pa_nil)) (by rfl))
          (pss_cons (ps_if (PW.pt (pw_or (pt_not (pt_val (pe_callB call_isi (by rfl) B.isinstance (by decide +kernel) (pa_cons (pv 7) (pa_cons (pe_bltn (v := .ty "tuple") (by rfl) B.tuple (by decide +kernel) rfl) pa_nil)))))
              (pw_or (pt_cmpR op_ne (pe_callB call_len_seq (by rfl) B.len PySem.boot_len (pa_cons (pv 6) pa_nil)) (pe_callB call_len_seq (by rfl) B.len PySem.boot_len (pa_cons (pv 3) pa_nil)) (nomark _))
              (pw_or1 (pt_cmpR op_notBl (pe_call D.keeps.ok hr rfl D.keeps.g D.keeps.kp D.keeps.b .nil pass0 (pa_cons (pv 7) (pa_cons (pv 6) pa_nil))) pe_bl (nomark _)))))) (pss_one (ps_ret pe_bl)) pss_nil)
          (pss_cons (ps_set (i := 8) nd rfl (.inl rfl) (pe_lst pa_nil))
          (pss_cons (ps_for PassesOwn.never rfl (pi_list (pe_callB cr_sortedTS (by rfl) B.sorted (by decide +kernel) (pa_cons (pv 3) pa_nil))) (pg_name (i := 9) nd rfl (.inr rfl))
            (pss_one (ps_expr (pe_bm PySem.F.plainAttrs_list PySem.F.slot_list_extend PySem.F.type_list_extend mt_extend (pv 8) (pa_cons (pe_lc (own := [("other", 10)]) (g := gName 10) (tt := tYes) (te := tTup (tCons (tVar 9) (tCons (tVar 10) tNil))) rfl nd
                (pi_list (pe_callB cr_sortedTS (by rfl) B.sorted (by decide +kernel) (pa_cons (pe_slice sl_list (pe_call D.led.ok r1 rfl D.led.g D.led.kp D.led.b .nil pass0 (pa_cons (pv 4) (pa_cons (pv 9) pa_nil))) (po_some pe_int) po_none) pa_nil)))
                (blkOk_by (N := ["script", "pen", "bout", "hands", "pairs", "told", "row", "web", "due", "hand", "other"]) (sc := defScope sLaw) (by decide +kernel)) (fun _ _ _ _ _ => pg_name (i := 10) nd rfl (Or.inl rfl))
                (fun _ _ _ _ _ => pts_nil) (fun _ _ _ _ _ => pe_tup (pa_cons (pv 9) (pa_cons (pv 10) pa_nil)))) pa_nil)))))
          (pss_one (ps_if (pt_cmpR (op_neD hr.units) (pv 7) (pe_callTy call_tuple_ofF (by rfl) B.tuple (by decide +kernel) (pa_cons (pv 8) pa_nil)) (nomark _)) (pss_one (ps_ret pe_bl)) pss_nil))))))))))))
      (pss_one (ps_ret pe_bl))), ?_⟩
    refine ⟨_, rfl, a, ns, rfl, ha, fun p c H1 hp1 => ?_⟩
    refine ⟨3, rfl, by decide, by decide, ?_⟩
    refine for_range (lo := 0) (n := 3) (fun i σ H2 => ∃ o2 o3 o4 o5 o6 o7 o8 o9 : Option V, σ = [some (.ref a), some (.ref p), o2, o3, o4, o5, o6, o7, o8, o9, none] ∧ PenAt H2 p c (300 * i)) ⟨_, _, _, _, _, _, _, _, rfl, hp1⟩ ?_ ?_
    · rintro i σ H2 hi ⟨o2, o3, o4, o5, o6, o7, o8, o9, rfl, hp2⟩
      refine ⟨_, rfl, _, rfl, p, c, 8, _, rfl, hp2, by omega, by decide, by decide, fun d H3 d0 d8 hp3 kp3 => ?_⟩
      obtain ⟨j, rfl⟩ : ∃ j : Nat, d = j := ⟨d.toNat, by omega⟩
      refine ⟨_, _, rfl, rfl, p, c, j + 1, _, by show [V.ref p, V.int ((1 : Int) + (j : Int))] = _; rw [show (1 : Int) + (j : Int) = ((j + 1 : Nat) : Int) by omega], by omega, by omega, hp3, by omega, fun q hs H4 hl4 nd4 hh4 hq4 e4 hp4 kp4 => ?_⟩
      obtain ⟨kv4, hk4⟩ := hp4.dk
      have nqp : q ≠ p := fun e => by rw [e, hk4] at e4; cases e4
      have l8 : hs.length ≤ 8 := by omega
      refine ⟨_, rfl, _, rfl, p, c, q, hs, _, rfl, e4, hh4, nd4, by omega, l8, hp4, by omega, fun b us ps H5 e5 r5 g5 l5 hp5 kp5 => ?_⟩
      obtain ⟨kv5, hk5⟩ := hp5.dk
      have eq5 := kp5 q _ nqp e4
      refine ⟨_, rfl, _, rfl, p, c, q, hs, _, rfl, eq5, hh4, by omega, hp5, by omega, fun b5 folk H6 pf6 f6 hp6 kp6 => ?_⟩
      obtain ⟨kv6, hk6⟩ := hp6.dk
      have eq6 := kp6 q _ nqp eq5
      have e6 := lk_kp kp6 hk5 (fun _ z => by cases z) e5
      have r6 := r5.kp kp6 hk5
      -- a list or a tuple of them
      refine ⟨_, rfl, b, us, rfl, .inl (SqL.of e6), fun La hLa => ?_⟩
      have sa : Same H6 (upd H6 La (.lst us)) := same_new hLa
      have ea : (upd H6 La (.lst us)) La = some (.lst us) := upd_same
      generalize upd H6 La (.lst us) = H7 at sa ea ⊢
      refine ⟨_, rfl, b, us, rfl, SqL.of (sa _ _ e6), newF fun Lb H8 sb fb => ?_⟩
      refine ⟨by show 2 ≤ sizeLine; decide, fun L hL => ?_⟩
      have sL : Same H8 (upd H8 L (.lst [.ref La, .ref Lb])) := same_new hL
      have eL : (upd H8 L (.lst [.ref La, .ref Lb])) L = some (.lst [.ref La, .ref Lb]) := upd_same
      have s68 := (sa.trans sb).trans sL
      have ea8 := (sb.trans sL) _ _ ea
      have fb8 := fb.same sL
      generalize upd H8 L (.lst [.ref La, .ref Lb]) = H9 at s68 ea8 fb8 eL ⊢
      have hp9 := hp6.keep s68
      obtain ⟨kv9, hk9⟩ := hp9.dk
      refine ⟨_, rfl, p, c, 2, _, rfl, hp9, by omega, by decide, by decide, fun d2 H10 f0 f2 hp10 kp10 => ?_⟩
      obtain ⟨j2, rfl⟩ : ∃ j : Nat, d2 = j := ⟨d2.toNat, by omega⟩
      have eL10 := lk_kp kp10 hk9 (fun _ z => by cases z) eL
      have ea10 := lk_kp kp10 hk9 (fun _ z => by cases z) ea8
      have fb10 := ftp_kp kp10 hk9 fb8
      have kp6' : Kp p H6 H10 := (Kp.same s68).trans kp10
      have eq10 := kp6' q _ nqp eq6
      have e10 := lk_kp kp6' hk6 (fun _ z => by cases z) e6
      have r10 := r6.kp kp6' hk6
      have f10 := ltu_kp kp6' hk6 f6
      obtain ⟨x2, hx2, hLT⟩ : ∃ x2, [V.ref La, V.ref Lb][j2]? = some (.ref x2) ∧ LTu H10 x2 us := by
        have hj : j2 = 0 ∨ j2 = 1 := by omega
        rcases hj with rfl | rfl
        · exact ⟨La, rfl, .inl ea10⟩
        · exact ⟨Lb, rfl, .inr fb10.rd⟩
      have okh : ∀ x ∈ hs, PyData.strOk x = true := fun x z => (hh4 x z).ok
      have okf : ∀ x ∈ folk, PyData.strOk x = true := fun x z => okh x (pf6.mem_iff.mp z)
      have okp : PrsOk ps := fun x z => ⟨okh _ (g5 x.1 x.2 z).1, okh _ (g5 x.1 x.2 z).2.1⟩
      have inf : ∀ x y, (x, y) ∈ ps → x ∈ folk ∧ y ∈ folk := fun x y z => ⟨pf6.mem_iff.mpr (g5 x y z).1, pf6.mem_iff.mpr (g5 x y z).2.1⟩
      have irr : ∀ x, (x, x) ∉ ps := fun x z => (g5 x x z).2.2 rfl
      obtain ⟨R, hR⟩ : ∃ R : Str → Str → Bool, ∀ x y, R x y = true ↔ Lead ps x y := ⟨fun x y => @decide (Lead ps x y) (Classical.propDecidable _), fun x y => @decide_eq_true_iff _ (Classical.propDecidable _)⟩
      obtain ⟨S, pS, rS⟩ : ∃ S : List Str, S.Perm hs ∧ S.Pairwise sLt := by
        have tot : ∀ x y : Str, (!decide (sLt y x) || !decide (sLt x y)) = true := fun x y => by
          by_cases z : sLt y x
          · have : ¬ sLt x y := fun w => sLt_irr _ (sLt_trans z w)
            simp [this]
          · simp [z]
        refine ⟨hs.mergeSort (fun x y => !decide (sLt y x)), List.mergeSort_perm _ _, ?_⟩
        have pw := List.pairwise_mergeSort (le := fun x y : Str => !decide (sLt y x)) (fun x y z h k => by
          have h' : ¬ sLt y x := by simpa using h
          have k' : ¬ sLt z y := by simpa using k
          have : ¬ sLt z x := fun w => by
            by_cases v : sLt x y
            · exact k' (sLt_trans w v)
            · have := sLt_tri v h'
              subst this
              exact k' w
          simpa using this) tot hs
        have ndS : (hs.mergeSort (fun x y => !decide (sLt y x))).Nodup := (List.mergeSort_perm _ _).nodup_iff.mpr nd4
        unfold List.Nodup at ndS
        refine (pw.and ndS).imp fun {x y} h => ?_
        have h1 : ¬ sLt y x := by simpa using h.1
        by_cases z : sLt x y
        · exact z
        · exact absurd (sLt_tri z h1) h.2
      have inS : ∀ x y, (x, y) ∈ ps → x ∈ S ∧ y ∈ S := fun x y z => ⟨pS.mem_iff.mpr (g5 x y z).1, pS.mem_iff.mpr (g5 x y z).2.1⟩
      refine ⟨L, _, _, .ref x2, rfl, rfl, SqL.of eL10, atI_nat hx2, ?_⟩
      refine ⟨b5, x2, folk, us, ps, S, R, rfl, f10, hLT, r10, okf, okp, by rw [pf6.length_eq]; exact l8, by omega, inf, pf6.trans pS.symm, rS, hR, irr, fun emp t T ws H11 s11 ft rt eT => ?_, fun t T cs H11 s11 ft ci sb' eT => ?_⟩
      · -- a web
        refine ⟨Nat.zero_le _, newF fun z0 H12 s12 fz => ?_⟩
        refine ⟨_, _, rfl, ?_⟩
        have eT12 := s12 _ _ eT
        have s1012 := s11.trans s12
        have hwk : decide (V.str "web" = V.str "knot") = false := by decide +kernel
        refine ⟨_, rfl, T, _, (0 : Nat), .str "web", rfl, rfl, .inl (.inl eT12), atI_nat rfl, rfl, _, rfl, ?_⟩
        rw [hwk]
        refine iteF ⟨_, rfl, _, rfl, q, b, hs, us, ps, S, S.length, rfl, s1012 _ _ eq10, s1012 _ _ e10, r10.same s1012, l8, by omega, nd4, pS.symm, inS, emp, fun r row H13 s13 fr pr kr => ?_⟩
        have s1013 := s1012.trans s13
        refine ⟨_, rfl, T, _, (1 : Nat), .ref t, rfl, rfl, .inl (.inl (s13 _ _ eT12)), atI_nat rfl, ⟨_, _, rfl, ?_⟩⟩
        have ft13 := (ft.same s12).same s13
        have rt13 := (rt.same s12).same s13
        generalize hdue : dueOf R S = due at rt rt13
        have lS : S.length ≤ 8 := by rw [pS.length_eq]; exact l8
        have l64 : S.length * S.length ≤ 8 * 8 := Nat.mul_le_mul lS lS
        have ld : due.length ≤ 64 := by
          have h := dueOf_len (R := R) (hs := S)
          rw [hdue] at h
          omega
        have hled : ∀ x y, (x, y) ∈ due → x ∈ row ∧ y ∈ row ∧ Lead ps x y := fun x y z => by
          rw [← hdue] at z
          obtain ⟨z1, z2, z3⟩ := dueOf_mem.mp z
          exact ⟨pr.mem_iff.mpr (pS.mem_iff.mp z1), pr.mem_iff.mpr (pS.mem_iff.mp z2), (hR _ _).mp z3⟩
        have keepd : KeepR row due := kr.of_lead fun x y z => (hled x y z).2.2
        have web : WebAt H13 t ws row due := ⟨ft13.rd, rt13, by rw [← hdue]; exact dueOf_rises rS, ld, fun x y z => ⟨(hled x y z).1, (hled x y z).2.1, fun e => by
          subst e
          exact kr.irr (hled _ _ z).2.2⟩, by rw [← hdue]; exact due_thru hR⟩
        have okd : PrsOk due := fun x z => by
          obtain ⟨z1, z2, _⟩ := hled x.1 x.2 z
          exact ⟨okh _ (pr.mem_iff.mp z1), okh _ (pr.mem_iff.mp z2)⟩
        have shd := prs_shp okd
        refine ⟨_, rfl, .ref t, .ty "tuple", _, _, true, rfl, .ty "tuple", ty_tup ft13.rd, kit_ty (by decide +kernel), _, rfl, ?_⟩
        refine iteF ⟨_, rfl, r, _, rfl, .inr (.inl fr.rd), _, rfl, q, _, rfl, .inl (SqL.of (s1013 _ _ eq10)), rfl, _, rfl, ?_⟩
        rw [decide_eq_true (congrArg V.int (by rw [List.length_map, List.length_map, pr.length_eq] : (((row.map V.str).length : Nat) : Int) = (((hs.map V.str).length : Nat) : Int)))]
        refine iteF ⟨_, rfl, _, rfl, t, r, ws, row, due, rfl, fr, web, keepd, fun H14 s14 => ⟨true, true, rfl, rfl, _, rfl, ?_⟩⟩
        rw [decide_eq_true rfl]
        refine iteF ?_
        have s1014 := s1013.trans s14
        refine ⟨Nat.zero_le _, fun Ld hLd => ?_⟩
        have sD : Same H14 (upd H14 Ld (.lst [])) := same_new hLd
        refine ⟨_, rfl, q, hs, rfl, .inl (SqL.of (sD _ _ (s1014 _ _ eq10))), by omega, fun ys q2 py sy hq2 => ⟨q2, rfl, ⟨_, SqL.of upd_same⟩, ?_⟩⟩
        have eys : S = ys := sorted_one rS (rises_of_sorted sy (py.nodup_iff.mpr nd4)) (pS.trans py.symm)
        subst eys
        have lm : (S.map V.str).length = S.length := List.length_map ..
        have nq2 : q2 ≠ Ld := fun e => by rw [e, upd_same] at hq2; cases hq2
        have s15 := sD.trans (same_new (o := .lst (S.map V.str)) hq2)
        have eLd : (upd (upd H14 Ld (.lst [])) q2 (.lst (S.map V.str))) Ld = some (.lst []) := (same_new hq2) _ _ upd_same
        have eq2 : (upd (upd H14 Ld (.lst [])) q2 (.lst (S.map V.str))) q2 = some (.lst (S.map V.str)) := upd_same
        generalize upd (upd H14 Ld (.lst [])) q2 (.lst (S.map V.str)) = H15 at s15 eLd eq2 ⊢
        refine for_list (K := K) (a := q2) (xs := S.map V.str) (fun u σ H16 => ∃ (o9 : Option V) (ws2 : List V), σ = [some (.ref a), some (.ref p), some (.int (0 + (i : Int))), some (.ref q), some (.ref b), some (.ref T), some (.ref r), some (.ref t), some (.ref Ld), o9, none] ∧ Same H14 H16 ∧ H16 q2 = some (.lst (S.map V.str)) ∧ H16 Ld = some (.lst ws2) ∧ PrsV H16 ws2 (dueTo R S (S.take u)))
          ⟨_, [], rfl, s15, eq2, eLd, trivial⟩ (fun u σ H16 _ ⟨_, _, _, _, z, _⟩ => SqL.of z) ?_ ?_
        · rintro u x σ H16 hx ⟨o9', wsd, rfl, s16, f2', fd2, r16⟩
          obtain ⟨f0', hf0, rfl, hfm⟩ := str_at hx
          have etu : S.take (u + 1) = S.take u ++ [f0'] := by rw [List.take_succ, hf0]; rfl
          have s1016 := s1014.trans s16
          refine ⟨_, rfl, .inl ⟨rfl, _, SqL.of fd2⟩, ?_⟩
          refine ⟨_, rfl, _, rfl, b, f0', us, ps, S, rfl, s1016 _ _ e10, r10.same s1016, inS, hfm, lS, by omega, fun Fl tl H17 s17 eF ndF lF mF => ?_⟩
          refine ⟨_, rfl, Fl, _, rfl, SqL.of eF, fun A1 hA1 => ?_⟩
          have ec : cutV ((f0' :: tl).map V.str) (some 1) none = tl.map V.str := cutV_from (p := 1) (by simp)
          rw [ec]
          have s18 : Same H17 (upd H17 A1 (.lst (tl.map V.str))) := same_new hA1
          have e18 : (upd H17 A1 (.lst (tl.map V.str))) A1 = some (.lst (tl.map V.str)) := upd_same
          generalize upd H17 A1 (.lst (tl.map V.str)) = H18 at s18 e18 ⊢
          rw [List.length_cons] at lF
          refine ⟨A1, tl, rfl, .inl (SqL.of e18), by omega, fun zs q3 pz sz hq3 => ⟨q3, rfl, ⟨_, SqL.of upd_same⟩, fun D0 hD0 => ?_⟩⟩
          have ndtl := (List.nodup_cons.mp ndF)
          have ez : zs = S.filter (R f0') := by
            refine sorted_one (rises_of_sorted sz (pz.nodup_iff.mpr ndtl.2)) (rS.filter _) ?_
            refine pz.trans ((List.perm_ext_iff_of_nodup ndtl.2 ((sLt_nodup rS).filter _)).mpr fun y => ?_)
            rw [List.mem_filter, hR]
            constructor
            · intro hy
              have h1 := (mF y).mp (List.mem_cons_of_mem _ hy)
              rcases h1 with h1 | h1
              · subst h1
                exact absurd hy ndtl.1
              · exact ⟨(h1.left inS).2, h1⟩
            · rintro ⟨h1, h2⟩
              have h3 := (mF y).mpr (.inr h2)
              rcases List.mem_cons.mp h3 with h3 | h3
              · subst h3
                exact absurd h2 kr.irr
              · exact h3
          have s19 : Same H18 (upd H18 q3 (.lst (zs.map V.str))) := same_new hq3
          have e19 : (upd H18 q3 (.lst (zs.map V.str))) q3 = some (.lst (zs.map V.str)) := upd_same
          generalize upd H18 q3 (.lst (zs.map V.str)) = H19 at s19 e19 hD0 ⊢
          have lzs : zs.length ≤ 8 := by rw [pz.length_eq]; omega
          have s1619 := (s17.trans s18).trans s19
          refine lc_list (K := K) (a := q3) (xs := zs.map V.str) (fun v H20 => Same H19 H20 ∧ ∃ ws2, H20 D0 = some (.lst ws2) ∧ PrsV H20 ws2 ((zs.take v).map fun b => (f0', b))) ⟨same_new hD0, [], upd_same, trivial⟩ (fun v H20 _ q => SqL.of (q.1 _ _ e19)) ?_ ?_
          · rintro v z H20 hz ⟨s20, ws2, e20, r20⟩
            obtain ⟨z0', hz0, rfl, hzm⟩ := str_at hz
            have etv : zs.take (v + 1) = zs.take v ++ [z0'] := by rw [List.take_succ, hz0]; rfl
            have l20 := r20.len
            rw [List.length_map, List.length_take] at l20
            refine ⟨rfl, _, rfl, _, rfl, by show 2 ≤ sizeLine; decide, fun T2 hT2 => ?_⟩
            have s21 : Same H20 (upd H20 T2 (.tup [.str f0', .str z0'])) := same_new hT2
            refine ⟨ws2, s21 _ _ e20, small1000 (by omega), same_mut (s20.trans s21) hD0, ws2 ++ [.ref T2], upd_same, ?_⟩
            rw [etv, List.map_append]
            exact ((r20.same s21).append (show PrsV _ [.ref T2] [(f0', z0')] from ⟨⟨T2, rfl, upd_same⟩, trivial⟩)).mut (s21 _ _ e20)
          · rintro H20 ⟨s20, ws2, e20, r20⟩
            rw [List.length_map, List.take_length, ez] at r20
            have s1620 := s1619.trans s20
            have eL20 := s1620 _ _ fd2
            have h1 := r16.len
            have h2 := r20.len
            have h3 := dueTo_len (R := R) (ys := S) (S.take u)
            have h4 : (S.take u).length * S.length ≤ 8 * 8 := Nat.mul_le_mul (by rw [List.length_take]; omega) lS
            have h5 := List.length_filter_le (R f0') S
            rw [List.length_map] at h2
            refine ⟨Ld, D0, wsd, ws2, rfl, rfl, eL20, e20, Nat.le_of_lt (small1000 (by omega)), ?_⟩
            refine ⟨_, wsd ++ ws2, rfl, same_mut (s16.trans s1620) hLd, (upd_ne nq2).trans (s1620 _ _ f2'), upd_same, ?_⟩
            rw [etu, dueTo_snoc]
            exact ((r16.same s1620).append r20).mut eL20
        · rintro σ H16 ⟨o9', wsd, rfl, s16, f2', fd2, r16⟩
          rw [lm, List.take_length, show dueTo R S S = due from hdue] at r16
          have ft16 := (ft13.same s14).same s16
          have rt16 := (rt13.same s14).same s16
          refine ⟨_, rfl, _, rfl, Ld, wsd, rfl, SqL.of fd2, newF fun b9 H17 s17 f17 => ⟨.tuple (due.map prD), .tuple (due.map prD), .tup (.inl (ft16.same s17).rd) (rt16.same s17).dp, .tup (.inl f17.rd) (r16.same s17).dp, shp_t shd, shp_t shd, _, rfl, ?_⟩⟩
          rw [eqv_prsT]
          refine iteF ⟨_, _, _, _, _, _, _, _, rfl, (hp10.keep ((s1014.trans s16).trans s17)).mono (by omega)⟩
      · -- a knot
        refine ⟨Nat.zero_le _, newF fun z0 H12 s12 fz => ?_⟩
        refine ⟨_, _, rfl, ?_⟩
        have eT12 := s12 _ _ eT
        refine ⟨_, rfl, T, _, (0 : Nat), .str "knot", rfl, rfl, .inl (.inl eT12), atI_nat rfl, rfl, _, rfl, ?_⟩
        rw [decide_eq_true rfl]
        refine iteT ⟨_, rfl, T, _, (2 : Nat), .bl true, rfl, rfl, .inl (.inl eT12), atI_nat rfl, true, true, rfl, rfl, _, rfl, ?_⟩
        rw [decide_eq_true rfl]
        have s1012 := s11.trans s12
        refine iteF ⟨_, rfl, _, rfl, T, _, (1 : Nat), .ref t, rfl, rfl, .inl (.inl eT12), atI_nat rfl, ?_⟩
        refine ⟨b, t, us, ps, cs, rfl, s1012 _ _ e10, r10.same s1012, ft.same s12, ci, fun x z => okf x (sb' x z), okp, Nat.le_trans (nodup_sub_le ci.nd sb') (by rw [pf6.length_eq]; exact l8), by omega, fun H13 s13 => ⟨true, rfl, ?_⟩⟩
        refine iteF ⟨_, _, _, _, _, _, _, _, rfl, (hp10.keep (s1012.trans s13)).mono (by omega)⟩
    · rintro σ H2 ⟨o2, o3, o4, o5, o6, o7, o8, o9, rfl, hp2⟩
      exact k H2
end
end Ah
set_option Elab.async false
set_option linter.all false
set_option maxRecDepth 100000
set_option maxHeartbeats 8000000
namespace Ah
open PySem PySem.Spec PyProof.Rows L2
/-- an error of the class at S is what its own clause takes -/
theorem own_taken {K : PySem.W.Frag} {S : Addr} (h1 : PySem.W.subIn K (.ref S) (.type "BaseException") = some true) (h2 : PySem.W.isClsIn K S = true) (h3 : PySem.W.typeIn K (.ref S) = some (.type "type")) (h4 : PySem.W.subIn K (.ref S) (.ref S) = some true) : PySem.W.exmOne K (.ref S) (.ref S) = some true := by
  have c1 : (PySem.W.subIn K (.ref S) (.type "BaseException") == some true) = true := by rw [h1]; rfl
  have c2 : ((PySem.W.clsIn K S).isSome && PySem.W.typeIn K (.ref S) == some (.type "type")) = true := by
    have q : (PySem.W.clsIn K S).isSome = true := h2
    rw [q, h3]; rfl
  show (if (PySem.W.subIn K (.ref S) (.type "BaseException") == some true) = true then (if ((PySem.W.clsIn K S).isSome && PySem.W.typeIn K (.ref S) == some (.type "type")) = true then PySem.W.subIn K (.ref S) (.ref S) else none) else none) = some true
  rw [if_pos c1, if_pos c2, h4]

theorem all_mk {l : PySem.W.OpenLaw} {w : World} {K : PySem.W.Frag} {h : Heap} {mg : Str → Option Value} {fa C fI f1 f2 f3 f4 f5 f6 f7 f8 f9 f10 f11 f12 f13 f14 f15 f16 f17 f18 f19 f20 f21 f22 f23 f24 : Addr} (X : K.In h) (G : h.Ns mainGlobals mg) (hfa : mg "law" = some (.ref fa))
    {nm q : Str} {N : Addr} {bs : List Value} {sn : List Str} {sub : List Value} {ab : Bool} {col : Option Bool} {dd : Option Addr} {m0 m1 m2 m3 m5 : Option Value}
    {od0 an0 : Option Addr} {sl0 : Array (Option Value)} {oc0 dc0 pm0 cd0 ct0 : Value}
    {od1 an1 od2 an2 od3 an3 od4 an4 od5 an5 od6 an6 od7 an7 od8 an8 od9 an9 od10 an10 od11 an11 od12 an12 od13 an13 od14 an14 od15 an15 od16 an16 od17 an17 od18 an18 od19 an19 od20 an20 od21 an21 od22 an22 od23 an23 od24 an24 : Option Addr} {sl1 sl2 sl3 sl4 sl5 sl6 sl7 sl8 sl9 sl10 sl11 sl12 sl13 sl14 sl15 sl16 sl17 sl18 sl19 sl20 sl21 sl22 sl23 sl24 : Array (Option Value)} {oc1 kV1 dc1 pm1 cd1 ct1 oc2 kV2 dc2 pm2 cd2 ct2 oc3 kV3 dc3 pm3 cd3 ct3 oc4 kV4 dc4 pm4 cd4 ct4 oc5 kV5 dc5 pm5 cd5 ct5 oc6 kV6 dc6 pm6 cd6 ct6 oc7 kV7 dc7 pm7 cd7 ct7 oc8 kV8 dc8 pm8 cd8 ct8 oc9 kV9 dc9 pm9 cd9 ct9 oc10 kV10 dc10 pm10 cd10 ct10 oc11 kV11 dc11 pm11 cd11 ct11 oc12 kV12 dc12 pm12 cd12 ct12 oc13 kV13 dc13 pm13 cd13 ct13 oc14 kV14 dc14 pm14 cd14 ct14 oc15 kV15 dc15 pm15 cd15 ct15 oc16 kV16 dc16 pm16 cd16 ct16 oc17 kV17 dc17 pm17 cd17 ct17 oc18 kV18 dc18 pm18 cd18 ct18 oc19 kV19 dc19 pm19 cd19 ct19 oc20 kV20 dc20 pm20 cd20 ct20 oc21 kV21 dc21 pm21 cd21 ct21 oc22 kV22 dc22 pm22 cd22 ct22 oc23 kV23 dc23 pm23 cd23 ct23 oc24 kV24 dc24 pm24 cd24 ct24 : Value}
    (aC : PySem.W.nsIn K mainGlobals "Knot" = some (some (.ref C)))
    (xL : K.lookup C = some (excClassObj nm q C N bs [.type "ValueError", .type "Exception", .type "BaseException", .type "object"] true sn sub ab col dd m0 m1 m2 m3 m5 "ValueError.__new__"))
    (sa : PySem.W.findIn K (.ref C) "__setattr__" = some (some (.builtin "object.__setattr__")))
    (ga : PySem.W.findIn K (.ref C) "__getattribute__" = some (some (.builtin "BaseException.__getattribute__")))
    (gg : PySem.W.findIn K (.ref C) "__getattr__" = some none)
    (nb : PySem.W.findIn K (.ref C) "circle" = some none)
    (a0 : PySem.W.findIn K (.ref C) "__init__" = some (some (.ref fI)))
    (t0 : PySem.W.typeIn K (.ref fI) = some (.type "function"))
    (l0 : K.lookup fI = some ⟨oc0, od0, .func (PySem.W.fnOf "__init__" "Knot.__init__" (PySem.LowX.iA ⟨8, 17, 8, 21⟩ ⟨8, 23, 8, 29⟩) (PySem.LowX.iB ⟨9, 8, 9, 12⟩ ⟨9, 8, 9, 19⟩ ⟨9, 22, 9, 28⟩ ⟨9, 8, 9, 28⟩) PySem.LowX.iS .none .none dc0 pm0 an0 cd0 ct0), sl0⟩)
    (c0 : PySem.W.codeIn K cd0 "Knot.__init__" = true)
    (kC : PySem.W.keepIn K (.ref C) = true)
    (eC : PySem.W.subIn K (.ref C) (.type "BaseException") = some true)
    (tC : PySem.W.typeIn K (.ref C) = some (.type "type"))
    (hC : PySem.W.hasDictIn K C = true)
    (iC : PySem.W.isClsIn K C = true)
    (sC : PySem.W.subIn K (.ref C) (.ref C) = some true)
    (gcl : PySem.W.findIn K (.ref C) "__class__" = some (some (.builtin "object.__class__")))
    (gge : PySem.W.specialIn K (.builtin "object.__class__") "__get__" = some (some (.builtin "getset_descriptor.__get__")))
    (gtk : PySem.W.takesIn K (.builtin "object.__class__") = some true)
    (gmr : PySem.W.mroIn K C (.type "object") = some true)
    (gki : PySem.W.kitOne K (.ref C) (.type "ValueError") = some true)
    (a1 : PySem.W.nsIn K mainGlobals "is_rising" = some (some (.ref f1)))
    (l1 : K.lookup f1 = some ⟨oc1, od1, .func (PySem.W.fnOf "is_rising" "is_rising" (defArgs sRising) (defBody sRising) (defScope sRising) .none kV1 dc1 pm1 an1 cd1 ct1), sl1⟩)
    (c1 : PySem.W.codeIn K cd1 "is_rising" = true)
    (k1 : PySem.W.keepIn K (.ref f1) = true)
    (a2 : PySem.W.nsIn K mainGlobals "is_web" = some (some (.ref f2)))
    (l2 : K.lookup f2 = some ⟨oc2, od2, .func (PySem.W.fnOf "is_web" "is_web" (defArgs sIsWeb) (defBody sIsWeb) (defScope sIsWeb) .none kV2 dc2 pm2 an2 cd2 ct2), sl2⟩)
    (c2 : PySem.W.codeIn K cd2 "is_web" = true)
    (k2 : PySem.W.keepIn K (.ref f2) = true)
    (a3 : PySem.W.nsIn K mainGlobals "is_pair" = some (some (.ref f3)))
    (l3 : K.lookup f3 = some ⟨oc3, od3, .func (PySem.W.fnOf "is_pair" "is_pair" (defArgs sIsPair) (defBody sIsPair) (defScope sIsPair) .none kV3 dc3 pm3 an3 cd3 ct3), sl3⟩)
    (c3 : PySem.W.codeIn K cd3 "is_pair" = true)
    (k3 : PySem.W.keepIn K (.ref f3) = true)
    (a4 : PySem.W.nsIn K mainGlobals "check_web" = some (some (.ref f4)))
    (l4 : K.lookup f4 = some ⟨oc4, od4, .func (PySem.W.fnOf "check_web" "check_web" (defArgs sCheckWeb) (defBody sCheckWeb) (defScope sCheckWeb) .none kV4 dc4 pm4 an4 cd4 ct4), sl4⟩)
    (c4 : PySem.W.codeIn K cd4 "check_web" = true)
    (k4 : PySem.W.keepIn K (.ref f4) = true)
    (a5 : PySem.W.nsIn K mainGlobals "closed" = some (some (.ref f5)))
    (l5 : K.lookup f5 = some ⟨oc5, od5, .func (PySem.W.fnOf "closed" "closed" (defArgs sClosed) (defBody sClosed) (defScope sClosed) .none kV5 dc5 pm5 an5 cd5 ct5), sl5⟩)
    (c5 : PySem.W.codeIn K cd5 "closed" = true)
    (k5 : PySem.W.keepIn K (.ref f5) = true)
    (a6 : PySem.W.nsIn K mainGlobals "knotted_hands" = some (some (.ref f6)))
    (l6 : K.lookup f6 = some ⟨oc6, od6, .func (PySem.W.fnOf "knotted_hands" "knotted_hands" (defArgs sKnotted) (defBody sKnotted) (defScope sKnotted) .none kV6 dc6 pm6 an6 cd6 ct6), sl6⟩)
    (c6 : PySem.W.codeIn K cd6 "knotted_hands" = true)
    (k6 : PySem.W.keepIn K (.ref f6) = true)
    (a7 : PySem.W.nsIn K mainGlobals "told_ahead" = some (some (.ref f7)))
    (l7 : K.lookup f7 = some ⟨oc7, od7, .func (PySem.W.fnOf "told_ahead" "told_ahead" (defArgs sAhead) (defBody sAhead) (defScope sAhead) .none kV7 dc7 pm7 an7 cd7 ct7), sl7⟩)
    (c7 : PySem.W.codeIn K cd7 "told_ahead" = true)
    (k7 : PySem.W.keepIn K (.ref f7) = true)
    (a8 : PySem.W.nsIn K mainGlobals "circle_of" = some (some (.ref f8)))
    (l8 : K.lookup f8 = some ⟨oc8, od8, .func (PySem.W.fnOf "circle_of" "circle_of" (defArgs sCircle) (defBody sCircle) (defScope sCircle) .none kV8 dc8 pm8 an8 cd8 ct8), sl8⟩)
    (c8 : PySem.W.codeIn K cd8 "circle_of" = true)
    (k8 : PySem.W.keepIn K (.ref f8) = true)
    (a9 : PySem.W.nsIn K mainGlobals "keeps" = some (some (.ref f9)))
    (l9 : K.lookup f9 = some ⟨oc9, od9, .func (PySem.W.fnOf "keeps" "keeps" (defArgs sKeeps) (defBody sKeeps) (defScope sKeeps) .none kV9 dc9 pm9 an9 cd9 ct9), sl9⟩)
    (c9 : PySem.W.codeIn K cd9 "keeps" = true)
    (k9 : PySem.W.keepIn K (.ref f9) = true)
    (a10 : PySem.W.nsIn K mainGlobals "_law_pen" = some (some (.ref f10)))
    (l10 : K.lookup f10 = some ⟨oc10, od10, .func (PySem.W.fnOf "_law_pen" "_law_pen" (defArgs sPen) (defBody sPen) (defScope sPen) .none kV10 dc10 pm10 an10 cd10 ct10), sl10⟩)
    (c10 : PySem.W.codeIn K cd10 "_law_pen" = true)
    (k10 : PySem.W.keepIn K (.ref f10) = true)
    (a11 : PySem.W.nsIn K mainGlobals "_law_draw" = some (some (.ref f11)))
    (l11 : K.lookup f11 = some ⟨oc11, od11, .func (PySem.W.fnOf "_law_draw" "_law_draw" (defArgs sDraw) (defBody sDraw) (defScope sDraw) .none kV11 dc11 pm11 an11 cd11 ct11), sl11⟩)
    (c11 : PySem.W.codeIn K cd11 "_law_draw" = true)
    (k11 : PySem.W.keepIn K (.ref f11) = true)
    (a12 : PySem.W.nsIn K mainGlobals "_law_pick" = some (some (.ref f12)))
    (l12 : K.lookup f12 = some ⟨oc12, od12, .func (PySem.W.fnOf "_law_pick" "_law_pick" (defArgs sPick) (defBody sPick) (defScope sPick) .none kV12 dc12 pm12 an12 cd12 ct12), sl12⟩)
    (c12 : PySem.W.codeIn K cd12 "_law_pick" = true)
    (k12 : PySem.W.keepIn K (.ref f12) = true)
    (a13 : PySem.W.nsIn K mainGlobals "_law_shuffled" = some (some (.ref f13)))
    (l13 : K.lookup f13 = some ⟨oc13, od13, .func (PySem.W.fnOf "_law_shuffled" "_law_shuffled" (defArgs sShuf) (defBody sShuf) (defScope sShuf) .none kV13 dc13 pm13 an13 cd13 ct13), sl13⟩)
    (c13 : PySem.W.codeIn K cd13 "_law_shuffled" = true)
    (k13 : PySem.W.keepIn K (.ref f13) = true)
    (a14 : PySem.W.nsIn K mainGlobals "_law_hands" = some (some (.ref f14)))
    (l14 : K.lookup f14 = some ⟨oc14, od14, .func (PySem.W.fnOf "_law_hands" "_law_hands" (defArgs sHands) (defBody sHands) (defScope sHands) .none kV14 dc14 pm14 an14 cd14 ct14), sl14⟩)
    (c14 : PySem.W.codeIn K cd14 "_law_hands" = true)
    (k14 : PySem.W.keepIn K (.ref f14) = true)
    (a15 : PySem.W.nsIn K mainGlobals "_law_nexts" = some (some (.ref f15)))
    (l15 : K.lookup f15 = some ⟨oc15, od15, .func (PySem.W.fnOf "_law_nexts" "_law_nexts" (defArgs sNexts) (defBody sNexts) (defScope sNexts) .none kV15 dc15 pm15 an15 cd15 ct15), sl15⟩)
    (c15 : PySem.W.codeIn K cd15 "_law_nexts" = true)
    (k15 : PySem.W.keepIn K (.ref f15) = true)
    (a16 : PySem.W.nsIn K mainGlobals "_law_row" = some (some (.ref f16)))
    (l16 : K.lookup f16 = some ⟨oc16, od16, .func (PySem.W.fnOf "_law_row" "_law_row" (defArgs sLawRow) (defBody sLawRow) (defScope sLawRow) .none kV16 dc16 pm16 an16 cd16 ct16), sl16⟩)
    (c16 : PySem.W.codeIn K cd16 "_law_row" = true)
    (k16 : PySem.W.keepIn K (.ref f16) = true)
    (a17 : PySem.W.nsIn K mainGlobals "_law_listed" = some (some (.ref f17)))
    (l17 : K.lookup f17 = some ⟨oc17, od17, .func (PySem.W.fnOf "_law_listed" "_law_listed" (defArgs sListed) (defBody sListed) (defScope sListed) .none kV17 dc17 pm17 an17 cd17 ct17), sl17⟩)
    (c17 : PySem.W.codeIn K cd17 "_law_listed" = true)
    (k17 : PySem.W.keepIn K (.ref f17) = true)
    (a18 : PySem.W.nsIn K mainGlobals "_law_pairs_of_row" = some (some (.ref f18)))
    (l18 : K.lookup f18 = some ⟨oc18, od18, .func (PySem.W.fnOf "_law_pairs_of_row" "_law_pairs_of_row" (defArgs sPairsRow) (defBody sPairsRow) (defScope sPairsRow) .none kV18 dc18 pm18 an18 cd18 ct18), sl18⟩)
    (c18 : PySem.W.codeIn K cd18 "_law_pairs_of_row" = true)
    (k18 : PySem.W.keepIn K (.ref f18) = true)
    (a19 : PySem.W.nsIn K mainGlobals "_law_told" = some (some (.ref f19)))
    (l19 : K.lookup f19 = some ⟨oc19, od19, .func (PySem.W.fnOf "_law_told" "_law_told" (defArgs sTold) (defBody sTold) (defScope sTold) .none kV19 dc19 pm19 an19 cd19 ct19), sl19⟩)
    (c19 : PySem.W.codeIn K cd19 "_law_told" = true)
    (k19 : PySem.W.keepIn K (.ref f19) = true)
    (a20 : PySem.W.nsIn K mainGlobals "_law_pairs" = some (some (.ref f20)))
    (l20 : K.lookup f20 = some ⟨oc20, od20, .func (PySem.W.fnOf "_law_pairs" "_law_pairs" (defArgs sPairs2) (defBody sPairs2) (defScope sPairs2) .none kV20 dc20 pm20 an20 cd20 ct20), sl20⟩)
    (c20 : PySem.W.codeIn K cd20 "_law_pairs" = true)
    (k20 : PySem.W.keepIn K (.ref f20) = true)
    (a21 : PySem.W.nsIn K mainGlobals "_law_laid" = some (some (.ref f21)))
    (l21 : K.lookup f21 = some ⟨oc21, od21, .func (PySem.W.fnOf "_law_laid" "_law_laid" (defArgs sLaid) (defBody sLaid) (defScope sLaid) .none kV21 dc21 pm21 an21 cd21 ct21), sl21⟩)
    (c21 : PySem.W.codeIn K cd21 "_law_laid" = true)
    (k21 : PySem.W.keepIn K (.ref f21) = true)
    (a22 : PySem.W.nsIn K mainGlobals "_law_led" = some (some (.ref f22)))
    (l22 : K.lookup f22 = some ⟨oc22, od22, .func (PySem.W.fnOf "_law_led" "_law_led" (defArgs sLed) (defBody sLed) (defScope sLed) .none kV22 dc22 pm22 an22 cd22 ct22), sl22⟩)
    (c22 : PySem.W.codeIn K cd22 "_law_led" = true)
    (k22 : PySem.W.keepIn K (.ref f22) = true)
    (a23 : PySem.W.nsIn K mainGlobals "_law_goes_round" = some (some (.ref f23)))
    (l23 : K.lookup f23 = some ⟨oc23, od23, .func (PySem.W.fnOf "_law_goes_round" "_law_goes_round" (defArgs sRound) (defBody sRound) (defScope sRound) .none kV23 dc23 pm23 an23 cd23 ct23), sl23⟩)
    (c23 : PySem.W.codeIn K cd23 "_law_goes_round" = true)
    (k23 : PySem.W.keepIn K (.ref f23) = true)
    (a24 : PySem.W.nsIn K mainGlobals "law" = some (some (.ref f24)))
    (l24 : K.lookup f24 = some ⟨oc24, od24, .func (PySem.W.fnOf "law" "law" (defArgs sLaw) (defBody sLaw) (defScope sLaw) .none kV24 dc24 pm24 an24 cd24 ct24), sl24⟩)
    (c24 : PySem.W.codeIn K cd24 "law" = true)
    (k24 : PySem.W.keepIn K (.ref f24) = true)
    (z_len : PySem.W.nsIn K mainGlobals "len" = some none)
    (z_abs : PySem.W.nsIn K mainGlobals "abs" = some none)
    (z_list : PySem.W.nsIn K mainGlobals "list" = some none)
    (z_isinstance : PySem.W.nsIn K mainGlobals "isinstance" = some none)
    (z_str : PySem.W.nsIn K mainGlobals "str" = some none)
    (z_tuple : PySem.W.nsIn K mainGlobals "tuple" = some none)
    (z_dict : PySem.W.nsIn K mainGlobals "dict" = some none)
    (z_all : PySem.W.nsIn K mainGlobals "all" = some none)
    (z_set : PySem.W.nsIn K mainGlobals "set" = some none)
    (z_enumerate : PySem.W.nsIn K mainGlobals "enumerate" = some none)
    (z_sorted : PySem.W.nsIn K mainGlobals "sorted" = some none)
    (z_range : PySem.W.nsIn K mainGlobals "range" = some none)
    (z_reversed : PySem.W.nsIn K mainGlobals "reversed" = some none)
    (z_ValueError : PySem.W.nsIn K mainGlobals "ValueError" = some none) :
    ∃ fd : FuncData, (∀ (s : Shared) (v : Value), BindsTo s fd ⟨[v], []⟩ [("script", v)]) ∧ ∀ base : Heap, K.In base → base.Ns mainGlobals mg → FnOk l.prog w K mg base CX0 5 fa fd ["script"] (spLaw K) := by
  have e := hfa.symm.trans (PySem.W.mg_of X G a24)
  cases e
  have T : PySem.LowX.LowTxt K mg C fI := { gC := PySem.W.mg_of X G aC, cls := ⟨nm, q, N, bs, _, sn, sub, ab, col, dd, m0, m1, m2, m3, m5, xL, by decide +kernel⟩, sa := sa, ga := ga, gg := gg, noN := nb, iC := a0, tC := t0, kC := kC, exC := eC, tyC := tC, hdC := hC, te := own_taken eC iC tC sC, fn := ⟨_, _, _, _, _, _, _, _, _, _, _, _, _, _, l0, c0⟩ }
  have EC : L2.ExcC K C := ⟨ga, gg, eC, hC, gcl, gge, gtk, gmr⟩
  have B1 : Blt mg := ⟨PySem.W.mg_none_of X G z_len, PySem.W.mg_none_of X G z_abs, PySem.W.mg_none_of X G z_list⟩
  have B2 : Blt2 mg := ⟨PySem.W.mg_none_of X G z_isinstance, PySem.W.mg_none_of X G z_str, PySem.W.mg_none_of X G z_list, PySem.W.mg_none_of X G z_tuple, PySem.W.mg_none_of X G z_dict, PySem.W.mg_none_of X G z_all, PySem.W.mg_none_of X G z_set, PySem.W.mg_none_of X G z_len, PySem.W.mg_none_of X G z_enumerate, PySem.W.mg_none_of X G z_sorted, PySem.W.mg_none_of X G z_range⟩
  have F1 := fun_mk (st := sRising) l1 c1 k1
  have b1 := F1.binds (ps := ["things"]) fun _ _ _ _ _ _ us hl => match us, hl with | [_], _ => rfl
  have F2 := fun_mk (st := sIsWeb) l2 c2 k2
  have b2 := F2.binds (ps := ["hands", "thing"]) fun _ _ _ _ _ _ us hl => match us, hl with | [_, _], _ => rfl
  have F3 := fun_mk (st := sIsPair) l3 c3 k3
  have b3 := F3.binds (ps := ["hands", "thing"]) fun _ _ _ _ _ _ us hl => match us, hl with | [_, _], _ => rfl
  have F4 := fun_mk (st := sCheckWeb) l4 c4 k4
  have b4 := F4.binds (ps := ["hands", "web"]) fun _ _ _ _ _ _ us hl => match us, hl with | [_, _], _ => rfl
  have F5 := fun_mk (st := sClosed) l5 c5 k5
  have b5 := F5.binds (ps := ["hands", "pairs"]) fun _ _ _ _ _ _ us hl => match us, hl with | [_, _], _ => rfl
  have F6 := fun_mk (st := sKnotted) l6 c6 k6
  have b6 := F6.binds (ps := ["hands", "pairs"]) fun _ _ _ _ _ _ us hl => match us, hl with | [_, _], _ => rfl
  have F7 := fun_mk (st := sAhead) l7 c7 k7
  have b7 := F7.binds (ps := ["hands", "pairs", "hand"]) fun _ _ _ _ _ _ us hl => match us, hl with | [_, _, _], _ => rfl
  have F8 := fun_mk (st := sCircle) l8 c8 k8
  have b8 := F8.binds (ps := ["knotted", "pairs"]) fun _ _ _ _ _ _ us hl => match us, hl with | [_, _], _ => rfl
  have F9 := fun_mk (st := sKeeps) l9 c9 k9
  have b9 := F9.binds (ps := ["web", "row"]) fun _ _ _ _ _ _ us hl => match us, hl with | [_, _], _ => rfl
  have F10 := fun_mk (st := sPen) l10 c10 k10
  have b10 := F10.binds (ps := ["script"]) fun _ _ _ _ _ _ us hl => match us, hl with | [_], _ => rfl
  have F11 := fun_mk (st := sDraw) l11 c11 k11
  have b11 := F11.binds (ps := ["pen", "many"]) fun _ _ _ _ _ _ us hl => match us, hl with | [_, _], _ => rfl
  have F12 := fun_mk (st := sPick) l12 c12 k12
  have b12 := F12.binds (ps := ["pen", "some"]) fun _ _ _ _ _ _ us hl => match us, hl with | [_, _], _ => rfl
  have F13 := fun_mk (st := sShuf) l13 c13 k13
  have b13 := F13.binds (ps := ["pen", "some"]) fun _ _ _ _ _ _ us hl => match us, hl with | [_, _], _ => rfl
  have F14 := fun_mk (st := sHands) l14 c14 k14
  have b14 := F14.binds (ps := ["pen", "many"]) fun _ _ _ _ _ _ us hl => match us, hl with | [_, _], _ => rfl
  have F15 := fun_mk (st := sNexts) l15 c15 k15
  have b15 := F15.binds (ps := ["hands", "web", "head"]) fun _ _ _ _ _ _ us hl => match us, hl with | [_, _, _], _ => rfl
  have F16 := fun_mk (st := sLawRow) l16 c16 k16
  have b16 := F16.binds (ps := ["pen", "hands"]) fun _ _ _ _ _ _ us hl => match us, hl with | [_, _], _ => rfl
  have F17 := fun_mk (st := sListed) l17 c17 k17
  have b17 := F17.binds (ps := ["pen", "hands"]) fun _ _ _ _ _ _ us hl => match us, hl with | [_, _], _ => rfl
  have F18 := fun_mk (st := sPairsRow) l18 c18 k18
  have b18 := F18.binds (ps := ["pen", "row"]) fun _ _ _ _ _ _ us hl => match us, hl with | [_, _], _ => rfl
  have F19 := fun_mk (st := sTold) l19 c19 k19
  have b19 := F19.binds (ps := ["folk", "pairs"]) fun _ _ _ _ _ _ us hl => match us, hl with | [_, _], _ => rfl
  have F20 := fun_mk (st := sPairs2) l20 c20 k20
  have b20 := F20.binds (ps := ["pen", "hands"]) fun _ _ _ _ _ _ us hl => match us, hl with | [_, _], _ => rfl
  have F21 := fun_mk (st := sLaid) l21 c21 k21
  have b21 := F21.binds (ps := ["hands", "pairs"]) fun _ _ _ _ _ _ us hl => match us, hl with | [_, _], _ => rfl
  have F22 := fun_mk (st := sLed) l22 c22 k22
  have b22 := F22.binds (ps := ["pairs", "first"]) fun _ _ _ _ _ _ us hl => match us, hl with | [_, _], _ => rfl
  have F23 := fun_mk (st := sRound) l23 c23 k23
  have b23 := F23.binds (ps := ["pairs", "told"]) fun _ _ _ _ _ _ us hl => match us, hl with | [_, _], _ => rfl
  have F24 := fun_mk (st := sLaw) l24 c24 k24
  have b24 := F24.binds (ps := ["script"]) fun _ _ _ _ _ _ us hl => match us, hl with | [_], _ => rfl
  refine ⟨PySem.W.fnOf "law" "law" (defArgs sLaw) (defBody sLaw) (defScope sLaw) .none kV24 dc24 pm24 an24 cd24 ct24, fun s v => .of_eq rfl, fun base _ _ => ?_⟩
  have dRis : Df l.prog w K mg base CX0 "is_rising" 1 f1 _ ["things"] spRising := ⟨ok_rising F1 B2, PySem.W.mg_of X G a1, k1, b1⟩
  have dPair : Df l.prog w K mg base CX0 "is_pair" 1 f3 _ ["hands", "thing"] spIsPair := ⟨ok_isPair F3 B2, PySem.W.mg_of X G a3, k3, b3⟩
  have dWeb : Df l.prog w K mg base CX0 "is_web" 2 f2 _ ["hands", "thing"] spIsWeb := ⟨ok_isWeb F2 B2 dPair dRis, PySem.W.mg_of X G a2, k2, b2⟩
  have dCW : Df l.prog w K mg base CX0 "check_web" 3 f4 _ ["hands", "web"] spCheckWeb := ⟨ok_checkWeb F4 dWeb, PySem.W.mg_of X G a4, k4, b4⟩
  have dKeeps : Df l.prog w K mg base CX0 "keeps" 4 f9 _ ["web", "row"] spKeeps := ⟨ok_keeps F9 B2 dCW, PySem.W.mg_of X G a9, k9, b9⟩
  have dAhead : Df l.prog w K mg base CX0 "told_ahead" 1 f7 _ ["hands", "pairs", "hand"] spAhead := ⟨ok_ahead F7, PySem.W.mg_of X G a7, k7, b7⟩
  have dKn : Df l.prog w K mg base CX0 "knotted_hands" 2 f6 _ ["hands", "pairs"] spKnotted := ⟨ok_knotted F6 B2 dAhead, PySem.W.mg_of X G a6, k6, b6⟩
  have dCi : Df l.prog w K mg base CX0 "circle_of" 2 f8 _ ["knotted", "pairs"] spCircle := ⟨ok_circle F8 B2 (PySem.W.mg_none_of X G z_reversed) dAhead, PySem.W.mg_of X G a8, k8, b8⟩
  have dCl : Df l.prog w K mg base (L2.CX l.prog w) "closed" 3 f5 _ ["hands", "pairs"] (spClosed C) := ⟨ok_closed F5 B2 T dKn dCi, PySem.W.mg_of X G a5, k5, b5⟩
  have dPen : Df l.prog w K mg base CX0 "_law_pen" 1 f10 _ ["script"] (spPen K) := ⟨ok_pen F10 B2, PySem.W.mg_of X G a10, k10, b10⟩
  have dDraw : Df l.prog w K mg base CX0 "_law_draw" 1 f11 _ ["pen", "many"] spDraw := ⟨ok_draw F11 B1, PySem.W.mg_of X G a11, k11, b11⟩
  have dPick : Df l.prog w K mg base CX0 "_law_pick" 2 f12 _ ["pen", "some"] (spPick K) := ⟨ok_pick F12 B1 dDraw, PySem.W.mg_of X G a12, k12, b12⟩
  have dShuf : Df l.prog w K mg base CX0 "_law_shuffled" 2 f13 _ ["pen", "some"] (spShuf K) := ⟨ok_shuf F13 B1 dDraw, PySem.W.mg_of X G a13, k13, b13⟩
  have dHands : Df l.prog w K mg base CX0 "_law_hands" 3 f14 _ ["pen", "many"] (spHands K) := ⟨ok_hands F14 B1 B2.range dDraw dPick, PySem.W.mg_of X G a14, k14, b14⟩
  have dRow : Df l.prog w K mg base CX0 "_law_row" 3 f16 _ ["pen", "hands"] spLawRow := ⟨ok_lawRow F16 B2 dShuf, PySem.W.mg_of X G a16, k16, b16⟩
  have dList : Df l.prog w K mg base CX0 "_law_listed" 3 f17 _ ["pen", "hands"] spListed := ⟨ok_listed F17 B2 dDraw dShuf, PySem.W.mg_of X G a17, k17, b17⟩
  have dPR : Df l.prog w K mg base CX0 "_law_pairs_of_row" 3 f18 _ ["pen", "row"] spPairsRow := ⟨ok_pairsRow F18 B2 dDraw dPick, PySem.W.mg_of X G a18, k18, b18⟩
  have dP2 : Df l.prog w K mg base CX0 "_law_pairs" 4 f20 _ ["pen", "hands"] spPairs2 := ⟨ok_pairs2 F20 B2 dDraw dPick dRow dPR, PySem.W.mg_of X G a20, k20, b20⟩
  have dTold : Df l.prog w K mg base CX0 "_law_told" 4 f19 _ ["folk", "pairs"] spTold := ⟨ok_told F19 B2 (PySem.W.mg_none_of X G z_ValueError) T EC gki dCl, PySem.W.mg_of X G a19, k19, b19⟩
  have dNx : Df l.prog w K mg base CX0 "_law_nexts" 1 f15 _ ["hands", "web", "head"] spNexts := ⟨ok_nexts F15 B2, PySem.W.mg_of X G a15, k15, b15⟩
  have dLaid : Df l.prog w K mg base CX0 "_law_laid" 2 f21 _ ["hands", "pairs"] spLaid := ⟨ok_laid F21 B2 dNx, PySem.W.mg_of X G a21, k21, b21⟩
  have dLed : Df l.prog w K mg base CX0 "_law_led" 1 f22 _ ["pairs", "first"] spLed := ⟨ok_led F22 B2, PySem.W.mg_of X G a22, k22, b22⟩
  have dRnd : Df l.prog w K mg base CX0 "_law_goes_round" 1 f23 _ ["pairs", "told"] spRound := ⟨ok_round F23 B2, PySem.W.mg_of X G a23, k23, b23⟩
  exact ok_law F24 B2 ⟨dPen, dDraw, dHands, dP2, dList, dTold, dRnd, dLaid, dLed, dKeeps⟩
theorem walk {l : PySem.W.OpenLaw} {q : Program} {loose : List Str} {XP : (Str → Option Value) → Heap → Prop} {YP : World → Heap → Prop} {d : DefRec} {K : Params → PySem.W.Frag} (hn : l.most = some 63) (hdf : d.params.defaults = [])
    (hY : ∀ (w : World) (h : Heap), YP w h → (K w.params).In h)
    (F : ∀ (w : World) (mg : Str → Option Value) (fa : Addr) (h : Heap), (K w.params).In h → h.Ns mainGlobals mg → mg d.name = some (.ref fa) →
      ∃ fd : FuncData, (∀ (s : Shared) (u : Value), BindsTo s fd ⟨[u], []⟩ [("script", u)]) ∧ ∀ base : Heap, (K w.params).In base → base.Ns mainGlobals mg → FnOk l.prog w (K w.params) mg base CX0 5 fa fd ["script"] (spLaw (K w.params))) :
    PySem.W.WalkO q loose XP YP l.row.toRowW d [] (fun f vs => PySem.call f vs) :=
  L2.walk_of (n := 63) (k := 5) (x := "script") (CX := fun _ => CX0) (sp := fun w => spLaw (K w.params)) hn (by decide) hdf ⟨rfl, by decide, by decide⟩ hY F (fun _ _ a ns hl _ hS => ⟨a, ns, rfl, hS, hl, fun _ => rfl⟩) fun _ _ _ _ _ z => z
end Ah
open PySem PySem.W PyProof.Rows in
set_option maxRecDepth 100000 in
set_option maxHeartbeats 0 in
theorem PySem.Challenge.cw_aheadbook_k33_whole_a_web_or_a_knot_holds : PySem.Challenge.rw_aheadbook_k33_whole_a_web_or_a_knot.Holds := by
  w_on; o_law; k_head; (case hw => w_witness2)
  k_fill
  refine Ah.walk (l := PySem.Challenge.rw_aheadbook_k33_whole_a_web_or_a_knot) rfl rfl (fun w h Y => PySem.W.kIn_of Y) ?F
  case F =>
    intro w mg fa h KX G hmg
    refine' Ah.all_mk KX G hmg ?aC ?xL ?sa ?ga ?gg ?nb ?a0 ?t0 ?l0 ?c0 ?kC ?eC ?tC ?hC ?iC ?sC ?gcl ?gge ?gtk ?gmr ?gki ?a1 ?l1 ?c1 ?k1 ?a2 ?l2 ?c2 ?k2 ?a3 ?l3 ?c3 ?k3 ?a4 ?l4 ?c4 ?k4 ?a5 ?l5 ?c5 ?k5 ?a6 ?l6 ?c6 ?k6 ?a7 ?l7 ?c7 ?k7 ?a8 ?l8 ?c8 ?k8 ?a9 ?l9 ?c9 ?k9 ?a10 ?l10 ?c10 ?k10 ?a11 ?l11 ?c11 ?k11 ?a12 ?l12 ?c12 ?k12 ?a13 ?l13 ?c13 ?k13 ?a14 ?l14 ?c14 ?k14 ?a15 ?l15 ?c15 ?k15 ?a16 ?l16 ?c16 ?k16 ?a17 ?l17 ?c17 ?k17 ?a18 ?l18 ?c18 ?k18 ?a19 ?l19 ?c19 ?k19 ?a20 ?l20 ?c20 ?k20 ?a21 ?l21 ?c21 ?k21 ?a22 ?l22 ?c22 ?k22 ?a23 ?l23 ?c23 ?k23 ?a24 ?l24 ?c24 ?k24 ?z_len ?z_abs ?z_list ?z_isinstance ?z_str ?z_tuple ?z_dict ?z_all ?z_set ?z_enumerate ?z_sorted ?z_range ?z_reversed ?z_ValueError
    (case aC => k_is)
    (case xL => k_is)
    (case sa => k_is)
    (case ga => k_is)
    (case gg => k_is)
    (case nb => k_is)
    (case a0 => k_is)
    (case t0 => k_is)
    (case l0 => k_is)
    (case c0 => k_is)
    (case kC => k_is)
    (case eC => k_is)
    (case tC => k_is)
    (case hC => k_is)
    (case iC => k_is)
    (case sC => first | rfl | k_is)
    (case gcl => k_is)
    (case gge => k_is)
    (case gtk => k_is)
    (case gmr => first | rfl | k_is)
    (case gki => first | rfl | k_is)
    (case a1 => k_is)
    (case l1 => k_is)
    (case c1 => k_is)
    (case k1 => k_is)
    (case a2 => k_is)
    (case l2 => k_is)
    (case c2 => k_is)
    (case k2 => k_is)
    (case a3 => k_is)
    (case l3 => k_is)
    (case c3 => k_is)
    (case k3 => k_is)
    (case a4 => k_is)
    (case l4 => k_is)
    (case c4 => k_is)
    (case k4 => k_is)
    (case a5 => k_is)
    (case l5 => k_is)
    (case c5 => k_is)
    (case k5 => k_is)
    (case a6 => k_is)
    (case l6 => k_is)
    (case c6 => k_is)
    (case k6 => k_is)
    (case a7 => k_is)
    (case l7 => k_is)
    (case c7 => k_is)
    (case k7 => k_is)
    (case a8 => k_is)
    (case l8 => k_is)
    (case c8 => k_is)
    (case k8 => k_is)
    (case a9 => k_is)
    (case l9 => k_is)
    (case c9 => k_is)
    (case k9 => k_is)
    (case a10 => k_is)
    (case l10 => k_is)
    (case c10 => k_is)
    (case k10 => k_is)
    (case a11 => k_is)
    (case l11 => k_is)
    (case c11 => k_is)
    (case k11 => k_is)
    (case a12 => k_is)
    (case l12 => k_is)
    (case c12 => k_is)
    (case k12 => k_is)
    (case a13 => k_is)
    (case l13 => k_is)
    (case c13 => k_is)
    (case k13 => k_is)
    (case a14 => k_is)
    (case l14 => k_is)
    (case c14 => k_is)
    (case k14 => k_is)
    (case a15 => k_is)
    (case l15 => k_is)
    (case c15 => k_is)
    (case k15 => k_is)
    (case a16 => k_is)
    (case l16 => k_is)
    (case c16 => k_is)
    (case k16 => k_is)
    (case a17 => k_is)
    (case l17 => k_is)
    (case c17 => k_is)
    (case k17 => k_is)
    (case a18 => k_is)
    (case l18 => k_is)
    (case c18 => k_is)
    (case k18 => k_is)
    (case a19 => k_is)
    (case l19 => k_is)
    (case c19 => k_is)
    (case k19 => k_is)
    (case a20 => k_is)
    (case l20 => k_is)
    (case c20 => k_is)
    (case k20 => k_is)
    (case a21 => k_is)
    (case l21 => k_is)
    (case c21 => k_is)
    (case k21 => k_is)
    (case a22 => k_is)
    (case l22 => k_is)
    (case c22 => k_is)
    (case k22 => k_is)
    (case a23 => k_is)
    (case l23 => k_is)
    (case c23 => k_is)
    (case k23 => k_is)
    (case a24 => k_is)
    (case l24 => k_is)
    (case c24 => k_is)
    (case k24 => k_is)
    (case z_len => k_is)
    (case z_abs => k_is)
    (case z_list => k_is)
    (case z_isinstance => k_is)
    (case z_str => k_is)
    (case z_tuple => k_is)
    (case z_dict => k_is)
    (case z_all => k_is)
    (case z_set => k_is)
    (case z_enumerate => k_is)
    (case z_sorted => k_is)
    (case z_range => k_is)
    (case z_reversed => k_is)
    (case z_ValueError => k_is)
