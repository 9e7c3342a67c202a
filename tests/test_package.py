"""The interface at the end of the document, and the rules of the language that a walk over the trees can see."""

import ast
import builtins
import importlib
import inspect
import os
import unittest

import askorhold

FOLDER = os.path.dirname(os.path.abspath(askorhold.__file__))
# The modules in the order in which they stand in the document, with what they define and the arguments.
INTERFACE = {
    "errors": "AskError Cannot(deed) Contrary(call) Endless(call) NoCommand(line) NoFunction(name) NoTree(place) Nothing "
              "NothingToAsk TooMany(most) Wrong(place)",
    "forms": "is_integer(thing) is_name(thing) is_lot(thing) is_value(thing) is_fault(thing) is_result(thing) "
             "is_call(thing) is_notes(thing) are_alike(one,other) are_alike_calls(one,other) weight(result) "
             "digits_of(number) result_in(notes,call)",
    "trees": "is_expression(thing) is_function(thing) is_program(thing) depth_of(expression) lets_deep(expression) "
             "free_names(expression) names_called(expression) changed_names(program,other) function_of(program,name) "
             "with_function(program,function) without_function(program,name)",
    "shower": "show_expression(expression) show_function(function) show_program(program)",
    "reader": "read_program(text) read_function(text)",
    "bodies": "worked_out(program,call,notes) evaluated(expression,names,notes)",
    "runs": "run(program,call,most) result_of(program,call,most) nested_result(program,call,most)",
    "webs": "is_web(thing) is_known(web,thing) below(web,u) above(web,v) open_below(web,known,u) with_known(known,lot) "
            "shadow(web,known,u)",
    "books": "book_of(program,call,most) is_entry(program,notes,thing) is_book(program,thing) notes_of(book) "
             "index_of(book,call) taken_by(program,book,index) part_of(book,index) web_of(program,book)",
    "booktexts": "show_result(result) show_call(call) show_book(book) read_result(text) read_call(text) read_book(text)",
    "meanings": "right_result(meaning,call,most) wrong_in(book,meaning,most) right_notes(meaning,calls,most) "
                "first_unlike(program,meaning,calls,most)",
    "blame": "to_blame(book,wrong) blame_below(book,wrong,index) is_to_blame(program,meaning,call,most) "
             "is_blame_shown(program,meaning,book,most) wanted(program,meaning,call,most) mended(program,meaning,name)",
    "plans": "is_plan(web,known,w,thing) price_of(web,plan) followed(plan,wrong) pruned(plan,lot) plain_plan(web,known,w)",
    "least": "least_price(web,known,w) least_plan(web,known,w) price_table(web,known,w) is_table(web,known,w,thing)",
    "answerers": "answerer(web,known,w,k) is_answerer(web,known,w,k,thing) asked_of(web,known,w,k,table,asked)",
    "deeds": "size_of(web,held) is_deed(web,thing) is_ready(web,known,held,v) may_do(web,known,held,deed) "
             "fits(web,known,k,held,deed) behind(held,deed) comes(web,known,k,held,w) done(web,known,k,deeds) "
             "room_needed(web,known,deeds,w) backward(deeds)",
    "rooms": "least_room(web,known,w) fewest_deeds(web,known,w,k) closed_lot(web,known,w,k) "
             "is_closed_lot(web,known,w,k,thing)",
    "stairs": "staircase(web,known,w) distances(web,known,w,k) are_distances(web,known,w,k,many,thing)",
    "turning": "deeds_of(web,known,w,plan) put_deeds(web,known,w,plan)",
    "orders": "is_order(web,known,k,held,thing) order_behind(web,known,k,order,deed) order_known(order,lot) "
              "order_thrown(order,lot) order_renamed(order,names) plan_from(web,order,w) plan_of_deeds(web,known,k,deeds,w) "
              "led(web,known,k,deeds)",
    "ranks": "is_tree(web) is_ranks(web,thing) least_ranks(web) ranks_of_plan(web,plan) least_rank(web) "
             "plan_of_ranks(web,ranks)",
    "skeletons": "is_skeleton(thing) skeleton_of(program,book) web_in(skeleton) index_in(skeleton,call) "
                 "staying(program,skeleton,other,later)",
    "holder": "Holder(program,skeleton,room)",
    "facts": "fact_of(facts,call,result) with_fact(facts,call,result,is_right) known_right(facts,book) known_wrong(facts,book)",
    "session": "Session(program)",
    "desk": "Desk(text)",
}
# What the document lists for each class: these stand in its own body.
METHODS = {
    "Holder": "program() skeleton() held() known() order() tape() room() size() show(index) wish(index) plan(index) way_to(index) "
              "do(deed) know(index) rewind(many) edit(program,skeleton) twin()",
    "Session": "program() facts() book() run(name,values) edit(function) undo() answer(is_right) seek(index) question() blamed() "
               "spent() left()",
    "Desk": "execute(line) session() holder()",
}
# What LANGUAGE.md lets in from outside, here.
LIBRARY = {"heapq": ["heappop", "heappush"]}
ALLOWED = set(
    "len range enumerate zip min max sum abs sorted reversed int str bool bytes list tuple dict set frozenset isinstance "
    "ord repr any all divmod type True False None ValueError".split()
)


def source_of(name):
    with open(os.path.join(FOLDER, name + ".py"), encoding="ascii") as file:
        return file.read()


def tree_of(name):
    return ast.parse(source_of(name))


def arguments_of(thing):
    if isinstance(thing, type) and "__init__" not in vars(thing):
        return []
    function = thing.__init__ if isinstance(thing, type) else thing
    return [name for name in inspect.signature(function).parameters if name != "self"]


class InterfaceTest(unittest.TestCase):
    def check(self, owner, body, listed):
        """Check that each name that is listed is defined in a body, with its arguments."""
        defined = [node.name for node in body if isinstance(node, (ast.FunctionDef, ast.ClassDef))]
        for entry in listed.split():
            word, _, rest = entry.partition("(")
            with self.subTest(owner=owner, word=word):
                self.assertIn(word, defined)
                wanted = [argument for argument in rest.rstrip(")").split(",") if argument]
                self.assertEqual(arguments_of(getattr(owner, word)), wanted)

    def test_each_name_is_defined_in_its_file_with_its_arguments(self):
        for name, listed in INTERFACE.items():
            self.check(importlib.import_module("askorhold." + name), tree_of(name).body, listed)

    def test_each_method_stands_in_its_class_with_its_arguments(self):
        for word, listed in METHODS.items():
            name = word.lower()
            owner = getattr(importlib.import_module("askorhold." + name), word)
            body = [node.body for node in tree_of(name).body if isinstance(node, ast.ClassDef) and node.name == word][0]
            self.check(owner, body, listed)

    def test_the_folder_holds_just_the_modules(self):
        files = sorted(name for name in os.listdir(FOLDER) if name != "__pycache__")
        self.assertEqual(files, sorted(["__init__.py"] + [name + ".py" for name in INTERFACE]))
        self.assertEqual(source_of("__init__"), "")


class LanguageTest(unittest.TestCase):
    def test_no_name_of_a_class_is_both_a_method_and_an_attribute(self):
        for name in INTERFACE:
            for node in tree_of(name).body:
                if isinstance(node, ast.ClassDef):
                    methods = [part.name for part in node.body if isinstance(part, ast.FunctionDef)]
                    self.assertEqual(len(set(methods)), len(methods))
                    for part in ast.walk(node):
                        if isinstance(part, ast.Attribute) and isinstance(part.ctx, ast.Store):
                            self.assertNotIn(part.attr, methods, (name, node.name))

    def test_sizes_and_signs(self):
        for name in INTERFACE:
            text = source_of(name)
            self.assertLessEqual(len(text.splitlines()), 399, name)
            for line in text.split("\n"):
                self.assertLessEqual(len(line), 120, line)
                self.assertTrue(all(" " <= sign <= "~" for sign in line), line)
            for node in ast.walk(tree_of(name)):
                if isinstance(node, ast.FunctionDef):
                    self.assertLessEqual(node.end_lineno - node.lineno + 1, 40, node.name)
                    self.assertEqual(node.decorator_list, [])

    def test_imports_come_from_modules_above_and_from_the_file_that_defines(self):
        above = []
        for name in INTERFACE:
            for node in ast.walk(tree_of(name)):
                self.assertNotIsInstance(node, ast.Import)
                if isinstance(node, ast.ImportFrom):
                    if node.module in LIBRARY:
                        bound = LIBRARY[node.module]
                    else:
                        self.assertIn(node.module, ["askorhold." + other for other in above])
                        bound = bound_in(tree_of(node.module.split(".")[1]))
                    for alias in node.names:
                        self.assertIsNone(alias.asname)
                        self.assertIn(alias.name, bound)
            above.append(name)

    def test_builtins(self):
        # The examples of the document, run in the same process, leave `_` there.
        known = set(vars(builtins)) - {"_"}
        for name in INTERFACE:
            for node in ast.walk(tree_of(name)):
                if isinstance(node, ast.Name) and node.id in known:
                    self.assertIn(node.id, ALLOWED, name)
                    self.assertIsInstance(node.ctx, ast.Load, name)
                if isinstance(node, (ast.FunctionDef, ast.ClassDef)):
                    self.assertNotIn(node.name, known, name)
                if isinstance(node, ast.arg):
                    self.assertNotIn(node.arg, known, name)
                self.assertNotIsInstance(node, (ast.Global, ast.Nonlocal, ast.AsyncFunctionDef, ast.Div, ast.GeneratorExp))
                if isinstance(node, ast.Constant):
                    self.assertNotIsInstance(node.value, float)

    def test_no_local_name_is_that_of_an_import_or_of_what_the_file_defines(self):
        for name in INTERFACE:
            tree = tree_of(name)
            taken = set(bound_in(tree)) | {
                alias.name for node in tree.body if isinstance(node, ast.ImportFrom) for alias in node.names
            }
            for function in [node for node in ast.walk(tree) if isinstance(node, ast.FunctionDef)]:
                for node in ast.walk(function):
                    if isinstance(node, ast.arg):
                        self.assertNotIn(node.arg, taken, (name, function.name))
                    if isinstance(node, ast.Name) and isinstance(node.ctx, ast.Store):
                        self.assertNotIn(node.id, taken, (name, function.name))


def bound_in(tree):
    names = []
    for node in tree.body:
        if isinstance(node, (ast.FunctionDef, ast.ClassDef)):
            names.append(node.name)
        if isinstance(node, ast.Assign):
            names.extend(target.id for target in node.targets)
    return names
