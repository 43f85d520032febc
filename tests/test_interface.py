"""The interface of the document: names, parameters, and the files in which they are defined."""

import importlib
import inspect
import unittest

FUNCTIONS = {
    "basics": ["is_integer(value)", "is_count(value)"],
    "words": [
        "is_word(value)", "is_address(value)", "is_place(value)", "is_register(value)", "plus(one, other)",
        "minus(one, other)", "times(one, other)", "over(one, other)", "both(one, other)", "either(one, other)",
        "unlike(one, other)", "bits(word, low, many)", "shifted_up(one, many)", "shifted_down(one, many)",
        "signed(word)", "with_bits(word, low, many, value)",
    ],
    "instructions": [
        "operations()", "is_instruction(value)", "encoded(instruction)", "decoded(word)", "reads_of(instruction)",
        "writes_of(instruction)", "sort_of(instruction)", "worth_of(name, one, other)",
    ],
    "listing": ["text_of(instruction)", "instruction_of(text)"],
    "lexing": ["is_label(value)", "number_in(text)", "parted(text)"],
    "images": ["image_text(image)", "image_of(text)", "loaded(image)"],
    "assembler": ["first_bad(text)", "assembled(text)", "names_of(text)", "listed(image)"],
    "memory": ["memory_of(parts)"],
    "pages": [
        "page_entry(frame, flags)", "entry_parts(word)", "by_entry(word, address, way, is_user)",
        "translated(memory, root, address, way, is_user)", "straight(address, way)",
        "laid(memory, root, tables, rows)", "mappings(memory, root)", "pages_of(memory, root, frame)",
        "leaning(memory, root, place)",
    ],
    "controls": [
        "fresh_controls()", "is_supervisor(controls)", "is_on(controls)", "is_paged(controls)",
        "entry_address(controls)", "home_address(controls)", "root_frame(controls)", "line_mask(controls)",
        "trapped(controls, cause, home, bad)", "returned(controls)",
    ],
    "states": ["snapshot(state)"],
    "plain": ["step(state)", "steps(state, many, raised)"],
    "walker": ["asked(buffer, hierarchy, whims, settings, controls, address, way)"],
    "cycles": ["cycle(core)", "run(core, cycles, steps)"],
    "meanings": [
        "is_row(value)", "meaning(core)", "follows(core, state)", "first_unlike(rows, others)", "leftovers(core)",
    ],
    "bounds": [
        "read_cycles(settings)", "fetch_cycles(settings)", "work_cycles(settings)", "most_cycles(settings)",
        "goes_on(core)",
    ],
    "soundness": ["rules()", "broken_rules(core)", "is_sound(core)"],
    "points": ["is_point(value)", "meets(point, row)", "first_met(points, rows)"],
    "texts": ["sorts()", "is_of_sort(sort, value)", "written(sort, value)", "read(text)"],
    "traces": ["traced(row)", "trace(rows)"],
    "commands": ["is_command(value)", "answer(debugger, command)", "tried(debugger, commands)"],
}

# Of each class its constructor, its methods, its properties, and whether it has `==`.
CLASSES = {
    "whims": [("Whims(numbers)", ["take(many)", "copy()"], ["taken"], False)],
    "settings": [("Settings(values)", ["value(name)", "told()"], [], True)],
    "images": [("Image(parts)", ["parts()", "word(place)"], ["size"], True)],
    "memory": [("Memory()", ["word(place)", "put(place, word)", "rows()", "copy()"], [], True)],
    "devices": [(
        "Devices(inputs)",
        ["can(place)", "read(place)", "write(place, word)", "raised(line)", "counted()", "due(mask)", "lowered(line)",
         "outputs()", "left()", "told()", "copy()"],
        ["steps"],
        True,
    )],
    "states": [(
        "State(memory, inputs)",
        ["registers()", "controls()", "memory()", "devices()", "copy()"],
        ["address", "halted", "steps"],
        True,
    )],
    "caches": [(
        "Cache(line, sets, ways)",
        ["has(place)", "word(place)", "used(place)", "enter(place, words)", "put(place, word, is_written)",
         "out(place)", "out_at(number)", "lines()", "cleaned()", "copy()"],
        [],
        True,
    )],
    "hierarchy": [(
        "Hierarchy(settings, memory, whims)",
        ["fetched(place)", "read(place)", "written(place, word)", "seen(place)", "below(place)", "cleaned()",
         "lines()", "copy()"],
        [],
        False,
    )],
    "buffers": [(
        "Buffer(many)",
        ["rows()", "found(page)", "entered(page, first, second, word)", "stored(place)", "out(position)",
         "cleared()", "copy()"],
        ["most"],
        True,
    )],
    "predictors": [(
        "Predictor(settings, whims)",
        ["expected(address, word)", "learned(address, word, behind)", "told()", "copy(whims)"],
        [],
        False,
    )],
    "fetches": [(
        "Fetcher(settings, whims)",
        ["cycle(predictor, buffer, hierarchy, controls)", "rows()", "held_row()", "pulled()", "leans_on(place)",
         "redirected(address)", "copy(whims)"],
        ["address", "stopped"],
        False,
    )],
    "renames": [(
        "Renamer(many)",
        ["place_of(which)", "lent(which)", "put(at, value)", "is_ready(at)", "value(at)", "undone(which, new, old)",
         "kept(which, new, old)", "written(which, value)", "kept_words()", "writes()", "lendings()", "free()",
         "told()", "copy()"],
        ["can_lend"],
        True,
    )],
    "orders": [(
        "Orders(many)",
        ["numbers()", "oldest()", "entered(thing)", "thing(number)", "is_done(number)", "done(number)", "left()",
         "dropped(number)", "copy()"],
        ["many", "held", "upcoming"],
        True,
    )],
    "stations": [(
        "Stations(many)",
        ["put(number, reads, ready)", "woken(at)", "ready()", "waits_for(number)", "reads(number)", "picked(number)",
         "chosen(oldest, whims, twist)", "numbers()", "dropped(number)", "copy()"],
        ["many", "held"],
        True,
    )],
    "units": [(
        "Units()",
        ["begun(number, cycles, told)", "aged()", "finished()", "numbers()", "cycles_left(number)", "dropped(number)",
         "copy()"],
        ["held"],
        True,
    )],
    "queues": [(
        "Queues(loads, stores)",
        ["load_entered(number)", "store_entered(number)", "known(number, place, word)", "source(number, place)",
         "read(number, place, source)", "leave(number)", "dropped(number)", "loads()", "stores()", "copy()"],
        ["can_load", "can_store"],
        True,
    )],
    "core": [(
        "Core(settings, whims, memory, inputs, raises)",
        ["registers()", "controls()", "memory()", "devices()", "rows()", "raised()", "waits()", "in_flight()",
         "copy()"],
        ["clock", "steps", "home", "halted"],
        False,
    )],
    "debugger": [(
        "Debugger(settings, whims, memory, inputs, raises)",
        ["rows()", "core()", "beside()", "set_point(label, point)", "drop_point(label)", "points()", "mark(label)",
         "back(label)", "marks()", "cycle()", "step()", "run(cycles)", "run_to(steps)", "copy()"],
        ["clock", "steps", "home", "halted", "agrees"],
        False,
    )],
}


def written(name, function, leave_out=0):
    """A function's name and its parameters, written as in the tables above."""
    return f"{name}({', '.join(list(inspect.signature(function).parameters)[leave_out:])})"


class Interface(unittest.TestCase):
    def test_functions_are_defined_in_their_files(self):
        for file, functions in FUNCTIONS.items():
            module = importlib.import_module(f"orderlycore.{file}")
            for told in functions:
                with self.subTest(file=file, function=told):
                    name = told.split("(")[0]
                    function = vars(module)[name]
                    self.assertTrue(inspect.isfunction(function))
                    self.assertEqual(function.__module__, f"orderlycore.{file}")
                    self.assertEqual(written(name, function), told)

    def test_classes_are_defined_in_their_files(self):
        for file, classes in CLASSES.items():
            module = importlib.import_module(f"orderlycore.{file}")
            for told, methods, properties, compares in classes:
                with self.subTest(file=file, told=told):
                    name = told.split("(")[0]
                    one = vars(module)[name]
                    self.assertTrue(inspect.isclass(one))
                    self.assertEqual(one.__module__, f"orderlycore.{file}")
                    self.assertEqual(written(name, one), told)
                    self.methods_stand_in(one, methods)
                    for asked in properties:
                        self.assertIsInstance(vars(one)[asked], property)
                    self.assertEqual("__eq__" in vars(one), compares)

    def methods_stand_in(self, one, methods):
        """Each method is defined in the class itself."""
        for told in methods:
            name = told.split("(")[0]
            function = vars(one)[name]
            self.assertTrue(inspect.isfunction(function))
            self.assertEqual(written(name, function, 1), told)


if __name__ == "__main__":
    unittest.main()
