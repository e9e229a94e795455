"""The interface: what is defined where, and with which parameters."""

import inspect
import unittest
from importlib import import_module

FUNCTIONS = {
    'kinds': {name: ['thing'] for name in (
        'is_integer', 'is_number', 'is_name', 'is_houses', 'is_wire', 'is_given',
    )},
    'netchecker': {'lets_net': ['thing']},
    'netparts': {
        'into_of': ['net', 'houses'], 'out_of': ['net', 'houses'], 'between': ['net', 'source', 'target'],
    },
    'holderchecker': {'lets_holders': ['net', 'thing']},
    'givingchecker': {'lets_giving': ['net', 'holders', 'thing']},
    'netchanges': {
        'with_wire': ['net', 'source', 'target'], 'without_wire': ['net', 'wire'], 'with_house': ['net', 'name'],
        'laid': ['net', 'holders', 'piece', 'house'], 'renamed': ['net', '*pairs'],
        'renamed_holders': ['net', 'holders', '*pairs'],
    },
    'nettexts': {'net_text': ['net'], 'holders_words': ['holders'], 'giving_words': ['giving']},
    'netreadings': {'net_read': ['text'], 'holders_read': ['text'], 'giving_read': ['text']},
    'comings': {name: ['net', 'holders', 'giving'] for name in ('having', 'lacking', 'serves', 'idle_wires')},
    'gives': {
        'can_give': ['net', 'holders', 'giving', 'wire', 'piece'],
        'after_give': ['net', 'holders', 'giving', 'wire', 'piece'],
        'next_givings': ['net', 'holders', 'giving'],
        'after_gives': ['net', 'holders', 'giving', 'pairs'],
    },
    'thinning': {
        'thinned': ['net', 'holders', 'giving'], 'road_of': ['net', 'holders', 'giving', 'house', 'piece'],
    },
    'slacks': {name: ['net', 'holders', 'giving', 'houses'] for name in (
        'into_count', 'lacked', 'slack', 'is_short', 'is_tight',
    )},
    'alone': {name: ['net', 'holders', 'giving', 'house'] for name in ('alone_number', 'alone_ways')},
    'alonepapers': {'alone_paper': ['net', 'holders', 'giving', 'house']},
    'alonechecker': {'lets_alone': ['net', 'holders', 'giving', 'house', 'thing']},
    'soundness': {name: ['net', 'holders', 'giving'] for name in ('is_sound', 'short_set', 'lead_on')},
    'soundpapers': {'sound_paper': ['net', 'holders', 'giving']},
    'soundchecker': {'lets_sound': ['net', 'holders', 'giving', 'thing']},
    'guarding': {
        'is_let': ['net', 'holders', 'giving', 'wire', 'piece'], 'let_givings': ['net', 'holders', 'giving'],
    },
    'tight': {
        'least_tight': ['net', 'holders', 'giving', 'house'], 'needed_wires': ['net', 'holders', 'giving'],
    },
    'further': {
        'enough': ['net', 'holders', 'giving', 'numbers'], 'spared': ['net', 'holders', 'giving', 'numbers'],
        'fewest_further': ['net', 'holders', 'giving'], 'further_copies': ['net', 'holders', 'giving'],
        'apart_sets': ['net', 'holders', 'giving'],
    },
    'furtherpapers': {'further_paper': ['net', 'holders', 'giving']},
    'furtherchecker': {'lets_further': ['net', 'holders', 'giving', 'thing']},
    'losses': {
        'strength': ['net', 'holders', 'giving'], 'weakest': ['net', 'holders', 'giving'],
        'after_loss': ['net', 'holders', 'giving', 'wires'],
    },
    'rooms': {'room_for': ['net', 'holders', 'giving', 'houses']},
    'bulkchecker': {'lets_bulks': ['thing']},
    'bulks': {'bulk_alone': ['bulks', 'house'], 'bulks_sound': ['bulks'], 'bulks_short': ['bulks']},
    'logkinds': {'is_log': ['thing']},
    'through': {'spread_through': ['spread', 'events']},
    'replaying': {'replayed': ['log']},
    'eventtexts': {'event_line': ['event'], 'log_lines': ['log']},
    'eventreadings': {'read_event': ['line'], 'read_log': ['lines']},
}
OBJECTS = ('__init__', '__len__', '__iter__', '__eq__')
OPERATORS = (*OBJECTS, '__getitem__', '__contains__', '__str__', '__add__', '__sub__')
CLASSES = {
    ('nets', 'Net'): (['houses', '*wires'], OPERATORS, {
        'net': property, 'bearing': property, 'of': classmethod, 'read': classmethod, 'ring': staticmethod,
    }),
    ('starts', 'Start'): (['net', '*sets'], (*OPERATORS, 'copied'), {
        'net': property, 'holders': property, 'of': classmethod, 'read': classmethod,
    }),
    ('courses', 'Course'): (['net', 'holders', '*pairs'], (*OBJECTS, 'giving_after', 'came_at', 'followed'), {
        'net': property, 'holders': property, 'pairs': property, 'giving': property, 'refused': property,
        'lackings': property, 'along': classmethod,
    }),
    ('spreads', 'Spread'): (['net', 'holders'], (
        *OBJECTS, '__call__', '__contains__', '__enter__', '__exit__', 'left_case', 'state', 'short_now', 'give', 'lose',
        'lay', 'apply', 'barred', 'tried', 'undo', 'do_all', 'tally', 'log', 'shut',
    ), {
        'net': property, 'holders': property, 'giving': property, 'having': property, 'lost': property,
        'is_shut': property, 'MOST': int,
    }),
    ('guarded', 'Guarded'): (['net', 'holders'], ('__init__', 'barred'), {}),
    ('desk', 'Desk'): ([], ('__init__', 'say', 'counts'), {}),
}
PARAMETERS = {
    'giving_after': ['k'], 'came_at': ['house', 'piece'], 'followed': ['wire', 'piece'],
    'along': ['net', 'holders', 'pairs'], 'copied': ['piece', 'house'],
    'left_case': [], 'state': [], 'short_now': [], 'give': ['wire', 'piece'], 'lose': ['wire'], 'lay': ['piece', 'house'],
    'apply': ['event'], '__call__': ['event'], 'barred': ['event'], 'tried': ['*events'], 'undo': [],
    'do_all': ['*events', 'keep=False'], 'tally': [], 'log': [], 'shut': [], 'say': ['row'], 'counts': [],
}


def names_of(call):
    """Return the names of the parameters of a call, with a star where there is one."""
    return [str(parameter) for parameter in inspect.signature(call).parameters.values()]


class InterfaceTest(unittest.TestCase):

    def test_functions(self):
        for module, functions in FUNCTIONS.items():
            file = import_module('allpieces.' + module)
            for name, parameters in functions.items():
                function = vars(file)[name]
                self.assertTrue(inspect.isfunction(function))
                self.assertEqual(function.__module__, 'allpieces.' + module)
                self.assertEqual(names_of(function), parameters)

    def test_classes(self):
        for (module, name), (parameters, methods, listed) in CLASSES.items():
            shape = vars(import_module('allpieces.' + module))[name]
            self.assertTrue(inspect.isclass(shape))
            self.assertEqual(shape.__module__, 'allpieces.' + module)
            self.assertEqual(names_of(shape), parameters)
            for method in methods:
                self.assertTrue(inspect.isfunction(vars(shape)[method]))
            for method, kind in listed.items():
                self.assertIsInstance(vars(shape)[method], kind)

    def test_parameters_of_methods(self):
        for (module, name), (_, methods, listed) in CLASSES.items():
            shape = vars(import_module('allpieces.' + module))[name]
            for method in {*methods, *listed} & set(PARAMETERS):
                call = getattr(shape, method)
                bound = inspect.ismethod(call)
                self.assertEqual(names_of(call), PARAMETERS[method] if bound else ['self', *PARAMETERS[method]])


if __name__ == '__main__':
    unittest.main()
