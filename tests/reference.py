"""The language as [11] to [13] tell it, as a recursive interpreter, and random bodies for it."""

import random

from runlore.values import Fault


class Failed(Exception):
    def __init__(self, fault):
        self.fault = fault


class Tuple:
    """A tuple that the run made, with its weight and nesting."""

    def __init__(self, parts):
        self.parts = list(parts)
        self.weight = 1 + sum(weight(part) for part in self.parts)
        self.nest = 1 + max([nest(part) for part in self.parts], default=0)


def weight(thing):
    return thing.weight if isinstance(thing, Tuple) else 1


def nest(thing):
    return thing.nest if isinstance(thing, Tuple) else 0


def raw(thing):
    return tuple(raw(part) for part in thing.parts) if isinstance(thing, Tuple) else thing


def is_tuple(thing):
    return isinstance(thing, (Tuple, tuple))


def parts(thing):
    return thing.parts if isinstance(thing, Tuple) else list(thing)


class Interpreter:
    def __init__(self, definitions, given):
        self.definitions = {definition[0]: definition for definition in definitions}
        self.given = given
        self.work = 0
        self.calls = 0
        self.where = ''

    def fail(self, word, path):
        raise Failed(Fault(word, self.where, path))

    def add(self, more, path):
        self.work += more
        if self.work > 4096:
            self.fail('long', path)

    def made(self, things, path):
        thing = Tuple(things)
        self.add(thing.weight, path)
        if thing.nest > 30:
            self.fail('long', path)
        return thing

    def want(self, good, path, word='kind'):
        if not good:
            self.fail(word, path)

    def read(self, name, path):
        if isinstance(self.given[name], Fault):
            self.fail('read', path)
        return self.given[name]

    def value(self, t, path, env):
        def sub(index, inner=None):
            return self.value(t[index], path + (index,), env if inner is None else inner)

        word = t[0]
        if word in ('int', 'atom'):
            return t[1]
        if word == 'name':
            return env[t[1]]
        if word == 'plus':
            thing = sub(1)
            self.want(isinstance(thing, int), path)
            return thing + t[2]
        if word == 'tuple':
            return self.made([self.value(s, path + (1, i), env) for i, s in enumerate(t[1])], path)
        if word == 'part':
            thing = sub(1)
            self.want(is_tuple(thing), path)
            self.want(t[2] < len(parts(thing)), path, 'part')
            return parts(thing)[t[2]]
        if word == 'join':
            one, other = sub(1), sub(2)
            self.want(is_tuple(one) and is_tuple(other), path)
            return self.made(parts(one) + parts(other), path)
        if word == 'read':
            return self.read(t[1], path)
        if word == 'reach':
            thing = sub(1)
            self.want(isinstance(thing, str), path)
            self.want(thing in self.given, path, 'name')
            return self.read(thing, path)
        if word == 'call':
            return self.call(t, path, env)
        if word == 'let':
            return sub(3, {**env, t[1]: sub(2)})
        if word == 'if':
            return sub(2) if self.test(t[1], path + (1,), env) else sub(3)
        if word == 'fail':
            return self.fail(t[1], path)
        return self.loop(t, path, env, sub)

    def call(self, t, path, env):
        things = [self.value(s, path + (2, i), env) for i, s in enumerate(t[2])]
        self.add(1, path)
        if self.calls >= 12:
            self.fail('long', path)
        name, names, _, body = self.definitions[t[1]]
        before, self.where = self.where, name
        self.calls += 1
        thing = self.value(body, (), dict(zip(names, things)))
        self.calls -= 1
        self.where = before
        return thing

    def loop(self, t, path, env, sub):
        if t[0] == 'fold':
            held, thing = sub(2), sub(4)
            self.want(is_tuple(thing), path)
            for part in parts(thing):
                self.add(1, path)
                held = sub(5, {**env, t[1]: held, t[3]: part})
            return held
        thing = sub(2)
        self.want(is_tuple(thing), path)
        found = []
        for part in parts(thing):
            self.add(1, path)
            inner = {**env, t[1]: part}
            if t[0] == 'each':
                found.append(sub(3, inner))
            elif self.test(t[3], path + (3,), inner):
                found.append(part)
        return self.made(found, path)

    def test(self, t, path, env):
        def sub(index):
            return self.value(t[index], path + (index,), env)

        def sub_test(index):
            return self.test(t[index], path + (index,), env)

        word = t[0]
        if word == 'is':
            thing = sub(2)
            kind = 'tuple' if is_tuple(thing) else 'atom' if isinstance(thing, str) else 'integer'
            return kind == t[1]
        if word == 'sized':
            thing = sub(1)
            self.want(is_tuple(thing), path)
            return len(parts(thing)) == t[2]
        if word == 'most':
            one, other = sub(1), sub(3)
            self.want(isinstance(one, int) and isinstance(other, int), path)
            return one + t[2] <= other
        if word == 'alike':
            one, other = sub(1), sub(2)
            self.want(isinstance(one, str) and isinstance(other, str), path)
            return one == other
        if word == 'not':
            return not sub_test(1)
        if word == 'both':
            return sub_test(1) and sub_test(2)
        return sub_test(1) or sub_test(2)


def run(definitions, body, given, rule=''):
    interpreter = Interpreter(definitions, given)
    interpreter.where = rule
    try:
        return raw(interpreter.value(body, (), {}))
    except Failed as e:
        return e.fault


class Writer:
    """Random bodies, mostly without faults."""

    def __init__(self, seed, names):
        self.chance = random.Random(seed)
        self.names = names
        self.many = 0

    def fresh(self):
        self.many += 1
        return 'n' + ''.join('abcdefghij'[int(digit)] for digit in str(self.many))

    def expression(self, deep, scope, calls=()):
        chance = self.chance
        plain = ['int', 'atom', 'read', 'read', 'name', 'name']
        rich = ['plus', 'tuple', 'tuple', 'part', 'join', 'reach', 'let', 'if', 'each', 'pick', 'fold', 'fold', 'call']
        word = chance.choice(plain if deep == 0 else rich + plain[:3])
        if word == 'name' and not scope or word == 'call' and not calls:
            word = 'read'
        if word == 'int':
            return (word, chance.randint(-3, 3))
        if word == 'atom':
            return (word, chance.choice(('a', 'b', 'x')))
        if word == 'read':
            return (word, chance.choice(self.names))
        if word == 'name':
            return (word, chance.choice(scope))
        if chance.random() < 0.02:
            return ('fail', 'bad')
        return self.compound(word, deep - 1, scope, calls)

    def compound(self, word, deep, scope, calls):
        chance = self.chance

        def sub(more=()):
            return self.expression(deep, scope + tuple(more), calls)

        if word in ('plus', 'part'):
            return (word, sub(), chance.randint(0, 2))
        if word == 'tuple':
            return (word, tuple(sub() for _ in range(chance.randint(0, 3))))
        if word == 'join':
            return (word, sub(), sub())
        if word == 'reach':
            return (word, sub() if chance.random() < 0.2 else ('atom', chance.choice(self.names)))
        if word == 'call':
            name, many = chance.choice(calls)
            return (word, name, tuple(sub() for _ in range(many)))
        if word == 'if':
            return (word, self.test(deep, scope, calls), sub(), sub())
        x = self.fresh()
        if word in ('let', 'each'):
            return (word, x, sub(), sub([x]))
        if word == 'pick':
            return (word, x, sub(), self.test(deep, scope + (x,), calls))
        a = self.fresh()
        return ('fold', a, sub(), x, sub(), sub([a, x]))

    def test(self, deep, scope, calls):
        chance = self.chance
        word = chance.choice(['is', 'is', 'sized', 'most', 'most', 'alike', 'not', 'both', 'either'])
        if deep <= 0 and word in ('not', 'both', 'either'):
            word = 'is'

        def sub():
            return self.expression(max(deep - 1, 0), scope, calls)

        def sub_test():
            return self.test(deep - 1, scope, calls)

        if word == 'is':
            return (word, chance.choice(('integer', 'atom', 'tuple')), sub())
        if word == 'sized':
            return (word, sub(), chance.randint(0, 2))
        if word == 'most':
            return (word, sub(), chance.randint(-1, 1), sub())
        if word == 'alike':
            return (word, sub(), sub())
        if word == 'not':
            return (word, sub_test())
        return (word, sub_test(), sub_test())
