"""Runs the tests test_*.py in the folders that are named, and in all folders below them.

Each folder's tests run in a process of their own, so that files in two folders may
have one name. Ends with a line that counts the tests, and with 1 if one failed or
none was found.
"""

import json
import os
import subprocess
import sys
import unittest


def folders_with_tests(top):
    """The folders from top on that hold a test."""
    found = []
    for folder, below, files in os.walk(top):
        below.sort()
        if any(name.startswith('test_') and name.endswith('.py') for name in files):
            found.append(folder)
    return found


def run_folder(folder):
    """Runs the tests of one folder; its last line tells how many passed and failed."""
    suite = unittest.defaultTestLoader.discover(folder, 'test_*.py', top_level_dir=folder)
    result = unittest.TextTestRunner(stream=sys.stdout, verbosity=1).run(suite)
    bad = len(result.failures) + len(result.errors) + len(result.unexpectedSuccesses)
    print()
    print(json.dumps([max(result.testsRun - bad, 0), bad]))


def counted(folder):
    """Passed and failed tests of a folder; a process that breaks off is a failure."""
    done = subprocess.run([sys.executable, __file__, '--folder', folder], stdout=subprocess.PIPE, text=True)
    lines = done.stdout.splitlines()
    print('\n'.join(lines[:-1]), flush=True)
    if done.returncode != 0 or not lines:
        print('\n'.join(lines[-1:]), flush=True)
        return 0, 1
    return json.loads(lines[-1])


def main(tops):
    passed = failed = 0
    for top in tops:
        for folder in folders_with_tests(top):
            print(f'tests in {folder}', flush=True)
            good, bad = counted(folder)
            if good + bad == 0:
                print(f'no test ran in {folder}', flush=True)
                bad = 1
            passed, failed = passed + good, failed + bad
    print(f'{passed} passed, {failed} failed')
    return 0 if passed and not failed else 1


if __name__ == '__main__':
    if sys.argv[1:2] == ['--folder']:
        run_folder(sys.argv[2])
    else:
        sys.exit(main(sys.argv[1:]))
