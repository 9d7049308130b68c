"""Runs the tests of one folder and tells how many passed and how many failed."""

import os
import sys
import unittest


def run(folder):
    """Whether there are tests in the files test_*.py of the folder and all of them pass."""
    sys.path.insert(0, folder)
    names = sorted(name[:-3] for name in os.listdir(folder) if name.startswith("test_") and name.endswith(".py"))
    # a file that cannot be imported becomes a test that fails
    suite = unittest.defaultTestLoader.loadTestsFromNames(names)
    result = unittest.TextTestRunner(stream=sys.stdout).run(suite)
    bad = len(result.failures) + len(result.errors) + len(result.unexpectedSuccesses)
    print(f"{max(0, result.testsRun - bad)} passed, {bad} failed", flush=True)
    return result.wasSuccessful() and result.testsRun > 0


sys.exit(0 if run(os.path.abspath(sys.argv[1])) else 1)
