"""Run every test_*.py below a folder: suite.py FOLDER LEAST.

Fails if a test fails, or if fewer than LEAST tests were run (skipped ones aren't run).
"""

import importlib.util
import sys
import unittest
from pathlib import Path


def module_of(path, number):
    """Load a test file under a name of its own, so that files called alike in two folders are both run."""
    folder = str(path.parent)
    if folder not in sys.path:
        sys.path.insert(0, folder)
    spec = importlib.util.spec_from_file_location(f"{path.stem}_{number}", path)
    module = importlib.util.module_from_spec(spec)
    sys.modules[spec.name] = module
    spec.loader.exec_module(module)
    return module


def suite_of(paths):
    loader = unittest.TestLoader()
    return unittest.TestSuite([loader.loadTestsFromModule(module_of(path, number))
                               for number, path in enumerate(paths)])


def failed_tests(result):
    """The names of the tests that failed, each once, however many of its subtests did."""
    tests = [test for test, why in result.failures + result.errors] + list(result.unexpectedSuccesses)
    return {getattr(test, "test_case", test).id() for test in tests}


def main(folder, least):
    paths = sorted(Path(folder).resolve().rglob("test_*.py"))
    if not paths:
        print(f"no test file under {folder}")
        return least > 0
    result = unittest.TextTestRunner(stream=sys.stdout).run(suite_of(paths))
    failed = len(failed_tests(result))
    skipped = len(result.skipped)
    ran = result.testsRun - skipped
    print(f"{max(ran - failed, 0)} passed, {failed} failed, {skipped} skipped", flush=True)
    return not result.wasSuccessful() or ran < least


if __name__ == "__main__":
    sys.exit(main(sys.argv[1], int(sys.argv[2])))
