"""Runs the tests in the files test_*.py of the folders that are told, and of the folders in them."""
import os
import sys
import unittest

sys.dont_write_bytecode = True


def folders_with_tests(folder):
    """The folders that hold tests: the folder itself and those in it."""
    found = []
    for path, _, files in sorted(os.walk(folder)):
        if any(name.startswith("test_") and name.endswith(".py") for name in files):
            found.append(path)
    return found


def main():
    sys.path.insert(0, os.getcwd())
    passed = failed = skipped = 0
    for folder in sys.argv[1:]:
        for path in folders_with_tests(folder):
            suite = unittest.TestLoader().discover(path, pattern="test_*.py", top_level_dir=path)
            result = unittest.TextTestRunner(verbosity=1).run(suite)
            bad = len(result.failures) + len(result.errors) + len(result.unexpectedSuccesses)
            failed += bad
            skipped += len(result.skipped)
            passed += result.testsRun - bad - len(result.skipped)
            for name in [name for name in sys.modules if name.startswith("test_")]:
                del sys.modules[name]
    print(f"{passed} passed, {failed} failed, {skipped} skipped")
    return 1 if failed or not passed else 0


if __name__ == "__main__":
    sys.exit(main())
