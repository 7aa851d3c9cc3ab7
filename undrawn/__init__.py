"""Sample large objects only where they are queried."""
